import PyProof.Rows.All
import Wide.All
import OpenK.AllK
import Wide.FinOn
import Lean
import PyProof.EqAt
import PyProof.EqKinds
import PyProof.TupleCall
import PyProof.EqLayable
import PyProof.ExcArgsOwn
import PyProof.ExcAttrAll.Exception
import PyProof.RulesAs
import PyProof.ExcBaseAll.ValueError
import PyProof.NsDelKeeps
import KE.KRevSl
import OpenK.KOps
import OpenK.KWalk
import PyProof.DictUpdate
import PyProof.DictTruth
import PyProof.DictDisplay
import KE.KDictOf
import PyProof.AttrMissSeq
import PyProof.WalksS
import KE.KDictSum
import PyProof.TupleKey
import PyProof.SetKind
import PyProof.Rows.SetFrom
import PySem.Challenge.RW_fewnotes_k40_whole_order_or_ring
set_option Elab.async false
set_option linter.all false
set_option maxRecDepth 100000
namespace L2
open PySem PySem.Spec PyProof.Rows
abbrev Key:=Sum Int Str
def ud:Key->Value->Bool
 | .inl k,v=>Value.isInt k v
 | .inr x,v=>Value.isStrOf x v
def aal (w:World):Key->Int
 | .inl k=>hashInt k
 | .inr x=>hashStr w x
theorem cO:∀{k:Key} {v:Value},ud k v=true->(∃i t,k=Sum.inl i/\v=Value.int i t)\/(∃x t,k=Sum.inr x/\v=Value.str x t)
 | .inl i,v,h=>by
   obtain ⟨t,e⟩:=Value.isInt_shape (k:=i) (v:=v) h;exact .inl ⟨i,t,rfl,e⟩
 | .inr x,v,h=>by
   obtain ⟨t,e⟩:=Value.isStrOf_shape (x:=x) (v:=v) h;exact .inr ⟨x,t,rfl,e⟩
theorem Ep (i:Int) (t:Tok):ud (.inl i) (.int i t)=true:=by simp [ud,Value.isInt]
theorem Eo (x:Str) (t:Tok):ud (.inr x) (.str x t)=true:=by simp [ud,Value.isStrOf]
theorem Qn (a b:Int):decide ((Sum.inl a:Key)=Sum.inl b)=(a==b):=by
 by_cases e:a=b
 ·subst e;simp
 ·have h:¬(Sum.inl a:Key)=Sum.inl b:=fun q=>e (Sum.inl.inj q)
  rw [decide_eq_false h];exact (beq_eq_false_iff_ne.mpr e).symm
theorem Qk (a b:Str):decide ((Sum.inr a:Key)=Sum.inr b)=decide (a=b):=by
 by_cases e:a=b
 ·subst e;simp
 ·have h:¬(Sum.inr a:Key)=Sum.inr b:=fun q=>e (Sum.inr.inj q)
  rw [decide_eq_false h,decide_eq_false e]
theorem Qm (a:Int) (b:Str):decide ((Sum.inl a:Key)=Sum.inr b)=false:=decide_eq_false (fun q=>nomatch q)
theorem Ql (a:Str) (b:Int):decide ((Sum.inr a:Key)=Sum.inl b)=false:=decide_eq_false (fun q=>nomatch q)
def bB (prog:Program) (w:World):PySem.KeyKind prog w Key where
 is:=ud
 hash:=aal w
 inj:=fun v a b ha hb=>by
  rcases cO ha with ⟨i,t,rfl,rfl⟩|⟨x,t,rfl,rfl⟩
  ·rcases cO hb with ⟨j,u,rfl,e⟩|⟨y,u,rfl,e⟩
   ·injection e with e1 _;rw [e1]
   ·exact nomatch e
  ·rcases cO hb with ⟨j,u,rfl,e⟩|⟨y,u,rfl,e⟩
   ·exact nomatch e
   ·injection e with e1 _;rw [e1]
 byValue:=fun k v h=>by
  rcases cO h with ⟨i,t,rfl,rfl⟩|⟨x,t,rfl,rfl⟩<;>rfl
 pyHash:=fun hv h=>by
  rcases cO hv with ⟨i,t,rfl,rfl⟩|⟨x,t,rfl,rfl⟩
  ·exact wpAny_pyHash_int h
  ·exact wpAny_pyHash_str h
 eqBool:=fun hu hv h=>by
  rcases cO hu with ⟨i,t,rfl,rfl⟩|⟨x,t,rfl,rfl⟩
  ·rcases cO hv with ⟨j,u,rfl,rfl⟩|⟨y,u,rfl,rfl⟩
   ·rw [Qn] at h;exact wpAny_eqBool_int h
   ·rw [Qm] at h;exact SeqAt.EqAt.int_str i t y u _ _ _ _ h
  ·rcases cO hv with ⟨j,u,rfl,rfl⟩|⟨y,u,rfl,rfl⟩
   ·rw [Ql] at h;exact SeqAt.EqAt.str_int x t j u _ _ _ _ h
   ·rw [Qk] at h;exact wpAny_eqBool_str h
 «strs» :=fun k x t v h=>by
  rcases cO h with ⟨i,u,rfl,e⟩|⟨y,u,rfl,e⟩
  ·exact nomatch e
  ·injection e with e1 _
   subst e1;cases v<;>rfl
theorem xJ (prog:Program) (w:World) (i:Int) (t:Tok):(bB prog w).is (.inl i) (.int i t)=true:=Ep i t
theorem xH (prog:Program) (w:World) (x:Str) (t:Tok):(bB prog w).is (.inr x) (.str x t)=true:=Eo x t
end L2
namespace L2
open PySem PySem.Spec PyProof.Rows
inductive V where
 | non|bl (b:Bool)|int (i:Int)|str (x:Str)|CT (b:Array UInt8)|flt (b:UInt64)|ref (a:Addr)|ty (n:String)
 deriving DecidableEq
def RelV:V->Value->Prop
 | .non,u=>u=Value.none
 | .bl b,u=>u=Value.bool b
 | .int i,u=>∃t,u=Value.int i t
 | .str x,u=>∃t,u=Value.str x t
 | .CT b,u=>∃t,u=Value.bytes b t
 | .flt b,u=>∃t,u=Value.float b t
 | .ref a,u=>u=Value.ref a
 | .ty n,u=>u=Value.type n
abbrev Vals:List V->List Value->Prop:=Paired RelV
theorem Vals.length {xs:List V} {us:List Value} (r:Vals xs us):xs.length=us.length:=Paired.length r
theorem Vals.get:∀{xs:List V} {us:List Value} {i:Nat} {x:V},Vals xs us->xs[i]? = some x -> ∃u,us[i]? = some u/\RelV x u
 | _,_,_,_,.nil,e=>by simp at e
 | _,_,0,_,.cons r _,e=>by simp at e;subst e;exact ⟨_,rfl,r⟩
 | _,_,i+1,x,.cons _ t,e=>by
   obtain ⟨u,h1,h2⟩:=Vals.get (i:=i) (x:=x) t (by simpa using e);exact ⟨u,by simpa using h1,h2⟩
theorem Vals.set {x:V} {u:Value} (r:RelV x u):∀{xs:List V} {us:List Value} (i:Nat),Vals xs us->Vals (xs.set i x) (us.set i u)
 | _,_,_,.nil=> .nil
 | _,_,0,.cons _ t=> .cons r t
 | _,_,i+1,.cons q t=> .cons q (Vals.set r i t)
theorem Vals.append {xs ys:List V} {us ws:List Value} (h:Vals xs us) (s:Vals ys ws):Vals (xs++ys) (us++ws):=by
 induction h with
 | nil=>exact s
 | cons r t ih=>exact .cons r ih
theorem Vals.take:∀{xs:List V} {us:List Value} (n:Nat),Vals xs us->Vals (xs.take n) (us.take n)
 | _,_,0,_=> .nil
 | _,_,_+1,.nil=> .nil
 | _,_,n+1,.cons r t=> .cons r (Vals.take n t)
theorem Vals.drop:∀{xs:List V} {us:List Value} (n:Nat),Vals xs us->Vals (xs.drop n) (us.drop n)
 | _,_,0,r=>r
 | _,_,_+1,.nil=> .nil
 | _,_,n+1,.cons _ t=>Vals.drop n t
def mH:Option V->Option Value->Prop
 | some v,some u=>RelV v u
 | none,none=>True
 | _,_=>False
def KV {κ:Type}:List (κ×V)->List (κ×Value)->Prop:=Paired fun (p:κ×V) (q:κ×Value)=>p.1=q.1/\RelV p.2 q.2
def kV:Key->V
 | .inl i=> .int i
 | .inr x=> .str x
inductive HO where
 | lst (xs:List V)
 | tup (xs:List V)
 | dK (kvs:List (Key×V))|dT (kvs:List (List Key×V))
 | set (S:Int->Bool) (n:Nat)
 | ins (C dx:Addr) (fs:List (Str×V))
 | own (x:Addr)
 | xd (fs:List (Str×V))
 | met (f x:Addr)
 | rng (lo hi:Int)
 | kh (o:Obj) (u:HO)
 | MN (ps:Array Value)
 | ext (φ:Heap->Prop)
abbrev Hp:=Addr->Option HO
def upd (H:Hp) (a:Addr) (o:HO):Hp:=fun b=>if b=a then some o else H b
theorem aA {H:Hp} {a:Addr} {o:HO}:upd H a o a=some o:=by unfold upd;rw [if_pos rfl]
theorem bA {H:Hp} {a b:Addr} {o:HO} (h:b≠a):upd H a o b=H b:=by unfold upd;rw [if_neg h]
theorem lO {H:Hp} {a b:Addr} {o u:HO} (h:H a=some o) (h':H b=some u) (d:o≠u):a≠b:=by
 intro e;subst e;rw [h] at h';exact d (Option.some.inj h')
theorem aC {H:Hp} {a b:Addr} {o:HO} (h:H a=some o) (h':H b=none):a≠b:=by
 intro e;subst e;rw [h] at h';cases h'
section
variable (P:Program) (w:World)
def bO (H:Hp) (h:Heap) (a:Addr):HO->Prop
 | .lst xs=>xs.length<=sizeLine /\ ∃(its:List Value) (n:Nat),Vals xs its/\h.get? a=some {cls:= .type "list",data:= .seq its.toArray n}
 | .tup xs=>xs.length<=sizeLine /\ ∃its:List Value,Vals xs its/\IsTup h a its.toArray
 | .dK kvs=>kvs.length<=sizeLine/\(a==sysModules)=false /\ ∃vs,KV kvs vs/\h.DictOf (bB P w) a vs
 | .dT kvs=>kvs.length<=sizeLine/\(a==sysModules)=false /\ ∃xs:List (List Key×Addr×Value),
    Paired (fun (p:List Key×V) (q:List Key×Addr×Value)=>p.1=q.1/\H q.2.1=some (.tup (p.1.map kV))/\RelV p.2 q.2.2) kvs xs /\
    ∃o es ep,h.get? a=some o/\o.ExactDict/\o.data = .dict es ep/\es.toList=xs.map (entryOfKey (tupleKind (bB P w)))/\(xs.map (·.1)).Nodup
 | .set S n=>h.SetOf (intKind P w) a S n
 | .ins C dx fs=>H dx=some (.own a)/\fs.length<=1000/\dx≠a/\h.get? a=some (PySem.W.instObj C dx) /\
    ∃mA,h.Ns1 dx mA/\(∀f,mH (fs.lookup f) (mA f))/\PySem.Within mA (fs.map (·.1))
 | .own _=>∃o,h.get? a=some o
 | .xd fs=>∃mA,h.Ns1 a mA /\ ∀f,mH (fs.lookup f) (mA f)
 | .rng lo hi=>∃t u v,h.get? a=some {cls:= .type "range",data:= .fields #[.int lo t,.int hi u,.int 1 v]}
 | .kh o u=>h.get? a=some o/\bO H h a u
 | .MN ps=>h.get? a=some {cls:= .none,data:= .fields ps}
 | .met f x=>h.get? a=some (PySem.W.methodObj (.ref f) (.ref x))
 | .ext φ=>φ h/\(∃o,h.get? a=some o) /\ ∀h1 h2:Heap,φ h1->(∀o,h1.get? a=some o->h2.get? a=some o)->φ h2
def kW (H:Hp) (h:Heap):Prop:=∀a o,H a=some o->bO P w H h a o
end
section
variable {P:Program} {w:World} {H H':Hp} {h h':Heap} {a:Addr} {o:HO}
theorem bO.lt (x:bO P w H h a o):a<h.objs.size:=by
 cases o with
 | lst xs=>obtain ⟨_,_,_,_,e⟩:=x;exact Heap.lt_size e
 | tup xs=>obtain ⟨_,_,_,p⟩:=x;exact p.lt
 | dK kvs=>obtain ⟨_,_,_,_,o,_,_,e,_⟩:=x;exact Heap.lt_size e
 | dT kvs=>obtain ⟨_,_,_,_,o,_,_,e,_⟩:=x;exact Heap.lt_size e
 | set S n=>obtain ⟨o,_,_,_,e,_⟩:=x;exact Heap.lt_size e
 | ins C dx fs=>obtain ⟨_,_,_,e,_⟩:=x;exact Heap.lt_size e
 | own y=>obtain ⟨_,e⟩:=x;exact Heap.lt_size e
 | xd fs=>obtain ⟨_,⟨_,_,_,e,_⟩,_⟩:=x;exact Heap.lt_size e
 | rng lo hi=>obtain ⟨_,_,_,e⟩:=x;exact Heap.lt_size e
 | kh ob u=>obtain ⟨e,_⟩:=x;exact Heap.lt_size e
 | MN ps=>exact Heap.lt_size (show h.get? a=some _ from x)
 | met f y=>exact Heap.lt_size (show h.get? a=some _ from x)
 | ext φ=>obtain ⟨_,⟨_,e⟩,_⟩:=x;exact Heap.lt_size e
theorem Paired.Qg {α β:Type} {F G:α->β->Prop}:∀{l₁:List α} {l₂:List β},Paired F l₁ l₂->(∀a b,F a b->G a b)->Paired G l₁ l₂
 :=by
 intro l₁ l₂ h f
 induction h with
 | nil=>exact .nil
 | cons r t ih=>exact .cons (f _ _ r) ih
theorem bO.stay (x:bO P w H h a o) (k:∀b u,(b=a\/H b=some (.own a))->h.get? b=some u->h'.get? b=some u)
 (ho:∀b,H b=some (.own a)->H' b=some (.own a)) (ht:∀b xs,H b=some (.tup xs)->H' b=some (.tup xs)):bO P w H' h' a o:=by
 induction o with
 | lst xs=>obtain ⟨z,its,n,r,e⟩:=x;exact ⟨z,its,n,r,k _ _ (.inl rfl) e⟩
 | tup xs=>obtain ⟨z,its,r,ob,e,c⟩:=x;exact ⟨z,its,r,ob,k _ _ (.inl rfl) e,c⟩
 | dK kvs=>obtain ⟨z,y,vs,r,ob,es,ep,e,c⟩:=x;exact ⟨z,y,vs,r,ob,es,ep,k _ _ (.inl rfl) e,c⟩
 | dT kvs=>
   obtain ⟨z,y,xs,r,ob,es,ep,e,c⟩:=x;exact ⟨z,y,xs,Paired.Qg r fun p q z=>⟨z.1,ht _ _ z.2.1,z.2.2⟩,ob,es,ep,k _ _ (.inl rfl) e,c⟩
 | set S n=>obtain ⟨ob,es,ep,t,e,c⟩:=x;exact ⟨ob,es,ep,t,k _ _ (.inl rfl) e,c⟩
 | ins C dx fs=>
   obtain ⟨d,z,ne,e,mA,⟨od,es,ep,e2,c⟩,r⟩:=x;exact ⟨ho _ d,z,ne,k _ _ (.inl rfl) e,mA,⟨od,es,ep,k _ _ (.inr d) e2,c⟩,r⟩
 | own y=>obtain ⟨ob,e⟩:=x;exact ⟨ob,k _ _ (.inl rfl) e⟩
 | xd fs=>obtain ⟨mA,⟨od,es,ep,e,c⟩,r⟩:=x;exact ⟨mA,⟨od,es,ep,k _ _ (.inl rfl) e,c⟩,r⟩
 | rng lo hi=>obtain ⟨t,u,v,e⟩:=x;exact ⟨t,u,v,k _ _ (.inl rfl) e⟩
 | kh ob u ih=>obtain ⟨e,q⟩:=x;exact ⟨k _ _ (.inl rfl) e,ih q⟩
 | MN ps=>
   have e:h.get? a=some {cls:= .none,data:= .fields ps}:=x;show h'.get? a=some {cls:= .none,data:= .fields ps};exact k a _ (.inl rfl) e
 | met f y=>
   have e:h.get? a=some (PySem.W.methodObj (.ref f) (.ref y)):=x;show h'.get? a=some (PySem.W.methodObj (.ref f) (.ref y));exact k a _ (.inl rfl) e
 | ext φ=>obtain ⟨p,⟨o,e⟩,st⟩:=x;exact ⟨st _ _ p fun o q=>k _ _ (.inl rfl) q,⟨o,k _ _ (.inl rfl) e⟩,st⟩
theorem kW.lt (x:kW P w H h) (e:H a=some o):a<h.objs.size:=(x a o e).lt
theorem kW.fresh (x:kW P w H h) (e:h.objs.size<=a):H a=none:=by
 cases q:H a with
 | none=>rfl
 | some u=>exact absurd (Nat.lt_of_lt_of_le (x.lt q) e) (Nat.lt_irrefl _)
theorem kW.kept (x:kW P w H h) (k:∀b u,h.get? b=some u->h'.get? b=some u):kW P w H h':=fun a o e=>
 (x a o e).stay (fun b u _ q=>k b u q) (fun _ q=>q) fun _ _ q=>q
theorem kW.laid (x:kW P w H h) (k:∀b u,h.get? b=some u->h'.get? b=some u) (hp:h.objs.size<=a) (new:bO P w (upd H a o) h' a o):kW P w (upd H a o) h':=fun b u e=>by
 have hn:=x.fresh hp
 by_cases hb:b=a
 ·subst hb;rw [aA] at e;cases e;exact new
 ·rw [bA hb] at e
  exact (x b u e).stay (fun c v _ q=>k c v q) (fun c q=>by rw [bA (aC q hn)];exact q) fun c xs q=>by rw [bA (aC q hn)];exact q
end
def Rd (H:Hp) (a:Addr) (u:HO):Prop:=H a=some u \/ ∃o,H a=some (.kh o u)
theorem Rd.ok {P:Program} {w:World} {H:Hp} {h:Heap} {a:Addr} {u:HO} (r:Rd H a u) (x:kW P w H h):bO P w H h a u:=by
 rcases r with r|⟨o,r⟩
 ·exact x a u r
 ·obtain ⟨_,q⟩:=x a _ r
  exact q
def Vr:Option HO->Prop
 | some (.lst _)=>True
 | some (.dK _)=>True
 | some (.dT _)=>True
 | some (.set _ _)=>True
 | some (.ins _ _ _)=>True
 | some (.ext _)=>True
 | _=>False
section
variable {P:Program} {w:World} {H:Hp} {h h':Heap} {x e:Addr} {o':HO}
theorem kW.write (ok:kW P w H h) (mu:Vr (H x)) (he:e=x\/H e=some (.own x)) (k:∀b u,b≠e->h.get? b=some u->h'.get? b=some u) (heo:∃u,h'.get? e=some u)
 (new:bO P w (upd H x o') h' x o'):kW P w (upd H x o') h':=fun b u q=>by
 have Ec:∀c y,H c=some (.own y)->c≠x:=fun c y r z=>by subst z;rw [r] at mu;exact mu
 have Zz:∀c xs,H c=some (.tup xs)->c≠x:=fun c xs r z=>by subst z;rw [r] at mu;exact mu
 by_cases hb:b=x
 ·subst hb;rw [aA] at q;cases q;exact new
 ·rw [bA hb] at q
  by_cases hbe:b=e
  ·have q':H b=some (.own x):=by
    rcases he with z|z
    ·exact absurd (hbe.trans z) hb
    ·rw [hbe];exact z
   rw [q] at q';cases q';obtain ⟨v,hv⟩:=heo;exact ⟨v,by rw [hbe];exact hv⟩
  ·refine (ok b u q).stay (fun c v hc r=>k c v ?_ r) (fun c r=>by rw [bA (Ec c b r)];exact r) fun c xs r=>by rw [bA (Zz c xs r)];exact r
   rcases hc with rfl|hc
   ·exact hbe
   ·rintro rfl
    rcases he with z|z
    ·exact Ec c b hc z
    ·rw [hc] at z;cases z;exact hb rfl
end
structure Un (fs ex:List Addr) (H H':Hp) (h h':Heap):Prop where
 keep:∀b o,h.get? b=some o->H b=none->b∉fs->b∉ex->h'.get? b=some o
 slot:∀b o,h.get? b=some o->H b=none->b∈fs->b∉ex -> ∃sl,h'.get? b=some {o with slots:=sl}
 free:∀b o,h.get? b=some o->H b=none->b∉ex->H' b=none
 there:∀b o,h.get? b=some o->b∉ex -> ∃o',h'.get? b=some o'
 tups:∀b xs,H b=some (.tup xs)->H' b=some (.tup xs)
 oY:∀b o u,H b=some (.kh o u)->H' b=some (.kh o u)
 rZ:∀b ps,H b=some (.MN ps) -> ∃more,H' b=some (.MN (ps++more))
section
variable {fs fs' ex ex':List Addr} {H H1 H2:Hp} {h h1 h2 h':Heap} {a x e:Addr} {o:HO}
theorem Un.any (u:Un fs ex H H1 h h1) {b:Addr} {ob:Obj} (q:h.get? b=some ob) (n:H b=none) (hx:b∉ex):∃sl,h1.get? b=some {ob with slots:=sl}:=by
 by_cases hb:b∈fs
 ·exact u.slot b ob q n hb hx
 ·exact ⟨ob.slots,u.keep b ob q n hb hx⟩
theorem Un.kept (k:∀b u,h.get? b=some u->h'.get? b=some u):Un fs ex H H h h':=
 ⟨fun b ob q _ _ _=>k b ob q,fun b ob q _ _ _=>⟨ob.slots,k b ob q⟩,fun _ _ _ n _=>n,fun b ob q _=>⟨ob,k b ob q⟩,fun _ _ q=>q,fun _ _ _ q=>q,fun _ ps q=>⟨#[],by rw [q];simp⟩⟩
theorem Un.refl:Un fs ex H H h h:=Un.kept fun _ _ q=>q
theorem Un.laid (k:∀b u,h.get? b=some u->h'.get? b=some u) (hp:h.objs.size<=a) (hn:H a=none):Un fs ex H (upd H a o) h h' where
 keep:=fun b u q _ _ _=>k b u q
 slot:=fun b u q _ _ _=>⟨u.slots,k b u q⟩
 free:=fun b u q n _=>by rw [bA (Nat.ne_of_lt (Nat.lt_of_lt_of_le (Heap.lt_size q) hp))];exact n
 there:=fun b u q _=>⟨u,k b u q⟩
 tups:=fun b xs q=>by rw [bA (aC q hn)];exact q
 oY:=fun b u xs q=>by rw [bA (aC q hn)];exact q
 rZ:=fun b ps q=>⟨#[],by rw [bA (aC q hn),q];simp⟩
theorem Un.write (mu:Vr (H x)) (he:e=x\/H e=some (.own x)) (k:∀b u,b≠e->h.get? b=some u->h'.get? b=some u) (heo:∃u,h'.get? e=some u):Un fs ex H (upd H x o) h h':=by
 have hx:∀b,H b=none->b≠x:=fun b n z=>by subst z;rw [n] at mu;exact mu
 have hb:∀b,H b=none->b≠e:=fun b n z=>by
  subst z;rcases he with r|r
  ·exact hx b n r
  ·rw [n] at r;cases r
 have hm:∀b u,H b=some u -> ¬Vr (some u)->b≠x:=fun b u q nm z=>by subst z;rw [q] at mu;exact nm mu
 refine ⟨fun b u q n _ _=>k b u (hb b n) q,fun b u q n _ _=>⟨u.slots,k b u (hb b n) q⟩,fun b u q n _=>by rw [bA (hx b n)];exact n,fun b u q _=> ?_,
  fun b xs q=>by rw [bA (hm b _ q fun z=>z)];exact q,fun b u xs q=>by rw [bA (hm b _ q fun z=>z)];exact q,fun b ps q=>⟨#[],by rw [bA (hm b _ q fun z=>z),q];simp⟩⟩
 by_cases hbe:b=e
 ·subst hbe;exact heo
 ·exact ⟨u,k b u hbe q⟩
end
def Vz (h:Heap) (H:Hp):List Addr:=(List.range h.objs.size).filter fun a=>(H a).isSome
def vN (h:Heap) (H:Hp):Heap:=PySem.W.hideAll h (Vz h H)
theorem EY (h:Heap) (H:Hp):(vN h H).objs.size=h.objs.size:=PySem.W.hideAll_size _ _
theorem Jd {h:Heap} {H:Hp} {b:Addr} {o:Obj} (e:h.get? b=some o) (n:H b=none):(vN h H).get? b=some o:=
 PySem.W.hideAll_get _ e fun hm=>by
  have q:(H b).isSome=true:=(List.mem_filter.mp hm).2;rw [n] at q;simp at q
theorem Lg {h:Heap} {H:Hp} {b:Addr} {o:Obj} (e:(vN h H).get? b=some o):h.get? b=some o/\H b=none:=by
 have e':h.get? b=some o:=PySem.W.of_hideAll (Vz h H) e;refine ⟨e', ?_⟩;cases q:H b with
 | none=>rfl
 | some x=>
   have hm:b∈Vz h H:=List.mem_filter.mpr ⟨List.mem_range.mpr (Heap.lt_size e'),by simp [q]⟩;have z:(vN h H).get? b=none:=PySem.W.hideAll_none (Vz h H) hm;rw [z] at e;cases e
def Ms (g h:Heap) (L:Addr):List (Addr×Obj):=(List.range h.objs.size).filterMap fun a=>if a=L\/(g.get? a).isSome=true then none else (h.get? a).map fun o=>(a,o)
def rest (g h:Heap) (L d:Addr):List (Addr×Obj):=(Ms g h L).filter fun p=>decide (p.1≠d)
end L2
namespace L2
open PySem PySem.Spec PyProof.Rows
structure Mod (K:PySem.W.Frag) (mg:Str->Option Value) (base:Heap):Prop where
 kin:K.In base
 glob:base.Ns mainGlobals mg
 blt:∃mb,base.Ns builtinsNs mb /\ ∀x:Str,x ≠ "__name__" -> mb x=bootBuiltins x
 nolimit:base.NoLimit
structure Cx where
 prog:Program
 w:World
 K:PySem.W.Frag
 mg:Str->Option Value
 base:Heap
 A:Around
 N:List Str
 s₀:Shared
 H₀:Hp
 env:Env
 outer:List Env
 stack:List Env
 ex:List Addr
 fn:Str->Bool
 calm:Bool
 pn:List (Addr×Obj)
 xe:Value->Shared->Prop
def frs (l:List Env):List Addr:=l.filterMap (·.frame)
abbrev Cx.fs (X:Cx):List Addr:=frs X.outer
def Vis (sc:Scope) (x:Str):Prop:=sc.names.lookup x=some .local\/sc.names.lookup x=some .cell\/sc.names.lookup x=some .free
def Loc (sc:Scope) (x:Str):Prop:=sc.names.lookup x=some .local\/sc.names.lookup x=some .cell
def Look (env:Env) (h:Heap) (m:Str->Option Value) (x:Str) (u:Value):Prop:=
 (env.kindOf x=some .local/\m x=some u)\/((env.kindOf x=some .cell\/env.kindOf x=some .free) /\ ∃c,env.cells.lookup x=some c/\h.IsCell c (some u))
structure Cx.Ok (X:Cx):Prop where
 mod:Mod X.K X.mg X.base
 kind:X.env.scope.kind = .function
 glob:X.env.globals=mainGlobals
 blt:X.env.builtins=builtinsNs
 above:X.s₀.heap.objs.size<=X.env.locals
 inj:∀x y c,X.env.cells.lookup x=some c->X.env.cells.lookup y=some c->x=y
 has:∀x,(X.env.kindOf x=some .cell\/X.env.kindOf x=some .free) -> ∃c,X.env.cells.lookup x=some c
 cab:∀x c,X.fn x=true->X.env.cells.lookup x=some c->X.s₀.heap.objs.size<=c
 hd:X.calm=true->X.A.handled=none
 frames:X.A.frames=some X.stack
 stk:X.stack=X.outer\/(X.stack=X.env::X.outer/\X.env.frame=some X.env.locals)
 exf:∀b∈X.ex,b≠X.env.locals /\ ∀x c,X.env.cells.lookup x=some c->c≠b
 bs:∀b o,X.base.get? b=some o->X.s₀.heap.get? b=some o/\X.H₀ b=none
 Nv:X.base.objs.size<=X.s₀.heap.objs.size
 H_:∀b o,X.base.get? b=some o->b∉X.ex
 L_:∀b∈X.ex,b∉X.fs
 qN:X.s₀.heap.FunFrames X.base X.outer
 Rw:∀b∈X.fs,X.H₀ b=none
structure Inv (X:Cx) (pins:List (Addr×Obj)) (σ:List (Option V)) (H:Hp) (s:Shared):Prop where
 ok:X.Ok
 os:s.os=X.s₀.os
 bare:AllBare s.gens
 base:Un X.fs X.ex X.H₀ H X.s₀.heap s.heap
 loc:∃m,s.heap.Ns X.env.locals m /\ ∀(i:Nat) (x:Str) (v:V),X.N[i]? = some x->σ[i]? = some (some v)->Vis X.env.scope x -> ∃u,RelV v u/\Look X.env s.heap m x u
 cell:∀x c,X.env.cells.lookup x=some c -> ∃v,s.heap.IsCell c v
 free:H X.env.locals=none
 jT:∀x c,X.env.cells.lookup x=some c->H c=none
 pin:∀p∈X.pn++pins,s.heap.get? p.1=some p.2/\H p.1=none/\p.1≠X.env.locals/\p.1∉X.fs /\ ∀v,p.2.data ≠ .cell v
 hok:kW X.prog X.w H s.heap
 len:σ.length=X.N.length
section
variable {X:Cx} {pins:List (Addr×Obj)} {σ:List (Option V)} {H H':Hp} {s:Shared} {h':Heap}
theorem Cx.Ok.ZD (ok:X.Ok) {b:Addr} {o:Obj} (e:X.base.get? b=some o):b∉X.fs:=fun hb=>by
 have:=(ok.qN.mem hb).1;rw [e] at this;cases this
theorem Inv.bs (I:Inv X pins σ H s):∀b o,X.base.get? b=some o->s.heap.get? b=some o/\H b=none:=fun b o e=>
 ⟨I.base.keep b o (I.ok.bs b o e).1 (I.ok.bs b o e).2 (I.ok.ZD e) (I.ok.H_ b o e),I.base.free b o (I.ok.bs b o e).1 (I.ok.bs b o e).2 (I.ok.H_ b o e)⟩
theorem Inv.bk (I:Inv X pins σ H s):∀b o,X.base.get? b=some o->s.heap.get? b=some o:=fun b o e=>(I.bs b o e).1
theorem Inv.mod (I:Inv X pins σ H s):Mod X.K X.mg X.base:=I.ok.mod
theorem Inv.xW (I:Inv X pins σ H s):X.K.In s.heap:=I.ok.mod.kin.keeps I.bk
theorem Inv.lt (I:Inv X pins σ H s):X.env.locals<s.heap.objs.size:=let ⟨_,hn,_⟩:=I.loc;hn.lt
theorem Inv.sz (I:Inv X pins σ H s):X.s₀.heap.objs.size<=s.heap.objs.size:=Nat.le_trans I.ok.above (Nat.le_of_lt I.lt)
theorem Inv.ZC (I:Inv X pins σ H s) {a:Addr} (h:s.heap.objs.size<=a):a∉X.fs:=fun hb=>by
 obtain ⟨_,o,ho,_⟩:=I.ok.qN.mem hb;exact absurd (Nat.lt_of_lt_of_le (Heap.lt_size ho) (Nat.le_trans I.sz h)) (Nat.lt_irrefl _)
theorem Inv.Mi (I:Inv X pins σ H s):∀x c,X.env.cells.lookup x=some c->c≠X.env.locals:=fun x c e z=>by
 obtain ⟨v,o,ho,hd⟩:=I.cell x c e;obtain ⟨m,⟨o',es,ep,ho',hd',_⟩,_⟩:=I.loc;rw [z,ho'] at ho;cases ho;rw [hd'] at hd;cases hd
theorem Inv.qN (I:Inv X pins σ H s):s.heap.FunFrames X.base X.outer:=by
 have all:∀(l:List Env),(∀b∈frs l,b∈X.fs)->X.s₀.heap.FunFrames X.base l->s.heap.FunFrames X.base l:=by
  intro l
  induction l with
  | nil=>intro _ _;trivial
  | cons env r ih=>
    intro hs hl;obtain ⟨hk,⟨L,o,hf,hn,ho,hd⟩,hr⟩:=hl;have hL:L∈X.fs:=hs L (by unfold frs;rw [List.filterMap_cons,hf];exact List.mem_cons_self);obtain ⟨sl,e⟩:=I.base.slot L o ho (I.ok.Rw L hL) hL fun z=>I.ok.L_ L z hL;exact ⟨hk,⟨L,_,hf,hn,e,hd⟩,ih (fun b hb=>hs b (by unfold frs;rw [List.filterMap_cons,hf];exact List.mem_cons_of_mem _ hb)) hr⟩
 exact all X.outer (fun _ hb=>hb) I.ok.qN
theorem Inv.stack (I:Inv X pins σ H s):s.heap.FunFrames X.base X.stack:=by
 rcases I.ok.stk with e|⟨e,hf⟩
 ·rw [e];exact I.qN
 ·rw [e]
  obtain ⟨m,hn,_⟩:=I.loc;refine .cons (by rw [I.ok.kind];decide) hf hn ?_ I.qN;exact Heap.get?_none_of_le (Nat.le_trans I.ok.Nv I.ok.above)
theorem Inv.uR (I:Inv X pins σ H s):∀b∈frs X.stack,b∈X.env.locals::X.fs:=fun b hb=>by
 rcases I.ok.stk with e|⟨e,hf⟩
 ·rw [e] at hb;exact List.mem_cons_of_mem _ hb
 ·rw [e] at hb
  unfold frs at hb;rw [List.filterMap_cons,hf] at hb;exact hb
theorem Inv.Bf (I:Inv X pins σ H s):∀b∈frs X.stack,H b=none:=fun b hb=>by
 rcases List.mem_cons.mp (I.uR b hb) with e|hb
 ·rw [e];exact I.free
 ·obtain ⟨_,o,ho,_⟩:=I.ok.qN.mem hb
  exact I.base.free b o ho (I.ok.Rw b hb) fun z=>I.ok.L_ b z hb
theorem Inv.step {g':Array GenState} {t':Nat} {d':Drawn} {ch:List Addr} (I:Inv X pins σ H s)
 (hch:∀b∈ch,(b∈X.ex\/X.s₀.heap.objs.size<=b)/\b≠X.env.locals/\(∀x c,X.env.cells.lookup x=some c->c≠b) /\ ∀p∈X.pn++pins,p.1≠b)
 (keep:∀b o,b≠X.env.locals->b∉X.fs->b∉ch->s.heap.get? b=some o->H b=none->h'.get? b=some o)
 (slot:∀b o,b≠X.env.locals->b∈X.fs->b∉ch->s.heap.get? b=some o->H b=none -> ∃sl,h'.get? b=some {o with slots:=sl}) (free:∀b o,b∉ch->s.heap.get? b=some o->H b=none->H' b=none)
 (there:∀b o,b∉ch->s.heap.get? b=some o -> ∃o',h'.get? b=some o')
 (tups:∀b xs,H b=some (.tup xs)->H' b=some (.tup xs)) (oY:∀b o u,H b=some (.kh o u)->H' b=some (.kh o u)) (rZ:∀b ps,H b=some (.MN ps) -> ∃more,H' b=some (.MN (ps++more)))
 (ns:∀m,s.heap.Ns X.env.locals m->h'.Ns X.env.locals m) (hok:kW X.prog X.w H' h') (hg:AllBare g'):
 Inv X pins σ H' {s with heap:=h',gens:=g',drawn:=d',toks:=t'}:=by
 have neL:∀b o,X.s₀.heap.get? b=some o->b≠X.env.locals:=fun b o e=>Nat.ne_of_lt (Nat.lt_of_lt_of_le (Heap.lt_size e) I.ok.above)
 have V1:∀b o,X.s₀.heap.get? b=some o->b∉X.ex->b∉ch:=fun b o e hx hb=>by
  rcases (hch b hb).1 with z|z
  ·exact hx z
  ·exact absurd (Nat.lt_of_lt_of_le (Heap.lt_size e) z) (Nat.lt_irrefl _)
 have cellK:∀x c,X.env.cells.lookup x=some c -> ∀v,s.heap.IsCell c v->h'.IsCell c v:=fun x c e v ⟨o,ho,hd⟩=>by
  have Tn:c∉ch:=fun z=>(hch c z).2.2.1 x c e rfl
  by_cases hc:c∈X.fs
  ·obtain ⟨sl,q⟩:=slot c o (I.Mi x c e) hc Tn ho (I.jT x c e)
   exact ⟨_,q,hd⟩
  ·exact ⟨o,keep c o (I.Mi x c e) hc Tn ho (I.jT x c e),hd⟩
 refine ⟨I.ok,I.os,hg,⟨fun b o e n hb hx=> ?_,fun b o e n hb hx=> ?_,fun b o e n hx=> ?_,fun b o e hx=> ?_,fun b xs e=>tups b xs (I.base.tups b xs e),fun b o xs e=>oY b o xs (I.base.oY b o xs e),fun b ps e=> ?_⟩, ?_,fun x c e=> ?_, ?_,fun x c e=> ?_,fun p hp=> ?_,hok,I.len⟩
 ·exact keep b o (neL b o e) hb (V1 b o e hx) (I.base.keep b o e n hb hx) (I.base.free b o e n hx)
 ·obtain ⟨sl,e1⟩:=I.base.slot b o e n hb hx
  obtain ⟨sl',e2⟩:=slot b _ (neL b o e) hb (V1 b o e hx) e1 (I.base.free b o e n hx);exact ⟨sl',e2⟩
 ·obtain ⟨o',e1⟩:=I.base.there b o e hx
  exact free b o' (V1 b o e hx) e1 (I.base.free b o e n hx)
 ·obtain ⟨o',e1⟩:=I.base.there b o e hx
  exact there b o' (V1 b o e hx) e1
 ·obtain ⟨m1,e1⟩:=I.base.rZ b ps e
  obtain ⟨m2,e2⟩:=rZ b _ e1;exact ⟨m1++m2,by rw [e2,Array.append_assoc]⟩
 ·obtain ⟨m,hn,hl⟩:=I.loc
  refine ⟨m,ns m hn,fun i x v e1 e2 e3=> ?_⟩;obtain ⟨u,r,l⟩:=hl i x v e1 e2 e3;refine ⟨u,r, ?_⟩;rcases l with l|⟨k,c,e,z⟩
  ·exact .inl l
  ·exact .inr ⟨k,c,e,cellK x c e _ z⟩
 ·obtain ⟨v,z⟩:=I.cell x c e
  exact ⟨v,cellK x c e v z⟩
 ·obtain ⟨m,⟨o,_,_,ho,_⟩,_⟩:=I.loc
  exact free _ o (fun z=>(hch _ z).2.1 rfl) ho I.free
 ·obtain ⟨v,o,ho,hd⟩:=I.cell x c e
  exact free c o (fun z=>(hch c z).2.2.1 x c e rfl) ho (I.jT x c e)
 ·obtain ⟨e,n,ne,nf,d⟩:=I.pin p hp
  have Tn:p.1∉ch:=fun z=>(hch p.1 z).2.2.2 p hp rfl;exact ⟨keep p.1 p.2 ne nf Tn e n,free p.1 p.2 Tn e n,ne,nf,d⟩
theorem Inv.un {t':Nat} (I:Inv X pins σ H s) (u:Un X.fs [] H H' s.heap h') (hok:kW X.prog X.w H' h'):Inv X pins σ H' {s with heap:=h',toks:=t'}:=by
 obtain ⟨m,⟨o,es,ep,ho,r⟩,_⟩:=id I.loc;obtain ⟨sl,hL⟩:=u.any ho I.free (by simp)
 exact I.step (g':=s.gens) (d':=s.drawn) (ch:=[]) (fun _ z=>nomatch z) (fun b o _ hb _ e n=>u.keep b o e n hb (by simp)) (fun b o _ hb _ e n=>u.slot b o e n hb (by simp)) (fun b o _ e n=>u.free b o e n (by simp)) (fun b o _ e=>u.there b o e (by simp)) u.tups u.oY u.rZ (fun m' hm=>by
  obtain ⟨o',es',ep',ho',r'⟩:=hm;rw [ho] at ho';cases ho';exact ⟨_,es',ep',hL,r'⟩) hok I.bare
theorem Inv.call {g':Array GenState} {t':Nat} {d':Drawn} {ch:List Addr} (I:Inv X pins σ H s) (u:Un (frs X.stack) ch H H' s.heap h') (hok:kW X.prog X.w H' h') (hg:AllBare g')
 (hch:∀b∈ch,(b∈X.ex\/X.s₀.heap.objs.size<=b)/\b≠X.env.locals/\(∀x c,X.env.cells.lookup x=some c->c≠b) /\ ∀p∈X.pn++pins,p.1≠b):
 Inv X pins σ H' {s with heap:=h',gens:=g',drawn:=d',toks:=t'}:=by
 obtain ⟨m,⟨o,es,ep,ho,r⟩,_⟩:=id I.loc;obtain ⟨sl,hL⟩:=u.any ho I.free fun z=>(hch _ z).2.1 rfl
 exact I.step (ch:=ch) hch (fun b o hL hb hc e n=>u.keep b o e n (fun z=>(List.mem_cons.mp (I.uR b z)).elim hL hb) hc) (fun b o _ _ hc e n=>u.any e n hc) (fun b o hc e n=>u.free b o e n hc) (fun b o hc e=>u.there b o e hc) u.tups u.oY u.rZ (fun m' hm=>by
  obtain ⟨o',es',ep',ho',r'⟩:=hm;rw [ho] at ho';cases ho';exact ⟨_,es',ep',hL,r'⟩) hok hg
theorem Inv.turned {t':Nat} {it:Addr} (I:Inv X pins σ H s) (k:∀b o,b≠it->s.heap.get? b=some o->h'.get? b=some o) (hn:H it=none) (hL:it≠X.env.locals)
 (h1:it∈X.ex\/X.s₀.heap.objs.size<=it) (h2:∀x c,X.env.cells.lookup x=some c->c≠it) (h3:∀p∈X.pn++pins,p.1≠it):Inv X pins σ H {s with heap:=h',toks:=t'}:=by
 have Qe:∀b u,H b=some u->b≠it:=fun b u e z=>by rw [z,hn] at e;cases e
 refine I.step (g':=s.gens) (d':=s.drawn) (ch:=[it]) (fun b hb=> ?_) (fun b o _ _ hc e _=>k b o (fun z=>hc (by simp [z])) e) (fun b o _ _ hc e _=>⟨o.slots,k b o (fun z=>hc (by simp [z])) e⟩) (fun _ _ _ _ n=>n)
  (fun b o hc e=>⟨o,k b o (fun z=>hc (by simp [z])) e⟩) (fun _ _ e=>e) (fun _ _ _ e=>e) (fun b ps e=>⟨#[],by rw [e];simp⟩) (fun m hm=> ?_) (fun b u e=> ?_) I.bare
 ·have e:b=it:=by simpa using hb
  subst e;exact ⟨h1,hL,h2,h3⟩
 ·obtain ⟨o,es,ep,ho,r⟩:=hm
  exact ⟨o,es,ep,k _ o (Ne.symm hL) ho,r⟩
 ·refine (I.hok b u e).stay (fun c v hc q=>k c v ?_ q) (fun _ q=>q) fun _ _ q=>q
  rcases hc with z|z
  ·rw [z];exact Qe b u e
  ·exact Qe c _ z
theorem Inv.tok (I:Inv X pins σ H s) (t:Nat):Inv X pins σ H {s with toks:=t}:=I.un (h':=s.heap) (t':=t) Un.refl I.hok
theorem Inv.kept {t':Nat} (I:Inv X pins σ H s) (k:∀b u,s.heap.get? b=some u->h'.get? b=some u):Inv X pins σ H {s with heap:=h',toks:=t'}:=I.un (Un.kept k) (I.hok.kept k)
theorem Inv.laid {a:Addr} {o:HO} {t':Nat} (I:Inv X pins σ H s) (k:∀b u,s.heap.get? b=some u->h'.get? b=some u) (hp:s.heap.objs.size<=a) (new:bO X.prog X.w (upd H a o) h' a o):
 Inv X pins σ (upd H a o) {s with heap:=h',toks:=t'}:=I.un (Un.laid k hp (I.hok.fresh hp)) (I.hok.laid k hp new)
theorem Inv.write {x e:Addr} {o:HO} {t':Nat} (I:Inv X pins σ H s) (mu:Vr (H x)) (he:e=x\/H e=some (.own x)) (k:∀b u,b≠e->s.heap.get? b=some u->h'.get? b=some u) (heo:∃u,h'.get? e=some u)
 (new:bO X.prog X.w (upd H x o) h' x o):Inv X pins σ (upd H x o) {s with heap:=h',toks:=t'}:=I.un (Un.write mu he k heo) (I.hok.write mu he k heo new)
theorem Inv.Bx {BJ:List (Addr×Obj)} (I:Inv X pins σ H s) (h:∀p∈BJ,s.heap.get? p.1=some p.2/\H p.1=none/\p.1≠X.env.locals/\p.1∉X.fs /\ ∀v,p.2.data ≠ .cell v):Inv X BJ σ H s:=
 ⟨I.ok,I.os,I.bare,I.base,I.loc,I.cell,I.free,I.jT,fun p hp=>(List.mem_append.mp hp).elim (fun z=>I.pin p (List.mem_append_left _ z)) (h p),I.hok,I.len⟩
theorem xu {N:List Str} (hN:N.Nodup) {i j:Nat} {x:Str} (a:N[i]? = some x) (b:N[j]? = some x):i=j:=by
 obtain ⟨h1,e1⟩:=List.getElem?_eq_some_iff.mp a;obtain ⟨h2,e2⟩:=List.getElem?_eq_some_iff.mp b;exact (List.getElem_inj hN).mp (e1.trans e2.symm)
theorem tG {M:Model} {A:Around} {E:Value->Shared->Prop} {i:Nat} {x:Str} {v:V} {u:Value} {Q:Unit->Shared->Prop} (I:Inv X pins σ H s) (hN:X.N.Nodup) (hi:X.N[i]? = some x) (hx:Loc X.env.scope x) (r:RelV v u)
 (h:∀s',Inv X pins (σ.set i (some v)) H s'->(∃a,Heap.SameBut a s.heap s'.heap/\(a=X.env.locals\/X.env.cells.lookup x=some a))->Q () s') (hf:X.fn x=true\/X.env.scope.names.lookup x=some .local:=by first |exact .inl rfl|exact .inr rfl|assumption):wpAny M A (storeName X.env x u) Q E s:=by
 obtain ⟨m,hn,hl⟩:=id I.loc;have hcls:(X.env.scope.kind == .class||(X.env.scope.kind == .module&&X.env.locals != X.env.globals))=false:=by rw [I.ok.kind];rfl
 have adw:i<σ.length:=by rw [I.len];exact (List.getElem?_eq_some_iff.mp hi).1
 have Mi:=I.Mi
 have tracked:∀{a:Addr} {h':Heap},(∃o,s.heap.get? a=some o/\H a=none)->Heap.SameBut a s.heap h'->kW X.prog X.w H h':=fun {a h'} ha hs b ob e=>by
  obtain ⟨_,_,hfree⟩:=ha;refine (I.hok b ob e).stay (fun c w' hc q=>(hs.2 c ?_).trans q) (fun _ q=>q) fun _ _ q=>q;rintro rfl;rcases hc with rfl|hc
  ·rw [hfree] at e;cases e
  ·rw [hfree] at hc;cases hc
 rcases hx with hk|hk
 ·refine wpAny_storeName_local hk hn (fun h' hn' hs=> ?_) hcls
  obtain ⟨oL,_,_,hoL,_⟩:=id hn;refine h _ ⟨I.ok,I.os,I.bare,⟨fun b o e n hb hx=> ?_,fun b o e n hb hx=> ?_,I.base.free,fun b o e hx=> ?_,I.base.tups,I.base.oY,I.base.rZ⟩,⟨_,hn',fun j y v' e1 e2 e3=> ?_⟩,fun y c e=> ?_,I.free,I.jT,fun p hp=> ?_,tracked ⟨oL,hoL,I.free⟩ hs,by simpa using I.len⟩ ⟨_,hs,.inl rfl⟩
  ·exact (hs.2 b (Nat.ne_of_lt (Nat.lt_of_lt_of_le (Heap.lt_size e) I.ok.above))).trans (I.base.keep b o e n hb hx)
  ·obtain ⟨sl,e1⟩:=I.base.slot b o e n hb hx
   exact ⟨sl,(hs.2 b (Nat.ne_of_lt (Nat.lt_of_lt_of_le (Heap.lt_size e) I.ok.above))).trans e1⟩
  ·obtain ⟨o',e1⟩:=I.base.there b o e hx
   exact ⟨o',(hs.2 b (Nat.ne_of_lt (Nat.lt_of_lt_of_le (Heap.lt_size e) I.ok.above))).trans e1⟩
  ·by_cases hj:j=i
   ·subst hj
    rw [hi] at e1;cases e1;rw [List.getElem?_set_self adw] at e2;cases e2;exact ⟨u,r,.inl ⟨hk,by simp⟩⟩
   ·rw [List.getElem?_set_ne (Ne.symm hj)] at e2
    obtain ⟨u',r',q⟩:=hl j y v' e1 e2 e3;refine ⟨u',r', ?_⟩;rcases q with ⟨k,e⟩|⟨k,c,e,z⟩
    ·refine .inl ⟨k, ?_⟩
     have:y≠x:=fun e=>hj (xu hN e1 (e▸hi));simp [this,e]
    ·exact .inr ⟨k,c,e,z.sameBut hs (Mi y c e)⟩
  ·obtain ⟨w',z⟩:=I.cell y c e
   exact ⟨w',z.sameBut hs (Mi y c e)⟩
  ·obtain ⟨e,n,ne,nf,d⟩:=I.pin p hp
   exact ⟨(hs.2 p.1 ne).trans e,n,ne,nf,d⟩
 ·have hfn:X.fn x=true:=by
   rcases hf with z|z
   ·exact z
   ·rw [z] at hk;cases hk
  obtain ⟨c,hc⟩:=I.ok.has x (.inl hk);obtain ⟨w',z⟩:=I.cell x c hc;refine wpAny_storeName_cell I.ok.kind hk hc z (fun h' hc' hs=> ?_);obtain ⟨oc,hoc,aaQ⟩:=id z;refine h {s with heap:=h'} ⟨I.ok,I.os,I.bare,⟨fun b o e n hb hx=> ?_,fun b o e n hb hx=> ?_,I.base.free,fun b o e hx=> ?_,I.base.tups,I.base.oY,I.base.rZ⟩,⟨m,hn.sameBut hs (Ne.symm (Mi x c hc)),fun j y v' e1 e2 e3=> ?_⟩,fun y c' e=> ?_,I.free,I.jT,fun p hp=> ?_,tracked ⟨oc,hoc,I.jT x c hc⟩ hs,by simpa using I.len⟩ ⟨c,hs,.inr hc⟩
  ·exact (hs.2 b (Nat.ne_of_lt (Nat.lt_of_lt_of_le (Heap.lt_size e) (I.ok.cab x c hfn hc)))).trans (I.base.keep b o e n hb hx)
  ·obtain ⟨sl,e1⟩:=I.base.slot b o e n hb hx
   exact ⟨sl,(hs.2 b (Nat.ne_of_lt (Nat.lt_of_lt_of_le (Heap.lt_size e) (I.ok.cab x c hfn hc)))).trans e1⟩
  ·obtain ⟨o',e1⟩:=I.base.there b o e hx
   exact ⟨o',(hs.2 b (Nat.ne_of_lt (Nat.lt_of_lt_of_le (Heap.lt_size e) (I.ok.cab x c hfn hc)))).trans e1⟩
  ·by_cases hj:j=i
   ·subst hj
    rw [hi] at e1;cases e1;rw [List.getElem?_set_self adw] at e2;cases e2;exact ⟨u,r,.inr ⟨.inl hk,c,hc,hc'⟩⟩
   ·rw [List.getElem?_set_ne (Ne.symm hj)] at e2
    obtain ⟨u',r',q⟩:=hl j y v' e1 e2 e3;refine ⟨u',r', ?_⟩;rcases q with q|⟨k,c',e,z'⟩
    ·exact .inl q
    ·refine .inr ⟨k,c',e,z'.sameBut hs ?_⟩
     rintro rfl;exact hj (xu hN e1 (I.ok.inj _ _ _ e hc▸hi))
  ·by_cases hcc:c'=c
   ·subst hcc;exact ⟨_,hc'⟩
   ·obtain ⟨w2,z2⟩:=I.cell y c' e
    exact ⟨w2,z2.sameBut hs hcc⟩
  ·obtain ⟨e,n,ne,nf,d⟩:=I.pin p hp
   refine ⟨(hs.2 p.1 ?_).trans e,n,ne,nf,d⟩;intro q;rw [q,hoc] at e;have q':oc=p.2:=Option.some.inj e;exact d w' (by rw [←q'];exact aaQ)
theorem wH {M:Model} {A:Around} {E:Value->Shared->Prop} {i:Nat} {x:Str} {v:V} {u:Value} {Q:Unit->Shared->Prop} (I:Inv X pins σ H s) (hN:X.N.Nodup) (hi:X.N[i]? = some x) (hx:Loc X.env.scope x) (r:RelV v u)
 (h:∀s',Inv X pins (σ.set i (some v)) H s'->Q () s') (hf:X.fn x=true\/X.env.scope.names.lookup x=some .local:=by first |exact .inl rfl|exact .inr rfl|assumption):wpAny M A (storeName X.env x u) Q E s:=
 tG I hN hi hx r (fun s' I' _=>h s' I') hf
theorem Inv.call' {s':Shared} {ch:List Addr} (I:Inv X pins σ H s) (ho:s'.os=s.os) (u:Un (frs X.stack) ch H H' s.heap s'.heap) (hok:kW X.prog X.w H' s'.heap) (hg:AllBare s'.gens)
 (hch:∀b∈ch,(b∈X.ex\/X.s₀.heap.objs.size<=b)/\b≠X.env.locals/\(∀x c,X.env.cells.lookup x=some c->c≠b) /\ ∀p∈X.pn++pins,p.1≠b):Inv X pins σ H' s':=by
 obtain ⟨h',g',d',t',o'⟩:=s';have e:o'=s.os:=ho;subst e;exact I.call (g':=g') (t':=t') (d':=d') u hok hg hch
end
abbrev XK:=Value->Option Addr->Hp->Prop
abbrev St:=List (Option V)
abbrev VK:=V->Hp->Prop
abbrev TE:=St->Hp->VK->Prop
abbrev TT:=St->Hp->(Bool->Hp->Prop)->Prop
abbrev TA:=St->Hp->(List V->Hp->Prop)->Prop
structure Ends where
 nx:St->Hp->Prop
 rt:VK
 bk:St->Hp->Prop:=fun _ _=>False
 ct:St->Hp->Prop:=fun _ _=>False
abbrev TS:=Ends->St->Hp->Prop
def EP (X:Cx) (pins:List (Addr×Obj)) (σ:St) (Q:VK) (u:Value) (s':Shared):Prop:=∃v H',Inv X pins σ H' s'/\RelV v u/\Q v H'
def TP (X:Cx) (pins:List (Addr×Obj)) (σ:St) (Q:Bool->Hp->Prop) (b:Bool) (s':Shared):Prop:=∃H',Inv X pins σ H' s'/\Q b H'
def AP (X:Cx) (pins:List (Addr×Obj)) (σ:St) (Q:List V->Hp->Prop) (us:List Value) (s':Shared):Prop:=∃vs H',Inv X pins σ H' s'/\Vals vs us/\Q vs H'
def SP (X:Cx) (pins:List (Addr×Obj)) (D:Ends) (f:Flow) (s':Shared):Prop:=
 match f with
 | .next=>∃σ' H',Inv X pins σ' H' s'/\D.nx σ' H'
 | .brk=>∃σ' H',Inv X pins σ' H' s'/\D.bk σ' H'
 | .cont=>∃σ' H',Inv X pins σ' H' s'/\D.ct σ' H'
 | .ret u=>∃v σ' H',Inv X pins σ' H' s'/\RelV v u/\D.rt v H'
def PE (X:Cx) (e:Expr) (t:TE):Prop:=
 ∀(pins:List (Addr×Obj)) (s:Shared) (σ:St) (H:Hp) (Q:VK),Inv X pins σ H s->t σ H Q->wpAny (model X.prog X.w) X.A (eval e X.env) (EP X pins σ Q) X.xe s
def PT (X:Cx) (e:Expr) (t:TT):Prop:=
 ∀(pins:List (Addr×Obj)) (s:Shared) (σ:St) (H:Hp) (Q:Bool->Hp->Prop),Inv X pins σ H s->t σ H Q->wpAny (model X.prog X.w) X.A (isTrue e X.env (eval e X.env)) (TP X pins σ Q) X.xe s
def PW (X:Cx) (e:Expr) (t:TT):Prop:=
 ∀(whole:Sem Value) (pins:List (Addr×Obj)) (s:Shared) (σ:St) (H:Hp) (Q:Bool->Hp->Prop),Inv X pins σ H s->t σ H Q->wpAny (model X.prog X.w) X.A (isTrue e X.env whole) (TP X pins σ Q) X.xe s
theorem PW.pt {X:Cx} {e:Expr} {t:TT} (h:PW X e t):PT X e t:=h _
def PA (X:Cx) (es:List Expr) (t:TA):Prop:=
 ∀(pos:Pos) (pins:List (Addr×Obj)) (s:Shared) (σ:St) (H:Hp) (Q:List V->Hp->Prop),Inv X pins σ H s->t σ H Q->wpAny (model X.prog X.w) X.A (spliced (backTo pos (starEach es X.env))) (AP X pins σ Q) X.xe s
def PS (X:Cx) (st:Stmt) (t:TS):Prop:=
 ∀(pins:List (Addr×Obj)) (s:Shared) (σ:St) (H:Hp) (D:Ends),Inv X pins σ H s->t D σ H->wpAny (model X.prog X.w) X.A (exec st X.env) (SP X pins D) X.xe s
def FW (X:Cx) (st:List Stmt) (t:TS):Prop:=
 ∀(pins:List (Addr×Obj)) (s:Shared) (σ:St) (H:Hp) (D:Ends),Inv X pins σ H s->t D σ H->wpAny (model X.prog X.w) X.A (execs st X.env) (SP X pins D) X.xe s
theorem cC {α:Type} {t:Sem α} {Q Q':α->Shared->Prop} {M:Model} {A:Around} {E:Value->Shared->Prop} {s:Shared} (h:wpAny M A t Q E s) (hQ:∀a s,Q a s->Q' a s):wpAny M A t Q' E s:=wpAny_mono h hQ fun _ _ x=>x
end L2
namespace L2
open PySem PySem.Spec PyProof.Rows
section
variable {X:Cx}
def RJ (i:Nat):TE:=fun σ H Q=>∃v,σ[i]? = some (some v)/\Q v H
def tC (v:V):TE:=fun _ H Q=>Q v H
theorem Pn {i:Nat} {x:Str} {pos:Pos} (hN:X.N[i]? = some x) (hv:Vis X.env.scope x) (hd:(x==("__debug__" :Str))=false:=by decide) (hcd:(x==("__classdict__" :Str))=false:=by decide):PE X (.Name x pos) (RJ i):=by
 intro pins s σ H Q I h;obtain ⟨v,e,h⟩:=h;obtain ⟨m,hn,hl⟩:=I.loc;obtain ⟨u,r,l⟩:=hl i x v hN e hv;have fin:EP X pins σ Q u s:=⟨v,H,I,r,h⟩;rcases l with ⟨hk,hm⟩|⟨hk,c,hc,hcell⟩
 ·exact wpAny_Name (wpAny_loadName_local I.ok.kind hk hn hm fin) hd
 ·rcases hk with hk|hk
  ·exact wpAny_Name (wpAny_loadName_cell I.ok.kind hk hc hcell fin) hd
  ·exact wpAny_Name (wpAny_loadName_free I.ok.kind hk hc hcell fin hcd) hd
theorem ao {i j pos}:PE X (.Constant (.int i) j pos) (tC (.int i)):=fun _ _ _ H _ I h=>wpAny_Constant_int ⟨.int i,H,I.tok _,⟨_,rfl⟩,h⟩
theorem gj {b j pos}:PE X (.Constant (.bool b) j pos) (tC (.bl b)):=fun _ _ _ H _ I h=>Constant_bool ⟨.bl b,H,I,rfl,h⟩
theorem gO {j pos}:PE X (.Constant .none j pos) (tC .non):=fun _ _ _ H _ I h=>Constant_none ⟨.non,H,I,rfl,h⟩
def Gl (X:Cx) (x:Str):Prop:=X.env.kindOf x=some .globalImplicit
theorem Ln {E:Value->Shared->Prop} {pins:List (Addr×Obj)} {s:Shared} {σ:St} {H:Hp} {x:Str} {u:Value} {pos:Pos} {Q:Value->Shared->Prop} (I:Inv X pins σ H s) (hg:Gl X x) (hm:X.mg x=some u) (h:Q u s)
 (hd:(x==("__debug__" :Str))=false:=by decide):wpAny (model X.prog X.w) X.A (eval (.Name x pos) X.env) Q E s:=
 Calls.Name_function_global I.ok.kind hg (Calls.loadGlobal_global (by rw [I.ok.glob];exact I.mod.glob.keeps I.bk) hm h) hd
theorem nY {E:Value->Shared->Prop} {pins:List (Addr×Obj)} {s:Shared} {σ:St} {H:Hp} {x:Str} {u:Value} {pos:Pos} {Q:Value->Shared->Prop} (I:Inv X pins σ H s) (hg:Gl X x) (hm:X.mg x=none) (hv:bootBuiltins x=some u) (h:Q u s)
 (hn:x ≠ "__name__" :=by decide) (hd:(x==("__debug__" :Str))=false:=by decide):wpAny (model X.prog X.w) X.A (eval (.Name x pos) X.env) Q E s:=by
 obtain ⟨mb,h1,h2⟩:=I.mod.blt;exact Calls.Name_function_global I.ok.kind hg (Calls.loadGlobal_builtin (by rw [I.ok.glob];exact I.mod.glob.keeps I.bk) hm (by rw [I.ok.blt];exact h1.keeps I.bk) ((h2 x hn).trans hv) h) hd
theorem jH {x:Str} {v:V} {u:Value} {pos:Pos} (hg:Gl X x) (hm:X.mg x=none) (hv:bootBuiltins x=some u) (r:RelV v u) (hn:x ≠ "__name__" :=by decide) (hd:(x==("__debug__" :Str))=false:=by decide):PE X (.Name x pos) (tC v):=
 fun _ _ _ H _ I h=>nY I hg hm hv ⟨v,H,I,r,h⟩ hn hd
variable {a b:Expr} {ta tb:TE} {pos:Pos}
def PC (X:Cx) (op:CmpOp) (a b:Expr) (t:TE):Prop:=
 ∀(pins:List (Addr×Obj)) (s:Shared) (σ:St) (H:Hp) (Q:VK),Inv X pins σ H s->t σ H Q ->
  wpAny (model X.prog X.w) X.A (eval a X.env) (fun v s₁=>wpAny (model X.prog X.w) X.A (eval b X.env) (fun u s₂=>wpAny (model X.prog X.w) X.A (compareOp op v u) (EP X pins σ Q) X.xe s₂) X.xe s₁) X.xe s
theorem Ib (b:Expr) {op:CmpOp} (h:op ≠ .In) (h2:op ≠ .NotIn):behindInMarks op b=false:=by
 have e1:(op==CmpOp.In)=false:=by cases op<;>first |rfl|exact absurd rfl h
 have e2:(op==CmpOp.NotIn)=false:=by cases op<;>first |rfl|exact absurd rfl h2
 cases b<;>simp [behindInMarks,e1,e2]
def tB (t:TE):TT:=fun σ H Q=>t σ H fun x H1=>∃c,x = .bl c/\Q c H1
theorem Hj {op:CmpOp} {t:TE} (h:PC X op a b t) (h1:behindInMarks op b=false:=by first |exact Ib _ (by decide) (by decide)|rfl):PT X (.Compare a [op] [b] pos) (tB t):=by
 intro pins s σ H Q I hw;refine wpAny_isTrue_Compare1 (cC (h pins s σ H _ I hw) fun v s1 h1=>cC h1 fun u s2 h2=>cC h2 fun c s3 ⟨x,H1,I1,r1,q1⟩=> ?_) h1;obtain ⟨d,rfl,q⟩:=q1;cases r1;exact wpAny_truthy_bool ⟨H1,I1,q⟩
theorem dU {e:Expr} {t:TE} (h:PE X e t) (he:∀whole,isTrue e X.env whole=(do let v ←whole;standAt e.pos;holding [v] (truthy v)):=by intro _;rfl):PT X e (tB t):=by
 intro pins s σ H Q I hw;refine isTrue_plain (cC (h pins s σ H _ I hw) fun v s1 ⟨x,H1,I1,r1,q1⟩=> ?_) (he _);obtain ⟨d,rfl,q⟩:=q1;cases r1;exact wpAny_truthy_bool ⟨H1,I1,q⟩
variable {tA VG:TT} {rest:List Expr}
def Xm (t u:TT):TT:=fun σ H Q=>t σ H fun c H1=>if c=true then u σ H1 Q else Q false H1
def tOr (t u:TT):TT:=fun σ H Q=>t σ H fun c H1=>if c=true then Q true H1 else u σ H1 Q
def Xh (t:TT):TT:=fun σ H Q=>t σ H fun c H1=>Q (!c) H1
theorem iI (ha:PT X a tA):PW X (.BoolOp .And [a] pos) tA:=by
 intro wh pins s σ H Q I h;refine isTrue_and (cC (ha pins s σ H Q I h) fun c s1 e=> ?_);cases c with
 | true=>exact isTrue_and_nil e
 | false=>exact e
theorem iT (ha:PT X a tA):PW X (.BoolOp .Or [a] pos) tA:=by
 intro wh pins s σ H Q I h;refine isTrue_or (cC (ha pins s σ H Q I h) fun c s1 e=> ?_);cases c with
 | false=>exact isTrue_or_nil e
 | true=>exact e
theorem j8 (ha:PT X a tA) (hb:PW X (.BoolOp .And (b::rest) pos) VG):PW X (.BoolOp .And (a::b::rest) pos) (Xm tA VG):=by
 intro wh pins s σ H Q I h;refine isTrue_and (cC (ha pins s σ H _ I h) fun c s1 ⟨H1,I1,q1⟩=> ?_);cases c with
 | true=>exact hb wh pins s1 σ H1 Q I1 q1
 | false=>exact ⟨H1,I1,q1⟩
theorem jO (ha:PT X a tA) (hb:PW X (.BoolOp .Or (b::rest) pos) VG):PW X (.BoolOp .Or (a::b::rest) pos) (tOr tA VG):=by
 intro wh pins s σ H Q I h;refine isTrue_or (cC (ha pins s σ H _ I h) fun c s1 ⟨H1,I1,q1⟩=> ?_);cases c with
 | true=>exact ⟨H1,I1,q1⟩
 | false=>exact hb wh pins s1 σ H1 Q I1 q1
theorem gA (ha:PT X a tA):PT X (.UnaryOp .Not a pos) (Xh tA):=by
 intro pins s σ H Q I h;exact isTrue_not (ha pins s σ H (fun c H1=>Q (!c) H1) I h)
def RZ (ta tb:TE):TE:=fun σ H Q=>ta σ H fun x H1=>∃c,x = .bl c/\if c=true then tb σ H1 Q else Q (.bl false) H1
def Xg (ta tb:TE):TE:=fun σ H Q=>ta σ H fun x H1=>∃c,x = .bl c/\if c=true then Q (.bl true) H1 else tb σ H1 Q
def RN (ta:TE):TE:=fun σ H Q=>ta σ H fun x H1=>∃c,x = .bl c/\Q (.bl (!c)) H1
theorem iV {op} {t:TE} (h:PE X a t):PE X (.BoolOp op [a] pos) t:=fun pins s σ H Q I hw=>BoolOp_one (h pins s σ H Q I hw)
theorem iW (ha:PE X a ta) (hb:PE X (.BoolOp .And (b::rest) pos) tb):PE X (.BoolOp .And (a::b::rest) pos) (RZ ta tb):=by
 intro pins s σ H Q I h;refine BoolOp_and (cC (ha pins s σ H _ I h) fun v s1 ⟨x,H1,I1,r1,q1⟩=> ?_);obtain ⟨c,rfl,q1⟩:=q1;cases r1;refine wpAny_truthy_bool ?_;cases c with
 | true=>exact hb pins s1 σ H1 Q I1 q1
 | false=>exact ⟨.bl false,H1,I1,rfl,q1⟩
theorem S9 (ha:PE X a ta) (hb:PE X (.BoolOp .Or (b::rest) pos) tb):PE X (.BoolOp .Or (a::b::rest) pos) (Xg ta tb):=by
 intro pins s σ H Q I h;refine BoolOp_or (cC (ha pins s σ H _ I h) fun v s1 ⟨x,H1,I1,r1,q1⟩=> ?_);obtain ⟨c,rfl,q1⟩:=q1;cases r1;refine wpAny_truthy_bool ?_;cases c with
 | false=>exact hb pins s1 σ H1 Q I1 q1
 | true=>exact ⟨.bl true,H1,I1,rfl,q1⟩
theorem Pq (ha:PE X a ta):PE X (.UnaryOp .Not a pos) (RN ta):=by
 intro pins s σ H Q I h;refine UnaryOp_ (cC (ha pins s σ H _ I h) fun v s1 ⟨x,H1,I1,r1,q1⟩=> ?_);obtain ⟨c,rfl,q1⟩:=q1;cases r1;exact not_of (wpAny_truthy_bool ⟨.bl (!c),H1,I1,rfl,q1⟩)
end
end L2
namespace L2
open PySem PySem.Spec PyProof.Rows
def aY (K:PySem.W.Frag) (H:Hp) (a:Addr) (xs:List V):Prop:=
 Rd H a (.lst xs) \/
  ∃(o:Obj) (its:Array Value) (n:Nat),K.lookup a=some o/\o.cls = .type "list" /\ o.dict=none/\o.data = .seq its n/\its.size<=sizeLine/\Vals xs its.toList
def cH (K:PySem.W.Frag) (H:Hp) (a:Addr) (xs:List V):Prop:=
 Rd H a (.tup xs) \/
  ∃(o:Obj) (its:Array Value) (n:Nat),K.lookup a=some o/\o.cls = .type "tuple" /\ o.data = .seq its n/\its.size<=sizeLine/\Vals xs its.toList
def acC:Value->Option V
 | .none=>some .non
 | .bool b=>some (.bl b)
 | .int i _=>some (.int i)
 | .str x _=>some (.str x)
 | .bytes b _=>some (.CT b)
 | .float b _=>some (.flt b)
 | .ref a=>some (.ref a)
 | .type n=>some (.ty n)
 | _=>none
theorem RelV.abs {x:V} {u:Value} (r:RelV x u):acC u=some x:=by
 cases x with
 | non=>cases r;rfl
 | bl _=>cases r;rfl
 | int _=>obtain ⟨t,rfl⟩:=r;rfl
 | str _=>obtain ⟨t,rfl⟩:=r;rfl
 | CT _=>obtain ⟨t,rfl⟩:=r;rfl
 | flt _=>obtain ⟨t,rfl⟩:=r;rfl
 | ref _=>cases r;rfl
 | ty _=>cases r;rfl
theorem RelV.inj {x y:V} {u:Value} (r:RelV x u) (q:RelV y u):x=y:=Option.some.inj (r.abs.symm.trans q.abs)
theorem Vals.inj {xs ys:List V} {us:List Value} (h:Vals xs us) (h':Vals ys us):xs=ys:=by
 induction h generalizing ys with
 | nil=>cases h';rfl
 | cons r t ih=>cases h' with
   | cons r' t'=>rw [r.inj r',ih t']
section
variable {X:Cx} {pins:List (Addr×Obj)} {σ:St} {H:Hp} {s:Shared} {a:Addr} {xs ys:List V}
theorem aY.of {K:PySem.W.Frag} (h:H a=some (.lst xs)):aY K H a xs:= .inl (.inl h)
theorem cH.of {K:PySem.W.Frag} (h:H a=some (.tup xs)):cH K H a xs:= .inl (.inl h)
theorem Inv.list (I:Inv X pins σ H s) (h:aY X.K H a xs):∃its:List Value,Vals xs its/\PlainL s.heap a its.toArray/\xs.length<=sizeLine:=by
 rcases h with h|⟨o,its,n,hk,hc,hd,hs,hz,r⟩
 ·obtain ⟨z,its,n,r,e⟩:=h.ok I.hok
  exact ⟨its,r,⟨_,n,e,rfl,rfl,rfl⟩,z⟩
 ·refine ⟨its.toList,r,⟨o,n,I.xW a o hk,hc,hd,by simpa using hs⟩, ?_⟩
  have e:=r.length;simp only [Array.length_toList] at e;omega
theorem Inv.tuple (I:Inv X pins σ H s) (h:cH X.K H a xs):∃its:List Value,Vals xs its/\IsTup s.heap a its.toArray/\xs.length<=sizeLine:=by
 rcases h with h|⟨o,its,n,hk,hc,hs,hz,r⟩
 ·obtain ⟨z,its,r,p⟩:=h.ok I.hok
  exact ⟨its,r,p,z⟩
 ·refine ⟨its.toList,r,⟨o,I.xW a o hk,hc,n,by simpa using hs⟩, ?_⟩
  have e:=r.length;simp only [Array.length_toList] at e;omega
theorem Inv.qJ (I:Inv X pins σ H s) (h:aY X.K H a xs) (h':aY X.K H a ys):xs=ys:=by
 obtain ⟨its,r,⟨o,n,e,_,_,d⟩,_⟩:=I.list h;obtain ⟨its',r',⟨o',n',e',_,_,d'⟩,_⟩:=I.list h';rw [e] at e';cases e';rw [d] at d';injection d' with d1 _
 have:its=its':=by simpa using congrArg Array.toList d1
 subst this;exact r.inj r'
theorem Inv.Dj (I:Inv X pins σ H s) (h:cH X.K H a xs) (h':cH X.K H a ys):xs=ys:=by
 obtain ⟨its,r,⟨o,e,_,n,d⟩,_⟩:=I.tuple h;obtain ⟨its',r',⟨o',e',_,n',d'⟩,_⟩:=I.tuple h';rw [e] at e';cases e';rw [d] at d';injection d' with d1 _
 have:its=its':=by simpa using congrArg Array.toList d1
 subst this;exact r.inj r'
end
abbrev Cx.wish (X:Cx) (E:Value->Shared->Prop):Cx:={X with xe:=E}
abbrev Cx.VR (X:Cx):Cx:=X.wish fun _ _=>False
theorem Cx.Ok.wish {X:Cx} (ok:X.Ok) (E:Value->Shared->Prop):(X.wish E).Ok:=
 ⟨ok.mod,ok.kind,ok.glob,ok.blt,ok.above,ok.inj,ok.has,ok.cab,ok.hd,ok.frames,ok.stk,ok.exf,ok.bs,ok.Nv,ok.H_,ok.L_,ok.qN,ok.Rw⟩
theorem Cx.Ok.jY {X:Cx} {E:Value->Shared->Prop} (ok:(X.wish E).Ok):X.Ok:=
 ⟨ok.mod,ok.kind,ok.glob,ok.blt,ok.above,ok.inj,ok.has,ok.cab,ok.hd,ok.frames,ok.stk,ok.exf,ok.bs,ok.Nv,ok.H_,ok.L_,ok.qN,ok.Rw⟩
section
variable {X:Cx} {pins:List (Addr×Obj)} {σ:St} {H:Hp} {s:Shared} {E:Value->Shared->Prop}
theorem Inv.wish (I:Inv X pins σ H s) (E:Value->Shared->Prop):Inv (X.wish E) pins σ H s:=⟨I.ok.wish E,I.os,I.bare,I.base,I.loc,I.cell,I.free,I.jT,I.pin,I.hok,I.len⟩
theorem Inv.jY (I:Inv (X.wish E) pins σ H s):Inv X pins σ H s:=⟨I.ok.jY,I.os,I.bare,I.base,I.loc,I.cell,I.free,I.jT,I.pin,I.hok,I.len⟩
theorem SP.jY {D:Ends} {f:Flow} {s':Shared} (h:SP (X.wish E) pins D f s'):SP X pins D f s':=by
 cases f with
 | next=>obtain ⟨σ',H',I,q⟩:=h;exact ⟨σ',H',I.jY,q⟩
 | brk=>obtain ⟨σ',H',I,q⟩:=h;exact ⟨σ',H',I.jY,q⟩
 | cont=>obtain ⟨σ',H',I,q⟩:=h;exact ⟨σ',H',I.jY,q⟩
 | ret u=>obtain ⟨v,σ',H',I,r,q⟩:=h;exact ⟨v,σ',H',I.jY,r,q⟩
theorem FW.VR {st:List Stmt} {t:TS} (h:FW X.VR st t):FW X st t:=fun pins s σ H D I hw=>
 wpAny_mono (h pins s σ H D (I.wish _) hw) (fun _ _ q=>q.jY) fun _ _ z=>False.elim z
end
section
variable {X:Cx} {st:Stmt} {rest:List Stmt} {t u:TS} {e:Expr} {te:TE} {pos:Pos}
def RP:TS:=fun D σ H=>D.nx σ H
def RL (t u:TS):TS:=fun D σ H=>t {D with nx:=u D} σ H
theorem bh:FW X [] RP:=fun _ _ σ H _ I h=>wpAny_execs_nil ⟨σ,H,I,h⟩
theorem au (h1:PS X st t) (h2:FW X rest u):FW X (st::rest) (RL t u):=by
 intro pins s σ H D I h;refine wpAny_execs_cons (cC (h1 pins s σ H {D with nx:=u D} I h) fun f s1 q=> ?_);cases f with
 | next=>
   obtain ⟨σ',H',I',q⟩:=q;exact h2 pins s1 σ' H' D I' q
 | ret v=>exact q
 | brk=>exact q
 | cont=>exact q
theorem aF (h1:PS X st t):FW X [st] t:=by
 intro pins s σ H D I h;refine wpAny_execs_cons (cC (h1 pins s σ H D I h) fun f s1 q=> ?_);cases f with
 | next=>exact wpAny_execs_nil q
 | ret v=>exact q
 | brk=>exact q
 | cont=>exact q
theorem Inv.quiet {pins:List (Addr×Obj)} {σ:St} {H:Hp} {s:Shared} (I:Inv X pins σ H s):interactive X.env=false:=by simp [interactive,I.ok.kind]
def MP (te:TE):TS:=fun D σ H=>te σ H fun _ H1=>D.nx σ H1
theorem dI (he:PE X e te) (hs:swapsWith e none pos.line X.env=pure false:=by rfl):PS X (.Expr e pos) (MP te):=by
 intro pins s σ H D I h;exact wpAny_Expr_any (cC (he pins s σ H _ I h) fun v s1 ⟨x,H1,I1,r1,q1⟩=>⟨σ,H1,I1,q1⟩) I.quiet hs
def Xf (te:TE):TS:=fun D σ H=>te σ H D.rt
theorem aW (he:PE X e te):PS X (.Return (some e) pos) (Xf te):=by
 intro pins s σ H D I h;exact wpAny_Return_some (cC (he pins s σ H _ I h) fun v s1 ⟨x,H1,I1,r1,q1⟩=>⟨x,σ,H1,I1,r1,q1⟩)
def Xk (c:TT) (t u:TS):TS:=fun D σ H=>c σ H fun b H1=>if b=true then t D σ H1 else u D σ H1
theorem b_ {c:Expr} {a b:List Stmt} {tc:TT} (hc:PT X c tc) (ha:FW X a t) (hb:FW X b u):PS X (.If c a b pos) (Xk tc t u):=by
 intro pins s σ H D I h;refine wpAny_If (cC (hc pins s σ H _ I h) fun d s1 ⟨H1,I1,q1⟩=> ?_);cases d with
 | true=>exact ha pins s1 σ H1 D I1 q1
 | false=>exact hb pins s1 σ H1 D I1 q1
def Ob:TS:=fun _ _ _=>False
theorem Ho:PS X st Ob:=fun _ _ _ _ _ _ h=>h.elim
end
abbrev TG:=V->St->Hp->(St->Hp->Prop)->Prop
abbrev NK:=List V->St->Hp->(St->Hp->Prop)->Prop
def PG (X:Cx) (target:Expr) (t:TG):Prop:=
 ∀(pins:List (Addr×Obj)) (s:Shared) (σ:St) (H:Hp) (v:V) (u:Value) (Q:St->Hp->Prop),Inv X pins σ H s->RelV v u->t v σ H Q ->
  wpAny (model X.prog X.w) X.A (assign target X.env u) (fun _ s'=>∃σ' H',Inv X pins σ' H' s'/\Q σ' H') X.xe s
def Vn (X:Cx) (ts:List Expr) (t:NK):Prop:=
 ∀(pins:List (Addr×Obj)) (s:Shared) (σ:St) (H:Hp) (vs:List V) (us:List Value) (Q:St->Hp->Prop),Inv X pins σ H s->Vals vs us->t vs σ H Q ->
  wpAny (model X.prog X.w) X.A (assignInOrder ((assignEach ts X.env).map (·.2)) us) (fun _ s'=>∃σ' H',Inv X pins σ' H' s'/\Q σ' H') X.xe s
abbrev JM:=V->V->V->Hp->(Hp->Prop)->Prop
def Ri (X:Cx) (t:JM):Prop:=
 ∀(pins:List (Addr×Obj)) (s:Shared) (σ:St) (H:Hp) (o i v:V) (ov iv u:Value) (Q:Hp->Prop),Inv X pins σ H s->RelV o ov->RelV i iv->RelV v u->t o i v H Q ->
  wpAny (model X.prog X.w) X.A (setItem ov iv u) (fun _ s'=>∃H',Inv X pins σ H' s'/\Q H') X.xe s
abbrev W5:=V->V->Hp->VK->Prop
def PIp (X:Cx) (op:Operator) (t:W5):Prop:=
 ∀(pins:List (Addr×Obj)) (s:Shared) (σ:St) (H:Hp) (x y:V) (v u:Value) (Q:VK),Inv X pins σ H s->RelV x v->RelV y u->t x y H Q ->
  wpAny (model X.prog X.w) X.A (inplaceOp op v u) (EP X pins σ Q) X.xe s
section
variable {X:Cx} {pos:Pos}
def jR (i:Nat):TG:=fun v σ H Q=>Q (σ.set i (some v)) H
theorem bf {i:Nat} {x:Str} (hN:X.N.Nodup) (hi:X.N[i]? = some x) (hx:Loc X.env.scope x) (hf:X.fn x=true\/X.env.scope.names.lookup x=some .local:=by first |exact .inl rfl|exact .inr rfl|assumption):PG X (.Name x pos) (jR i):=by
 intro pins s σ H v u Q I r h;exact wpAny_assign_Name (wH I hN hi hx r (fun s' I'=>⟨_,H,I',h⟩) hf)
def Uk:NK:=fun vs σ H Q=>vs=[]/\Q σ H
def Jk (t:TG) (u:NK):NK:=fun vs σ H Q=>∃v r,vs=v::r/\t v σ H fun σ' H'=>u r σ' H' Q
theorem BL:Vn X [] Uk:=by
 intro pins s σ H vs us Q I r h;obtain ⟨e,h⟩:=h;subst e;cases r;exact assignInOrder_nil ⟨σ,H,I,h⟩
theorem mW {e:Expr} {es:List Expr} {t:TG} {u:NK} (h1:PG X e t) (h2:Vn X es u)
 (hs:(assignEach (e::es) X.env).map (·.2)=assign e X.env::(assignEach es X.env).map (·.2):=by rfl):Vn X (e::es) (Jk t u):=by
 intro pins s σ H vs us Q I r h;obtain ⟨v,vr,e1,h⟩:=h;subst e1;cases r with
 | cons r rr=>
   rw [hs];refine assignInOrder_cons (cC (h1 pins s σ H _ _ _ I r h) fun _ s1 ⟨σ1,H1,I1,q1⟩=> ?_);exact h2 pins s1 σ1 H1 _ _ Q I1 rr q1
def QJ (K:PySem.W.Frag) (n:Nat) (t:NK):TG:=fun v σ H Q=>∃a xs,v = .ref a/\cH K H a xs/\xs.length=n/\t xs σ H Q
theorem Pk {es:List Expr} {k:Nat} {t:NK} {n:Nat} (hc:X.calm=true) (h:Vn X es t)
 (hn:(assignEach es X.env).length=n:=by rfl) (hst:(assignEach es X.env).findIdx? (·.1)=none:=by rfl):PG X (.Tuple es k pos) (QJ X.K n t):=by
 intro pins s σ H v u Q I r hw;obtain ⟨a,xs,e1,hq,hl,hw⟩:=hw;subst e1;cases r;obtain ⟨its,rv,ht,hz⟩:=I.tuple hq;refine assign_Tuple_tuple (I.ok.hd hc) ht (by simp [hn,←hl,rv.length]) hst fun h' hx=> ?_;have I1:Inv X pins σ H {s with heap:=h'}:=I.kept (t':=s.toks) fun b o e=>hx b o (Nat.ne_of_lt (Heap.lt_size e)) e;exact h pins _ σ H xs _ Q I1 (by simpa using rv) hw
def aa0 (to ti:TE) (t:JM):TG:=fun v σ H Q=>to σ H fun o H1=>ti σ H1 fun i H2=>t o i v H2 fun H3=>Q σ H3
theorem nR {o i:Expr} {to ti:TE} {t:JM} (ho:PE X o to) (hi:PE X i ti) (hs:Ri X t)
 (ha:∀v,assign (.Subscript o i pos) X.env v=(do
   let ov ←holding [v] (eval o X.env)
   let iv ←holding [v,ov] (eval i X.env)
   standAt pos
   holding [v,ov,iv] (setItem ov iv v)
   release [v,ov,iv] []):=by intro _;rfl):PG X (.Subscript o i pos) (aa0 to ti t):=by
 intro pins s σ H v u Q I r h;rw [ha];refine wpAny_bind (wpAny_holding (cC (ho pins s σ H _ I h) fun ov s1 ⟨x,H1,I1,r1,q1⟩=> ?_));refine wpAny_bind (wpAny_holding (cC (hi pins s1 σ H1 _ I1 q1) fun iv s2 ⟨y,H2,I2,r2,q2⟩=> ?_));refine wpAny_bind (wpAny_standAt (wpAny_bind (wpAny_holding (cC (hs pins s2 σ H2 x y v ov iv u _ I2 r1 r2 r q2) fun _ s3 ⟨H3,I3,q3⟩=> ?_))));exact wpAny_release ⟨σ,H3,I3,q3⟩
def Om (te:TE) (g:TG):TS:=fun D σ H=>te σ H fun x H1=>g x σ H1 D.nx
theorem lY {tg e:Expr} {te:TE} {g:TG} (he:PE X e te) (hg:PG X tg g) (hs:swapsWithSole [tg] e pos.line X.env=pure false:=by rfl) (hw:swappedStores [tg] e X.env=pure none:=by rfl)
 (h1:(assignEach [tg] X.env).map (·.2)=[assign tg X.env]:=by rfl):PS X (.Assign [tg] e pos) (Om te g):=by
 intro pins s σ H D I h;refine wpAny_Assign_stores (cC (he pins s σ H _ I h) fun v s1 ⟨x,H1,I1,r1,q1⟩=> ?_) hs hw;rw [h1];exact cC (hg pins s1 σ H1 x v _ I1 r1 q1) fun _ s2 q=>q
theorem aU {i:Nat} {x:Str} {e:Expr} {te:TE} {pos':Pos} (hN:X.N.Nodup) (hi:X.N[i]? = some x) (hx:Loc X.env.scope x) (he:PE X e te) (hs:swapsWith e (some (.Name x pos')) pos.line X.env=pure false:=by rfl) (hf:X.fn x=true\/X.env.scope.names.lookup x=some .local:=by first |exact .inl rfl|exact .inr rfl|assumption):
 PS X (.Assign [.Name x pos'] e pos) (Om te (jR i)):=by
 intro pins s σ H D I h;refine wpAny_Assign_Name (cC (he pins s σ H _ I h) fun v s1 ⟨y,H1,I1,r1,q1⟩=> ?_) hs;exact wH I1 hN hi hx r1 (fun s2 I2=>⟨_,H1,I2,q1⟩) hf
def RX (to ti te:TE) (J_:V->V->Hp->VK->Prop) (VB:W5) (J8:JM):TS:=fun D σ H=>to σ H fun o H1=>ti σ H1 fun i H2=>J_ o i H2 fun x H3=>te σ H3 fun y H4=>VB x y H4 fun z H5=>J8 o i z H5 fun H6=>D.nx σ H6
def Vo (X:Cx) (t:V->V->Hp->VK->Prop):Prop:=
 ∀(pins:List (Addr×Obj)) (s:Shared) (σ:St) (H:Hp) (o i:V) (ov iv:Value) (Q:VK),Inv X pins σ H s->RelV o ov->RelV i iv->t o i H Q ->
  wpAny (model X.prog X.w) X.A (getItem ov iv) (EP X pins σ Q) X.xe s
theorem KR {o i e:Expr} {to ti te:TE} {J_:V->V->Hp->VK->Prop} {VB:W5} {J8:JM} {op:Operator} {tpos:Pos} (ho:PE X o to) (hi:PE X i ti) (hg:Vo X J_) (he:PE X e te) (hp:PIp X op VB) (hs:Ri X J8)
 (ha:∀ov iv new,augStore i ov iv new=(do holding [new,ov,iv] (setItem ov iv new);release [new,ov,iv] [];pure .next):=by intros;rfl):PS X (.AugAssign (.Subscript o i tpos) op e pos) (RX to ti te J_ VB J8):=by
 intro pins s σ H D I h;refine wpAny_AugAssign_SubscriptAny (cC (ho pins s σ H _ I h) fun ov s1 ⟨x1,H1,I1,r1,q1⟩=> ?_) ha;refine cC (hi pins s1 σ H1 _ I1 q1) fun iv s2 ⟨x2,H2,I2,r2,q2⟩=> ?_;refine cC (hg pins s2 σ H2 x1 x2 ov iv _ I2 r1 r2 q2) fun old s3 ⟨x3,H3,I3,r3,q3⟩=> ?_;refine cC (he pins s3 σ H3 _ I3 q3) fun v s4 ⟨x4,H4,I4,r4,q4⟩=> ?_;refine cC (hp pins s4 σ H4 x3 x4 old v _ I4 r3 r4 q4) fun new s5 ⟨x5,H5,I5,r5,q5⟩=> ?_;exact cC (hs pins s5 σ H5 x1 x2 x5 ov iv new _ I5 r1 r2 r5 q5) fun _ s6 ⟨H6,I6,q6⟩=>⟨σ,H6,I6,q6⟩
def ipI (f:Int->Int->Int):W5:=fun x y H Q=>∃i j,x = .int i/\y = .int j/\Q (.int (f i j)) H
theorem Qq:PIp X .Add (ipI fun i j=>i+j):=by
 intro pins s σ H x y v u Q I r1 r2 h;obtain ⟨i,j,e1,e2,q⟩:=h;subst e1;subst e2;obtain ⟨t,rfl⟩:=r1;obtain ⟨t',rfl⟩:=r2;exact iadd_int ⟨.int _,H,I.tok _,⟨_,rfl⟩,q⟩
end
section
variable {X:Cx} {pos:Pos}
def Oa (c:TT) (tb:TS):TS:=fun D σ H=>∃W:Nat->St->Hp->Prop,(∃m,W m σ H) /\ ∀m σ H,W m σ H ->
 c σ H fun b H1=>if b=true then ∃N:St->Hp->Prop,(∀σ' H',N σ' H' -> ∃m',m'<m/\W m' σ' H')/\tb {D with nx:=N,ct:=N,bk:=D.nx} σ H1 else D.nx σ H1
theorem wV {c:Expr} {body:List Stmt} {tc:TT} {tb:TS} (hp:PassesOwn (model X.prog X.w) X.A X.env X.xe) (hc:PT X c tc) (hb:FW X body tb):PS X (.While c body [] pos) (Oa tc tb):=by
 intro pins s σ H D I h;obtain ⟨W,⟨m0,w0⟩,turn⟩:=h;refine wpAny_While (codeAny_whileLoop (fun n s'=>∃σ' H',Inv X pins σ' H' s'/\W n σ' H') ?_ m0 ⟨σ,H,I,w0⟩);rintro n s1 ⟨σ1,H1,I1,w1⟩;refine wpAny_passesOwn hp (cC (hc pins s1 σ1 H1 _ I1 (turn n σ1 H1 w1)) fun b s2 ⟨H2,I2,q2⟩=> ?_);cases b with
 | true=>
   obtain ⟨N,hN,q2⟩:=q2;rw [if_pos rfl];refine wpAny_passesOwn hp (cC (hb pins s2 σ1 H2 _ I2 q2) fun f s3 q3=> ?_);cases f with
   | next=>
     obtain ⟨σ3,H3,I3,n3⟩:=q3;obtain ⟨m',hm,w3⟩:=hN σ3 H3 n3;exact ⟨m',hm,σ3,H3,I3,w3⟩
   | cont=>
     obtain ⟨σ3,H3,I3,n3⟩:=q3;obtain ⟨m',hm,w3⟩:=hN σ3 H3 n3;exact ⟨m',hm,σ3,H3,I3,w3⟩
   | brk=>exact q3
   | ret v=>exact q3
 | false=>
   rw [if_neg Bool.false_ne_true];exact wpAny_execs_nil ⟨σ1,H2,I2,q2⟩
end
structure It where
 go:Nat->Hp->Prop
 Rr:Nat->Hp->V->Hp->Prop
 stop:Nat->Hp->Prop
def mJ (X:Cx) (pins:List (Addr×Obj)) (H:Hp) (b:Addr):Prop:=
 H b=none/\b≠X.env.locals/\b∉X.fs/\(b∈X.ex\/X.s₀.heap.objs.size<=b)/\(∀x c,X.env.cells.lookup x=some c->c≠b) /\ ∀p∈X.pn++pins,p.1≠b
theorem Inv.vP {X:Cx} {pins:List (Addr×Obj)} {σ:St} {H H':Hp} {s:Shared} {b:Addr} (I:Inv X pins σ H s) (hb:s.heap.objs.size<=b) (hn:H' b=none):mJ X pins H' b:=by
 refine ⟨hn,Nat.ne_of_gt (Nat.lt_of_lt_of_le I.lt hb),I.ZC hb,.inr (Nat.le_trans I.sz hb),fun x c e z=> ?_,fun p hp z=> ?_⟩
 ·obtain ⟨v,q⟩:=I.cell x c e
  exact absurd (Nat.lt_of_lt_of_le q.lt (by rw [z];exact hb)) (Nat.lt_irrefl _)
 ·exact absurd (Nat.lt_of_lt_of_le (Heap.lt_size (I.pin p hp).1) (by rw [z];exact hb)) (Nat.lt_irrefl _)
structure Turn (P:Program) (w:World) (K:PySem.W.Frag) (tg:Expr) (J:It) (fp:List Addr) (it:Addr) (tn:Nat->Heap->Prop):Prop where
 mem:it∈fp
 obj:∀i h,tn i h -> ∀b∈fp,∃o,h.get? b=some o /\ ∀v,o.data ≠ .cell v
 keep:∀i h h',tn i h->(∀b∈fp,∀o,h.get? b=some o->h'.get? b=some o)->tn i h'
 item:∀(X:Cx),X.prog=P->X.w=w->X.K=K->X.calm=true -> ∀(i:Nat) (pins:List (Addr×Obj)) (s:Shared) (σ:St) (H:Hp) (E:Value->Shared->Prop),Inv X pins σ H s->(∀b∈fp,mJ X pins H b)->tn i s.heap->J.go i H ->
  wpAny (model P w) X.A (pyNext (.ref it)) (fun r s1=>∃u,r=some u /\
   wpAny (model P w) X.A (letOwnedTupleGo tg (.ref it) u) (fun _ s2=>∃x H',Inv X pins σ H' s2/\RelV x u/\J.Rr i H x H'/\tn (i+1) s2.heap /\ ∀b∈fp,H' b=none) E s1) E s
 done:∀(X:Cx),X.prog=P->X.w=w->X.K=K->X.calm=true -> ∀(i:Nat) (pins:List (Addr×Obj)) (s:Shared) (σ:St) (H:Hp) (E:Value->Shared->Prop),Inv X pins σ H s->(∀b∈fp,mJ X pins H b)->tn i s.heap->J.stop i H ->
  wpAny (model P w) X.A (pyNext (.ref it)) (fun r s1=>r=none/\Inv X pins σ H s1) E s
 self:∀(A:Around) (i:Nat) (s:Shared) (Q:Value->Shared->Prop) (E:Value->Shared->Prop),tn i s.heap->Q (.ref it) s->wpAny (model P w) A (pyIter (.ref it)) Q E s
abbrev TI:=St->Hp->(It->Hp->Prop)->Prop
def PIE (X:Cx) (pins:List (Addr×Obj)) (σ:St) (tg:Expr) (R:It->Hp->Prop) (itv:Value) (s2:Shared):Prop:=
 ∃(it:Addr) (fp:List Addr) (tn:Nat->Heap->Prop) (J:It) (H':Hp),itv = .ref it/\Inv X pins σ H' s2/\Turn X.prog X.w X.K tg J fp it tn/\tn 0 s2.heap/\(∀b∈fp,mJ X pins H' b)/\R J H'
def PI (X:Cx) (tg iter:Expr) (wi:TI):Prop:=
 ∀(pins:List (Addr×Obj)) (s:Shared) (σ:St) (H:Hp) (R:It->Hp->Prop),Inv X pins σ H s->wi σ H R ->
  wpAny (model X.prog X.w) X.A (eval iter X.env) (fun v s1=>wpAny (model X.prog X.w) X.A (pyIter v) (PIE X pins σ tg R) X.xe s1) X.xe s
theorem Cv {M:Model} {A:Around} {E:Value->Shared->Prop} {s:Shared} {tg:Expr} {it:Addr} {u:Value} {o:Obj} {n:String} {vs:Array Value} {Q:Unit->Shared->Prop} (ho:s.heap.get? it=some o) (hc:o.cls = .type n) (hd:o.data = .fields vs)
 (hn:["enumerate","zip","dict_itemiterator","dict_reverseitemiterator","odict_iterator","itertools.zip_longest","itertools.pairwise"].contains n=false) (hQ:Q () s):wpAny M A (letOwnedTupleGo tg (.ref it) u) Q E s:=by
 unfold letOwnedTupleGo
 cases tg<;>first
  | exact wpAny_pure hQ
  | (cases u<;>first
      | exact wpAny_pure hQ
      | (refine wpAny_bind (wpAny_load ho ?_)
         rw [hc,hd];show wpAny M A (if (["enumerate","zip","dict_itemiterator","dict_reverseitemiterator","odict_iterator","itertools.zip_longest","itertools.pairwise"].contains n&&vs[0]? == some (rawInt _))=true then _ else _) Q E s;rw [if_neg (by intro h;rw [hn,Bool.false_and] at h;cases h)];exact wpAny_pure hQ))
def J5 (K:PySem.W.Frag) (a:Addr):It:=
 ⟨fun i H=>∃xs x,aY K H a xs/\xs[i]? = some x,fun i H x H'=>H'=H /\ ∀xs,aY K H a xs->xs[i]? = some x,fun i H=>∃xs,aY K H a xs/\xs.length<=i⟩
def W_ (K:PySem.W.Frag) (a:Addr):It:=
 ⟨fun i H=>∃xs x,cH K H a xs/\xs[i]? = some x,fun i H x H'=>H'=H /\ ∀xs,cH K H a xs->xs[i]? = some x,fun i H=>∃xs,cH K H a xs/\xs.length<=i⟩
def Mw (lo:Int) (n:Nat):It:=⟨fun i _=>i<n,fun i H x H'=>H'=H/\x = .int (lo+i),fun i _=>n<=i⟩
theorem Dh {P:Program} {w:World} {K:PySem.W.Frag} {tg:Expr} (a it:Addr):Turn P w K tg (J5 K a) [it] it (fun i h=>h.IsListIter it a i) where
 mem:=by simp
 obj:=fun i h st b hb=>by
  have e:b=it:=by simpa using hb
  subst e;obtain ⟨o,e,c,d⟩:=st;exact ⟨o,e,fun v z=>by rw [d] at z;cases z⟩
 keep:=fun i h h' st k=>st.at fun o e=>k it (by simp) o e
 item:=by
  intro X hP hw hK hc i pins s σ H E I hf st hg;subst hP hw hK;obtain ⟨xs,x,hq,hx⟩:=hg;obtain ⟨its,rv,p,hz⟩:=I.list hq;obtain ⟨u,hu,ru⟩:=rv.get hx;obtain ⟨f0,f1,f2,f3,f4,f5⟩:=hf it (by simp);refine wpAny_pyNext_list_item st p.isList (x:=u) (by simpa using hu) fun h' st' sb=> ?_;have I1:Inv X pins σ H {s with heap:=h'}:=I.turned (t':=s.toks) (fun b o hb e=>(sb.2 b hb).trans e) f0 f1 f3 f4 f5;obtain ⟨o,e,c,d⟩:=id st';exact ⟨u,rfl,Cv (s:={s with heap:=h'}) e c d (by decide) ⟨x,H,I1,ru,⟨rfl,fun ys hy=>by rw [I.qJ hy hq];exact hx⟩,st',fun b hb=>(hf b hb).1⟩⟩
 done:=by
  intro X hP hw hK hc i pins s σ H E I hf st hg;subst hP hw hK;obtain ⟨xs,hq,hx⟩:=hg;obtain ⟨its,rv,p,hz⟩:=I.list hq;obtain ⟨f0,f1,f2,f3,f4,f5⟩:=hf it (by simp);have hl:=rv.length;exact wpAny_pyNext_list_end (I.ok.hd hc) st p.isList (by simp;omega) fun h' eb=>⟨rfl,I.turned (t':=s.toks) (fun b o hb e=>eb b o hb e) f0 f1 f3 f4 f5⟩
 self:=fun _ _ _ _ _ st h=>wpAny_pyIter_listiter st h
theorem yZ {P:Program} {w:World} {K:PySem.W.Frag} {tg:Expr} (a it:Addr):Turn P w K tg (W_ K a) [it] it (fun i h=>h.IsTupleIter it a i) where
 mem:=by simp
 obj:=fun i h st b hb=>by
  have e:b=it:=by simpa using hb
  subst e;obtain ⟨o,e,c,d⟩:=st;exact ⟨o,e,fun v z=>by rw [d] at z;cases z⟩
 keep:=fun i h h' st k=>st.at fun o e=>k it (by simp) o e
 item:=by
  intro X hP hw hK hc i pins s σ H E I hf st hg;subst hP hw hK;obtain ⟨xs,x,hq,hx⟩:=hg;obtain ⟨its,rv,p,hz⟩:=I.tuple hq;obtain ⟨u,hu,ru⟩:=rv.get hx;obtain ⟨f0,f1,f2,f3,f4,f5⟩:=hf it (by simp);refine wpAny_pyNext_tuple_item st (show s.heap.IsTuple a its.toArray from p) (x:=u) (by simpa using hu) fun h' st' sb=> ?_;have I1:Inv X pins σ H {s with heap:=h'}:=I.turned (t':=s.toks) (fun b o hb e=>(sb.2 b hb).trans e) f0 f1 f3 f4 f5;obtain ⟨o,e,c,d⟩:=id st';exact ⟨u,rfl,Cv (s:={s with heap:=h'}) e c d (by decide) ⟨x,H,I1,ru,⟨rfl,fun ys hy=>by rw [I.Dj hy hq];exact hx⟩,st',fun b hb=>(hf b hb).1⟩⟩
 done:=by
  intro X hP hw hK hc i pins s σ H E I hf st hg;subst hP hw hK;obtain ⟨xs,hq,hx⟩:=hg;obtain ⟨its,rv,p,hz⟩:=I.tuple hq;obtain ⟨f0,f1,f2,f3,f4,f5⟩:=hf it (by simp);have hl:=rv.length;exact wpAny_pyNext_tuple_end (I.ok.hd hc) st (show s.heap.IsTuple a its.toArray from p) (by simp;omega) fun h' eb=>⟨rfl,I.turned (t':=s.toks) (fun b o hb e=>eb b o hb e) f0 f1 f3 f4 f5⟩
 self:=fun _ _ _ _ _ st h=>wpAny_pyIter_tupleiter st h
theorem za {P:Program} {w:World} {K:PySem.W.Frag} {tg:Expr} (it:Addr) (lo:Int) (n:Nat):Turn P w K tg (Mw lo n) [it] it (fun i h=>IsRangeIter h it (lo+(i:Nat)*1) ((n:Int) - (i:Nat)) 1) where
 mem:=by simp
 obj:=fun i h st b hb=>by
  have e:b=it:=by simpa using hb
  subst e
  exact ⟨_,st,fun v z=>by
   have z':Data.fields _=Data.cell v:=z;cases z'⟩
 keep:=fun i h h' st k=>k it (by simp) _ st
 item:=by
  intro X hP hw hK hc i pins s σ H E I hf st hg;subst hP hw hK;obtain ⟨f0,f1,f2,f3,f4,f5⟩:=hf it (by simp);have W:=Walks.range (prog:=X.prog) (w:=X.w) (I.ok.hd hc) it lo 1 n;refine W.item i s _ _ hg st fun v h' tk hv st' kk=> ?_;obtain ⟨t,rfl⟩:=hv;have I1:Inv X pins σ H {s with heap:=h',toks:=tk}:=I.turned (fun b o hb e=>kk b o (by simpa using hb) e) f0 f1 f3 f4 f5;refine ⟨_,rfl,Cv (s:={s with heap:=h',toks:=tk}) (n:= "range_iterator") st' rfl rfl (by decide) ⟨.int (lo+i),H,I1,⟨t, ?_⟩,⟨rfl,rfl⟩,st',fun b hb=>(hf b hb).1⟩⟩;rw [Int.mul_one]
 done:=by
  intro X hP hw hK hc i pins s σ H E I hf st hg;subst hP hw hK;obtain ⟨f0,f1,f2,f3,f4,f5⟩:=hf it (by simp);exact wpAny_pyNext_range_end (I.ok.hd hc) st (by have:n<=i:=hg;omega) fun h' eb=>⟨rfl,I.turned (t':=s.toks) (fun b o hb e=>eb b o hb e) f0 f1 f3 f4 f5⟩
 self:=fun _ _ _ _ _ st h=>wpAny_pyIter_rangeiter st h
end L2
namespace L2
open PySem PySem.Spec PyProof.Rows
section
variable {X:Cx} {tg:Expr}
def Ni (K:PySem.W.Frag) (tl:TE):TI:=fun σ H R=>tl σ H fun x H1=>∃a,x = .ref a/\(∃xs,aY K H1 a xs)/\R (J5 K a) H1
def T5 (K:PySem.W.Frag) (tl:TE):TI:=fun σ H R=>tl σ H fun x H1=>∃a,x = .ref a/\(∃xs,cH K H1 a xs)/\R (W_ K a) H1
theorem K3 {l:Expr} {tl:TE} (hl:PE X l tl):PI X tg l (Ni X.K tl):=by
 intro pins s σ H R I h;refine cC (hl pins s σ H _ I h) fun v s1 ⟨x,H1,I1,r1,q1⟩=> ?_;obtain ⟨a,e,⟨xs,hq⟩,q⟩:=q1;subst e;cases r1;obtain ⟨its,rv,p,hz⟩:=I1.list hq;refine wpAny_pyIter_list p.isList ?_;refine ⟨s1.heap.objs.size,[s1.heap.objs.size],_,_,H1,rfl,I1.kept (t':=s1.toks) fun b o e=>Heap.get?_push_of_some _ e,Dh a _,⟨_,Heap.get?_push_size _ rfl,rfl,rfl⟩,fun b hb=> ?_,q⟩;have e:b=s1.heap.objs.size:=by simpa using hb
 subst e;exact I1.vP (Nat.le_refl _) (I1.hok.fresh (Nat.le_refl _))
theorem Pj {l:Expr} {tl:TE} (hl:PE X l tl):PI X tg l (T5 X.K tl):=by
 intro pins s σ H R I h;refine cC (hl pins s σ H _ I h) fun v s1 ⟨x,H1,I1,r1,q1⟩=> ?_;obtain ⟨a,e,⟨xs,hq⟩,q⟩:=q1;subst e;cases r1;obtain ⟨its,rv,p,hz⟩:=I1.tuple hq;refine wpAny_pyIter_tuple (show s1.heap.IsTuple a its.toArray from p) ?_;refine ⟨s1.heap.objs.size,[s1.heap.objs.size],_,_,H1,rfl,I1.kept (t':=s1.toks) fun b o e=>Heap.get?_push_of_some _ e,yZ a _,⟨_,Heap.get?_push_size _ rfl,rfl,rfl⟩,fun b hb=> ?_,q⟩;have e:b=s1.heap.objs.size:=by simpa using hb
 subst e;exact I1.vP (Nat.le_refl _) (I1.hok.fresh (Nat.le_refl _))
theorem G9 {pins:List (Addr×Obj)} {σ:St} {H:Hp} {s:Shared} {R:It->Hp->Prop} {E:Value->Shared->Prop} {lo hi:Int} {t u v:Tok} {tk:Nat} (I:Inv X pins σ H s) (h1: -(2 ^ 62)<=lo) (h2:lo<2 ^ 62) (h3: -(2 ^ 62)<=hi) (h4:hi<2 ^ 62)
 (q:R (Mw lo (hi - lo).toNat) H):wpAny (model X.prog X.w) X.A (pyIter (.ref s.heap.objs.size)) (PIE X pins σ tg R) E {s with heap:=s.heap.push {cls:= .type "range",data:= .fields #[.int lo t,.int hi u,.int 1 v]},toks:=tk}:=by
 refine wpAny_pyIter_range (IsRange.new ..) (small_one h1 h2 h3 h4) ?_;have I1:Inv X pins σ H {s with heap:=s.heap.push {cls:= .type "range",data:= .fields #[.int lo t,.int hi u,.int 1 v]},toks:=tk}:=I.kept fun b o e=>Heap.get?_push_of_some _ e
 refine ⟨(s.heap.push {cls:= .type "range",data:= .fields #[.int lo t,.int hi u,.int 1 v]}).objs.size,[(s.heap.push {cls:= .type "range",data:= .fields #[.int lo t,.int hi u,.int 1 v]}).objs.size],_,_,H,rfl,
  I1.kept (t':=tk) fun b o e=>Heap.get?_push_of_some _ e,za _ lo (hi - lo).toNat, ?_,fun b hb=> ?_,q⟩
 ·have e1:lo+((0:Nat):Int)*1=lo:=by simp
  have e2:(((hi - lo).toNat:Nat):Int) - ((0:Nat):Int)=Builtin.Range.rangeSize lo hi 1:=by rw [rangeSize_one];split<;>omega
  show IsRangeIter _ _ (lo+((0:Nat):Int)*1) ((((hi - lo).toNat:Nat):Int) - ((0:Nat):Int)) 1;rw [e1,e2];exact Heap.get?_push_size _ rfl
 ·have e:b=(s.heap.push {cls:= .type "range",data:= .fields #[.int lo t,.int hi u,.int 1 v]}).objs.size:=by simpa using hb
  subst e;exact I1.vP (Nat.le_refl _) (I1.hok.fresh (Nat.le_refl _))
def T6 (ta:TA):TI:=fun σ H R=>ta σ H fun vs H1=>∃j:Int,vs=[.int j] /\ -(2 ^ 62)<=j/\j<2 ^ 62/\R (Mw 0 j.toNat) H1
theorem cg {a:Expr} {ta:TA} {p pos:Pos} (hg:Gl X "range") (hm:X.mg "range" = none) (ha:PA X [a] ta) (hs:starEach [a] X.env=[(false,eval a X.env)]:=by rfl):PI X tg (.Call (.Name "range" p) [a] [] pos) (T6 ta):=by
 intro pins s σ H R I h;refine Call_ (nY I hg hm boot_range (PyProof.Rows.callWith_type1 (cC (ha pos pins s σ H _ I h) fun us s1 ⟨vs,H1,I1,r1,q1⟩=> ?_) hs rfl));obtain ⟨j,e,q1,q2,q⟩:=q1;subst e;cases r1 with
 | cons r rr=>
   cases rr;obtain ⟨t,rfl⟩:=r;exact call_range_1 (G9 I1 (by omega) (by omega) q1 q2 (by simpa using q))
def Xl (wi:TI) (g:TG) (tb:TS):TS:=fun D σ H=>wi σ H fun J H1=>∃W:Nat->Nat->St->Hp->Prop,(∃m,W 0 m σ H1) /\ ∀i m σ H,W i m σ H ->
 (J.stop i H/\D.nx σ H)\/(J.go i H /\ ∃N:St->Hp->Prop,(∀σ' H',N σ' H' -> ∃m',m'<m/\W (i+1) m' σ' H') /\ ∀x H',J.Rr i H x H'->g x σ H' fun σ2 H2=>tb {D with nx:=N,ct:=N,bk:=D.nx} σ2 H2)
def qp (fp:List Addr) (h:Heap):List (Addr×Obj):=fp.filterMap fun b=>(h.get? b).map fun o=>(b,o)
theorem jJ {fp:List Addr} {h:Heap} {b:Addr} {o:Obj} (hb:b∈fp) (e:h.get? b=some o):(b,o)∈qp fp h:=List.mem_filterMap.mpr ⟨b,hb,by rw [e];rfl⟩
theorem Eb {fp:List Addr} {h:Heap} {p:Addr×Obj} (hp:p∈qp fp h):p.1∈fp/\h.get? p.1=some p.2:=by
 obtain ⟨b,hb,e⟩:=List.mem_filterMap.mp hp;cases q:h.get? b with
 | none=>rw [q] at e;cases e
 | some o=>
   rw [q] at e;have e':(b,o)=p:=Option.some.inj e;subst e';exact ⟨hb,q⟩
theorem Inv.pinned {pins:List (Addr×Obj)} {σ:St} {H:Hp} {s:Shared} {fp:List Addr} (I:Inv X pins σ H s) (hf:∀b∈fp,mJ X pins H b) (ho:∀b∈fp,∃o,s.heap.get? b=some o /\ ∀v,o.data ≠ .cell v):Inv X (pins++qp fp s.heap) σ H s:=
 I.Bx fun p hp=>(List.mem_append.mp hp).elim (fun z=>I.pin p (List.mem_append_right _ z)) fun z=>by
  obtain ⟨hb,e⟩:=Eb z;obtain ⟨f0,f1,f2,_⟩:=hf p.1 hb;obtain ⟨o,e',d⟩:=ho p.1 hb;rw [e] at e';cases e';exact ⟨e,f0,f1,f2,d⟩
theorem Inv.mO {pins pl:List (Addr×Obj)} {σ:St} {H:Hp} {s:Shared} (I:Inv X (pins++pl) σ H s):Inv X pins σ H s:=I.Bx fun p hp=>I.pin p (List.mem_append_right _ (List.mem_append_left _ hp))
theorem gM {iter:Expr} {body:List Stmt} {wi:TI} {g:TG} {tb:TS} {pos:Pos} (hp:PassesOwn (model X.prog X.w) X.A X.env X.xe) (hc:X.calm=true) (hi:PI X tg iter wi) (hg:PG X tg g) (hb:FW X body tb)
 (hs:∀x,foldedSetIterable iter X.env x=pure x:=by intro _;rfl):PS X (.For tg iter body [] pos) (Xl wi g tb):=by
 intro pins s σ H D I h;refine wpAny_For (cC (hi pins s σ H _ I h) fun v s1 h1=>cC h1 fun itv s2 h2=> ?_) hs;obtain ⟨it,fp,tn,J,H2,e,I2,T,st2,f2,W,⟨m0,w0⟩,turn⟩:=h2;subst e;have stat:∀{H':Hp},(∀b∈fp,H' b=none) -> ∀b∈fp,mJ X pins H' b:=fun hn b hb=>⟨hn b hb,(f2 b hb).2⟩;refine codeAny_forLoop_any (fun n s'=>∃i σ' H',Inv X pins σ' H' s'/\tn i s'.heap/\(∀b∈fp,H' b=none)/\W i n σ' H') ?_ m0 ⟨0,σ,H2,I2,st2,fun b hb=>(f2 b hb).1,w0⟩;rintro n s3 ⟨i,σ3,H3,I3,st3,Um,w3⟩;rcases turn i n σ3 H3 w3 with ⟨stop,qn⟩|⟨go,N,hN,step⟩
 ·refine wpAny_passesOwn hp (cC (T.done X rfl rfl rfl hc i pins s3 σ3 H3 X.xe I3 (stat Um) st3 stop) fun r s4 ⟨hr,I4⟩=> ?_)
  subst hr;exact wpAny_execs_nil ⟨σ3,H3,I4,qn⟩
 ·refine wpAny_passesOwn hp (cC (T.item X rfl rfl rfl hc i pins s3 σ3 H3 X.xe I3 (stat Um) st3 go) fun r s4 ⟨u,hr,h4⟩=> ?_)
  subst hr;refine wpAny_passesOwn hp (cC h4 fun _ s5 ⟨x,H5,I5,r5,y5,wu,fr5⟩=> ?_);have I5':=I5.pinned (stat fr5) (T.obj _ _ wu);refine wpAny_passesOwn hp (cC (hg _ s5 σ3 H5 x u _ I5' r5 (step x H5 y5)) fun _ s6 ⟨σ6,H6,I6,q6⟩=> ?_);refine wpAny_passesOwn hp (cC (hb _ s6 σ6 H6 _ I6 q6) fun f s7 q7=> ?_)
  have again:∀{σ7:St} {H7:Hp},Inv X (pins++qp fp s5.heap) σ7 H7 s7->N σ7 H7 -> ∃m,m<n /\ ∃i σ' H',Inv X pins σ' H' s7/\tn i s7.heap/\(∀b∈fp,H' b=none)/\W i m σ' H':=fun {σ7 H7} I7 n7=>by
   obtain ⟨m',hm,w7⟩:=hN σ7 H7 n7;refine ⟨m',hm,i+1,σ7,H7,I7.mO,T.keep _ _ _ wu fun b hb o e=>(I7.pin (b,o) (List.mem_append_right _ (List.mem_append_right _ (jJ hb e)))).1,fun b hb=> ?_,w7⟩;obtain ⟨o,e,d⟩:=T.obj _ _ wu b hb;exact (I7.pin (b,o) (List.mem_append_right _ (List.mem_append_right _ (jJ hb e)))).2.1
  cases f with
  | next=>obtain ⟨σ7,H7,I7,n7⟩:=q7;exact again I7 n7
  | cont=>obtain ⟨σ7,H7,I7,n7⟩:=q7;exact again I7 n7
  | brk=>obtain ⟨σ7,H7,I7,q7⟩:=q7;exact ⟨σ7,H7,I7.mO,q7⟩
  | ret v=>obtain ⟨x7,σ7,H7,I7,r7,q7⟩:=q7;exact ⟨x7,σ7,H7,I7.mO,r7,q7⟩
end
theorem m9 {K:PySem.W.Frag} {a:Addr} {xs:List V} {g:TG} {tb:TS} {D:Ends} {σ:St} {H:Hp} (Pv:Nat->St->Hp->Prop) (h0:Pv 0 σ H) (hl:∀i σ H,i<=xs.length->Pv i σ H->aY K H a xs)
 (hs:∀i x σ H,xs[i]? = some x->Pv i σ H->g x σ H fun σ2 H2=>tb {D with nx:=Pv (i+1),ct:=Pv (i+1),bk:=D.nx} σ2 H2) (hd:∀σ H,Pv xs.length σ H->D.nx σ H):
 ∃W:Nat->Nat->St->Hp->Prop,(∃m,W 0 m σ H) /\ ∀i m σ H,W i m σ H ->
  ((J5 K a).stop i H/\D.nx σ H)\/((J5 K a).go i H /\ ∃N:St->Hp->Prop,(∀σ' H',N σ' H' -> ∃m',m'<m/\W (i+1) m' σ' H') /\ ∀x H',(J5 K a).Rr i H x H'->g x σ H' fun σ2 H2=>tb {D with nx:=N,ct:=N,bk:=D.nx} σ2 H2):=by
 refine ⟨fun i m σ H=>m=xs.length - i/\i<=xs.length/\Pv i σ H,⟨xs.length,by simp,Nat.zero_le _,h0⟩, ?_⟩;rintro i m σ H ⟨rfl,hi,p⟩;have q:=hl i σ H hi p
 by_cases hlt:i<xs.length
 ·refine .inr ⟨⟨xs,xs[i],q,by simp [hlt]⟩,Pv (i+1),fun σ' H' p'=>⟨xs.length - (i+1),by omega,rfl,hlt,p'⟩,fun x H' y=> ?_⟩
  obtain ⟨e,y⟩:=y;subst e;exact hs i x σ _ (y xs q) p
 ·have e:i=xs.length:=by omega
  subst e;exact .inl ⟨⟨xs,q,Nat.le_refl _⟩,hd σ H p⟩
theorem gC {lo:Int} {n:Nat} {g:TG} {tb:TS} {D:Ends} {σ:St} {H:Hp} (Pv:Nat->St->Hp->Prop) (h0:Pv 0 σ H)
 (hs:∀i σ H,i<n->Pv i σ H->g (.int (lo+i)) σ H fun σ2 H2=>tb {D with nx:=Pv (i+1),ct:=Pv (i+1),bk:=D.nx} σ2 H2) (hd:∀σ H,Pv n σ H->D.nx σ H):
 ∃W:Nat->Nat->St->Hp->Prop,(∃m,W 0 m σ H) /\ ∀i m σ H,W i m σ H ->
  ((Mw lo n).stop i H/\D.nx σ H)\/((Mw lo n).go i H /\ ∃N:St->Hp->Prop,(∀σ' H',N σ' H' -> ∃m',m'<m/\W (i+1) m' σ' H') /\ ∀x H',(Mw lo n).Rr i H x H'->g x σ H' fun σ2 H2=>tb {D with nx:=N,ct:=N,bk:=D.nx} σ2 H2):=by
 refine ⟨fun i m σ H=>m=n - i/\i<=n/\Pv i σ H,⟨n,by simp,Nat.zero_le _,h0⟩, ?_⟩;rintro i m σ H ⟨rfl,hi,p⟩
 by_cases hlt:i<n
 ·refine .inr ⟨hlt,Pv (i+1),fun σ' H' p'=>⟨n - (i+1),by omega,rfl,hlt,p'⟩,fun x H' y=> ?_⟩
  obtain ⟨e,y⟩:=y;subst e y;exact hs i σ _ hlt p
 ·have e:i=n:=by omega
  subst e;exact .inl ⟨Nat.le_refl _,hd σ H p⟩
end L2
namespace L2
open PySem PySem.Spec PyProof.Rows
abbrev R2:=V->V->Hp->VK->Prop
def lV (X:Cx) (f:Value->Value->Sem Value) (r:R2):Prop:=
 ∀(pins:List (Addr×Obj)) (s:Shared) (σ:St) (H:Hp) (x y:V) (v u:Value) (Q:VK),Inv X pins σ H s->RelV x v->RelV y u->r x y H Q ->
  wpAny (model X.prog X.w) X.A (f v u) (EP X pins σ Q) X.xe s
def UnR (X:Cx) (f:Value->Sem Value) (r:V->Hp->VK->Prop):Prop:=
 ∀(pins:List (Addr×Obj)) (s:Shared) (σ:St) (H:Hp) (x:V) (v:Value) (Q:VK),Inv X pins σ H s->RelV x v->r x H Q ->
  wpAny (model X.prog X.w) X.A (f v) (EP X pins σ Q) X.xe s
def gW (X:Cx) (f:Value) (r:List V->Hp->VK->Prop):Prop:=
 ∀(pins:List (Addr×Obj)) (s:Shared) (σ:St) (H:Hp) (xs:List V) (us:List Value) (Q:VK),Inv X pins σ H s->Vals xs us->r xs H Q ->
  wpAny (model X.prog X.w) X.A (call f us) (EP X pins σ Q) X.xe s
def acF (X:Cx) (r:V->Hp->(Bool->Hp->Prop)->Prop):Prop:=
 ∀(pins:List (Addr×Obj)) (s:Shared) (σ:St) (H:Hp) (x:V) (v:Value) (Q:Bool->Hp->Prop),Inv X pins σ H s->RelV x v->r x H Q ->
  wpAny (model X.prog X.w) X.A (truthy v) (TP X pins σ Q) X.xe s
def VD (r:R2) (ta tb:TE):TE:=fun σ H Q=>ta σ H fun x H1=>tb σ H1 fun y H2=>r x y H2 Q
def tUn (r:V->Hp->VK->Prop) (ta:TE):TE:=fun σ H Q=>ta σ H fun x H1=>r x H1 Q
def rI (C:Int->Int->Prop) (g:Int->Int->V):R2:=fun x y H Q=>∃i j,x = .int i/\y = .int j/\C i j/\Q (g i j) H
def O9 (g:Int->Int->V):R2:=fun x y H Q=>∃i j,x = .int i/\y = .int j/\Q (g i j) H
def rU (g:Int->V):V->Hp->VK->Prop:=fun x H Q=>∃i,x = .int i/\Q (g i) H
section
variable {X:Cx} {a b c:Expr} {ta tb tc:TE} {pos:Pos}
theorem Ra (ha:PE X a ta) (hb:PE X b tb) {pins:List (Addr×Obj)} {s:Shared} {σ:St} {H:Hp} {R:V->V->Hp->Prop} (I:Inv X pins σ H s)
 (h:ta σ H fun x H1=>tb σ H1 fun y H2=>R x y H2) {Q:Value->Shared->Prop} {f:Value->Value->Sem Value}
 (hf:∀v u s2 x y H2,Inv X pins σ H2 s2->RelV x v->RelV y u->R x y H2->wpAny (model X.prog X.w) X.A (f v u) Q X.xe s2):
 wpAny (model X.prog X.w) X.A (eval a X.env) (fun v s₁=>wpAny (model X.prog X.w) X.A (eval b X.env) (fun u s₂=>wpAny (model X.prog X.w) X.A (f v u) Q X.xe s₂) X.xe s₁) X.xe s:=by
 refine cC (ha pins s σ H _ I h) fun v s1 ⟨x,H1,I1,r1,q1⟩=> ?_;refine cC (hb pins s1 σ H1 _ I1 q1) fun u s2 ⟨y,H2,I2,r2,q2⟩=> ?_;exact hf v u s2 x y H2 I2 r1 r2 q2
theorem bx {op:Operator} {r:R2} (ho:lV X (binaryOp op) r) (ha:PE X a ta) (hb:PE X b tb):PE X (.BinOp a op b pos) (VD r ta tb):=by
 intro pins s σ H Q I h;exact wpAny_BinOp (Ra ha hb I h fun v u s2 x y H2 I2 rx ry q=>ho pins s2 σ H2 x y v u Q I2 rx ry q)
theorem Ht {op:UnaryOp} {r:V->Hp->VK->Prop} (ho:UnR X (unaryOp op) r) (ha:PE X a ta):PE X (.UnaryOp op a pos) (tUn r ta):=by
 intro pins s σ H Q I h;exact UnaryOp_ (cC (ha pins s σ H _ I h) fun v s1 ⟨x,H1,I1,r1,q1⟩=>ho pins s1 σ H1 x v Q I1 r1 q1)
theorem Te {f:Value->Value->Sem Value} {C:Int->Int->Prop} {g:Int->Int->Int}
 (rule:∀(i j:Int) (t u:Tok) (s:Shared) (Q:Value->Shared->Prop) (E:Value->Shared->Prop),C i j->Q (.int (g i j) s.toks) {s with toks:=s.toks+1}->wpAny (model X.prog X.w) X.A (f (.int i t) (.int j u)) Q E s):
 lV X f (rI C fun i j=> .int (g i j)):=by
 intro pins s σ H x y v u Q I rx ry h;obtain ⟨i,j,rfl,rfl,hc,q⟩:=h;obtain ⟨t,rfl⟩:=rx;obtain ⟨t',rfl⟩:=ry;exact rule i j t t' s _ _ hc ⟨.int (g i j),H,I.tok _,⟨_,rfl⟩,q⟩
theorem Td {f:Value->Value->Sem Value} {g:Int->Int->Int}
 (rule:∀(i j:Int) (t u:Tok) (s:Shared) (Q:Value->Shared->Prop) (E:Value->Shared->Prop),Q (.int (g i j) s.toks) {s with toks:=s.toks+1}->wpAny (model X.prog X.w) X.A (f (.int i t) (.int j u)) Q E s):
 lV X f (O9 fun i j=> .int (g i j)):=by
 intro pins s σ H x y v u Q I rx ry h;obtain ⟨i,j,rfl,rfl,q⟩:=h;obtain ⟨t,rfl⟩:=rx;obtain ⟨t',rfl⟩:=ry;exact rule i j t t' s _ _ ⟨.int (g i j),H,I.tok _,⟨_,rfl⟩,q⟩
theorem Pz {f:Value->Value->Sem Value} {g:Int->Int->Bool}
 (rule:∀(i j:Int) (t u:Tok) (s:Shared) (Q:Value->Shared->Prop) (E:Value->Shared->Prop),Q (.bool (g i j)) s->wpAny (model X.prog X.w) X.A (f (.int i t) (.int j u)) Q E s):
 lV X f (O9 fun i j=> .bl (g i j)):=by
 intro pins s σ H x y v u Q I rx ry h;obtain ⟨i,j,rfl,rfl,q⟩:=h;obtain ⟨t,rfl⟩:=rx;obtain ⟨t',rfl⟩:=ry;exact rule i j t t' s _ _ ⟨.bl (g i j),H,I,rfl,q⟩
def MJ (i j:Int):Prop:=0<j/\j<1073741824
def Rn (i j:Int):Prop:=0<=j/\j<=1000000/\i.natAbs<2 ^ 64
def Ro (i j:Int):Prop:=(-(2 ^ 64)<i/\i<2 ^ 64)\/(-(2 ^ 64)<j/\j<2 ^ 64)
theorem Ro.ok {i j:Int} (h:Ro i j):IntMulOk i j:=by
 rcases h with ⟨h1,h2⟩|⟨h1,h2⟩
 ·exact .of_left (intBits_le_64 h1 h2)
 ·exact .of_right (intBits_le_64 h1 h2)
theorem cF:lV X (binaryOp .Add) (O9 fun i j=> .int (i+j)):=Td fun _ _ _ _ _ _ _ q=>add_int q
theorem nT:lV X (binaryOp .Sub) (O9 fun i j=> .int (i - j)):=Td fun _ _ _ _ _ _ _ q=>sub_int q
theorem lZ:lV X (binaryOp .Mult) (rI Ro fun i j=> .int (i*j)):=Te fun _ _ _ _ _ _ _ hc q=>mul_int q hc.ok
theorem u_:lV X (binaryOp .FloorDiv) (rI MJ fun i j=> .int (i / j)):=Te fun i j _ _ _ _ _ hc q=>by
 have h1:(0:Int)<j:=hc.1;have h2:j<1073741824:=hc.2;exact floordiv_int (by omega) (by rw [Int.fdiv_eq_ediv_of_nonneg i (by omega)];exact q) (.inl (PyProof.noPylong_small (by omega)))
theorem gP:lV X (binaryOp .Mod) (rI (fun _ j=>0<j) fun i j=> .int (i % j)):=Te fun i j _ _ _ _ _ hc q=>by
 have h1:(0:Int)<j:=hc;exact mod_int' (by omega) (by rw [Int.fmod_eq_emod_of_nonneg i (by omega)];exact q)
theorem Hy:lV X (binaryOp .Pow) (rI Rn fun i j=> .int (i ^ j.toNat)):=Te fun _ _ _ _ _ _ _ hc q=>pow_int_small hc.1 hc.2.1 hc.2.2 q
theorem unI {f:Value->Sem Value} {g:Int->Int}
 (rule:∀(i:Int) (t:Tok) (s:Shared) (Q:Value->Shared->Prop) (E:Value->Shared->Prop),Q (.int (g i) s.toks) {s with toks:=s.toks+1}->wpAny (model X.prog X.w) X.A (f (.int i t)) Q E s):
 UnR X f (rU fun i=> .int (g i)):=by
 intro pins s σ H x v Q I rx h;obtain ⟨i,rfl,q⟩:=h;obtain ⟨t,rfl⟩:=rx;exact rule i t s _ _ ⟨.int (g i),H,I.tok _,⟨_,rfl⟩,q⟩
theorem yX:UnR X (unaryOp .USub) (rU fun i=> .int (-i)):=unI fun _ _ _ _ _ q=>neg_int q
end
def Sd:V->V->Bool
 | .non,.non=>true | .non,.int _=>true | .int _,.non=>true | .non,.bl _=>true | .bl _,.non=>true | .non,.str _=>true | .str _,.non=>true
 | .int _,.int _=>true | .bl _,.bl _=>true | .str _,.str _=>true | .CT _,.CT _=>true
 | .int _,.str _=>true | .str _,.int _=>true | .bl _,.str _=>true | .str _,.bl _=>true
 | _,_=>false
def rEq:R2:=fun x y H Q=>Sd x y=true/\Q (.bl (decide (x=y))) H
def rNe:R2:=fun x y H Q=>Sd x y=true/\Q (.bl (!decide (x=y))) H
theorem CK {i j:Int}:decide (V.int i=V.int j)=(i==j):=by
 rw [Bool.eq_iff_iff];simp
theorem Jq {i j:Bool}:decide (V.bl i=V.bl j)=(i==j):=by
 rw [Bool.eq_iff_iff];simp
theorem CJ {i j:Str}:decide (V.str i=V.str j)=(i==j):=by
 rw [Bool.eq_iff_iff];simp
theorem CN {i j:Array UInt8}:decide (V.CT i=V.CT j)=(i.toList==j.toList):=by
 rw [Bool.eq_iff_iff];cases i;cases j;simp
section
variable {X:Cx} {a b c:Expr} {ta tb tc:TE} {pos:Pos}
theorem bG {pins:List (Addr×Obj)} {σ:St} {H:Hp} {s:Shared} {Q:VK} {k k':Bool} (I:Inv X pins σ H s) (q:Q (.bl k) H) (e:k=k'):EP X pins σ Q (.bool k') s:=by
 subst e;exact ⟨.bl k,H,I,rfl,q⟩
theorem jP:lV X (compareOp .Eq) rEq:=by
 intro pins s σ H x y v u Q I rx ry h;obtain ⟨hs,q⟩:=h;cases x with
 | non=>
   cases rx;cases y with
   | non=>cases ry;exact PySem.EqNone.eq_none_none (bG I q (by simp))
   | bl j=>cases ry;exact PySem.EqNone.eq_none_bool (bG I q (by simp))
   | int j=>obtain ⟨t',rfl⟩:=ry;exact PySem.EqNone.eq_none_int (bG I q (by simp))
   | str j=>obtain ⟨t',rfl⟩:=ry;exact PySem.EqNone.eq_none_str (bG I q (by simp))
   | _=>exact absurd (show false=true from hs) Bool.false_ne_true
 | bl i=>
   cases rx;cases y with
   | non=>cases ry;exact PySem.EqNone.eq_bool_none (bG I q (by simp))
   | bl j=>cases ry;exact eq_bool (bG I q Jq)
   | str j=>obtain ⟨t',rfl⟩:=ry;exact PySem.EqMixed.eq_bool_str (bG I q (by simp))
   | _=>exact absurd (show false=true from hs) Bool.false_ne_true
 | int i=>
   obtain ⟨t,rfl⟩:=rx;cases y with
   | non=>cases ry;exact PySem.EqNone.eq_int_none (bG I q (by simp))
   | int j=>obtain ⟨t',rfl⟩:=ry;exact eq_int (bG I q CK)
   | str j=>obtain ⟨t',rfl⟩:=ry;exact PySem.EqMixed.eq_int_str (bG I q (by simp))
   | _=>exact absurd (show false=true from hs) Bool.false_ne_true
 | str i=>
   obtain ⟨t,rfl⟩:=rx;cases y with
   | non=>cases ry;exact PySem.EqNone.eq_str_none (bG I q (by simp))
   | bl j=>cases ry;exact PySem.EqMixed.eq_str_bool (bG I q (by simp))
   | int j=>obtain ⟨t',rfl⟩:=ry;exact PySem.EqMixed.eq_str_int (bG I q (by simp))
   | str j=>obtain ⟨t',rfl⟩:=ry;exact eq_str (bG I q CJ)
   | _=>exact absurd (show false=true from hs) Bool.false_ne_true
 | CT i=>
   obtain ⟨t,rfl⟩:=rx;cases y with
   | CT j=>obtain ⟨t',rfl⟩:=ry;exact PySem.W.eq_bytes (bG I q CN)
   | _=>exact absurd (show false=true from hs) Bool.false_ne_true
 | _=>cases y<;>exact absurd (show false=true from hs) Bool.false_ne_true
theorem BX:lV X (compareOp .NotEq) rNe:=by
 intro pins s σ H x y v u Q I rx ry h;obtain ⟨hs,q⟩:=h;cases x with
 | non=>
   cases rx;cases y with
   | non=>cases ry;exact PySem.EqNone.ne_none_none (bG I q (by simp))
   | bl j=>cases ry;exact PySem.EqNone.ne_none_bool (bG I q (by simp))
   | int j=>obtain ⟨t',rfl⟩:=ry;exact PySem.EqNone.ne_none_int (bG I q (by simp))
   | str j=>obtain ⟨t',rfl⟩:=ry;exact PySem.EqNone.ne_none_str (bG I q (by simp))
   | _=>exact absurd (show false=true from hs) Bool.false_ne_true
 | bl i=>
   cases rx;cases y with
   | non=>cases ry;exact PySem.EqNone.ne_bool_none (bG I q (by simp))
   | bl j=>cases ry;exact ne_bool (bG I q (congrArg not Jq))
   | str j=>obtain ⟨t',rfl⟩:=ry;exact PySem.EqMixed.ne_bool_str (bG I q (by simp))
   | _=>exact absurd (show false=true from hs) Bool.false_ne_true
 | int i=>
   obtain ⟨t,rfl⟩:=rx;cases y with
   | non=>cases ry;exact PySem.EqNone.ne_int_none (bG I q (by simp))
   | int j=>obtain ⟨t',rfl⟩:=ry;exact ne_int (bG I q (congrArg not CK))
   | str j=>obtain ⟨t',rfl⟩:=ry;exact PySem.EqMixed.ne_int_str (bG I q (by simp))
   | _=>exact absurd (show false=true from hs) Bool.false_ne_true
 | str i=>
   obtain ⟨t,rfl⟩:=rx;cases y with
   | non=>cases ry;exact PySem.EqNone.ne_str_none (bG I q (by simp))
   | bl j=>cases ry;exact PySem.EqMixed.ne_str_bool (bG I q (by simp))
   | int j=>obtain ⟨t',rfl⟩:=ry;exact PySem.EqMixed.ne_str_int (bG I q (by simp))
   | str j=>obtain ⟨t',rfl⟩:=ry;exact ne_str (bG I q (congrArg not CJ))
   | _=>exact absurd (show false=true from hs) Bool.false_ne_true
 | CT i=>
   obtain ⟨t,rfl⟩:=rx;cases y with
   | CT j=>obtain ⟨t',rfl⟩:=ry;exact PySem.W.ne_bytes (bG I q (congrArg not CN))
   | _=>exact absurd (show false=true from hs) Bool.false_ne_true
 | _=>cases y<;>exact absurd (show false=true from hs) Bool.false_ne_true
theorem j9:lV X (compareOp .Lt) (O9 fun i j=> .bl (decide (i<j))):=Pz fun _ _ _ _ _ _ _ q=>lt_int q
theorem w6:lV X (compareOp .LtE) (O9 fun i j=> .bl (decide (i<=j))):=Pz fun _ _ _ _ _ _ _ q=>le_int q
theorem qx:lV X (compareOp .Gt) (O9 fun i j=> .bl (decide (j<i))):=Pz fun _ _ _ _ _ _ _ q=>gt_int q
theorem Hz:lV X (compareOp .Is) (fun x y H Q=>y = .non/\Q (.bl (decide (x = .non))) H):=by
 intro pins s σ H x y v u Q I rx ry h;obtain ⟨rfl,q⟩:=h;cases ry;refine is_none_gen (bG I q ?_)
 cases x<;>first
  | (cases rx;rfl)
  | (obtain ⟨t,rfl⟩:=rx;rfl)
theorem lA:lV X (compareOp .IsNot) (fun x y H Q=>y = .non/\Q (.bl (!decide (x = .non))) H):=by
 intro pins s σ H x y v u Q I rx ry h;obtain ⟨rfl,q⟩:=h;cases ry;refine isnot_none_gen (bG I q ?_)
 cases x<;>first
  | (cases rx;rfl)
  | (obtain ⟨t,rfl⟩:=rx;rfl)
def isObj:HO->Bool
 | .lst _=>true
 | .ins _ _ _=>true
 | _=>false
theorem aV (b:Expr) {op:CmpOp} (h:op ≠ .In:=by decide) (h2:op ≠ .NotIn:=by decide):behindInMarks op b=false:=by
 have e1:(op==CmpOp.In)=false:=by cases op<;>first |rfl|exact absurd rfl h
 have e2:(op==CmpOp.NotIn)=false:=by cases op<;>first |rfl|exact absurd rfl h2
 cases b<;>simp [behindInMarks,e1,e2]
theorem cZ {op:CmpOp} {r:R2} (ho:lV X (compareOp op) r) (ha:PE X a ta) (hb:PE X b tb) (hm:behindInMarks op b=false):PE X (.Compare a [op] [b] pos) (VD r ta tb):=by
 intro pins s σ H Q I h;exact wpAny_Compare1 (Ra ha hb I h fun v u s2 x y H2 I2 rx ry q=>ho pins s2 σ H2 x y v u Q I2 rx ry q) hm
def RK (t:TE):TT:=fun σ H Q=>t σ H fun x H'=>∃k,x = .bl k/\Q k H'
theorem aX {op:CmpOp} {r:R2} (ho:lV X (compareOp op) r) (ha:PE X a ta) (hb:PE X b tb) (hm:behindInMarks op b=false):PT X (.Compare a [op] [b] pos) (RK (VD r ta tb)):=by
 intro pins s σ H Q I h
 refine wpAny_isTrue_Compare1 (cC (ha pins s σ H _ I h) fun v s1 ⟨x,H1,I1,r1,q1⟩=>cC (hb pins s1 σ H1 _ I1 q1) fun u s2 ⟨y,H2,I2,r2,q2⟩=>
  cC (ho pins s2 σ H2 x y v u _ I2 r1 r2 q2) fun c s3 ⟨z,H3,I3,r3,k,e,q3⟩=> ?_) hm
 subst e;cases r3;exact wpAny_truthy_bool ⟨H3,I3,q3⟩
def Ol (r r':R2) (ta tb tc:TE):TE:=fun σ H Q=>ta σ H fun x H1=>tb σ H1 fun y H2=>r x y H2 fun z H3=>∃k,z = .bl k /\
 (if k=true then tc σ H3 fun w' H4=>r' y w' H4 Q else Q (.bl false) H3)
theorem Hx {op op':CmpOp} {r r':R2} (ho:lV X (compareOp op) r) (ho':lV X (compareOp op') r') (ha:PE X a ta) (hb:PE X b tb) (hc:PE X c tc)
 (hm:lastMarks [op,op'] [b,c]=false:=by with_unfolding_all rfl):PE X (.Compare a [op,op'] [b,c] pos) (Ol r r' ta tb tc):=by
 intro pins s σ H Q I h
 refine Compare_chain (cC (ha pins s σ H _ I h) fun v s1 ⟨x,H1,I1,r1,q1⟩=>chain_link (cC (hb pins s1 σ H1 _ I1 q1) fun u s2 ⟨y,H2,I2,r2,q2⟩=>
  cC (ho pins s2 σ H2 x y v u _ I2 r1 r2 q2) fun d s3 ⟨z,H3,I3,r3,k,e,q3⟩=> ?_)) hm
 subst e;cases r3;refine wpAny_truthy_bool ?_;cases k with
 | false=>exact ite_ff ⟨.bl false,H3,I3,rfl,q3⟩
 | true=>exact ite_tt (chain_last (cC (hc pins s3 σ H3 _ I3 q3) fun w' s4 ⟨z',H4,I4,r4,q4⟩=>ho' pins s4 σ H4 y z' u w' Q I4 r2 r4 q4))
def Rg (K:PySem.W.Frag) (x:V) (H:Hp) (k:Bool):Prop:=
 match x with
 | .non=>k=false
 | .bl b=>k=b
 | .int i=>k=(i != 0)
 | .str y=>y.length<=sizeLine/\k=((y.length:Int) != 0)
 | .CT y=>y.size<=sizeLine/\k=((y.size:Int) != 0)
 | .ref p=>(∃xs,aY K H p xs/\k = !xs.isEmpty)\/(∃xs,cH K H p xs/\k = !xs.isEmpty) \/ ∃kvs,H p=some (.dK kvs)/\k = !kvs.isEmpty
 | _=>False
theorem z7 {κ:Type} {kvs:List (κ×V)} {vs:List (κ×Value)} (r:KV kvs vs):(!vs.isEmpty) = !kvs.isEmpty:=by
 cases r<;>rfl
theorem qM {xs:List V} {its:List Value} (r:Vals xs its):(!its.toArray.isEmpty) = !xs.isEmpty:=by
 cases r<;>simp
theorem j_:(sizeLine:Nat)<2 ^ 63:=by rw [sizeLine_eq];decide
theorem N8:acF X (fun x H Q=>∃k,Rg X.K x H k/\Q k H):=by
 intro pins s σ H x v Q I rx h;obtain ⟨k,e,q⟩:=h;have hl:=j_;have hs:sizeLine=16777216:=sizeLine_eq;cases x with
 | non=>
   cases rx;have e':k=false:=e;subst e';exact truthy_none ⟨H,I,q⟩
 | bl b=>
   cases rx;have e':k=b:=e;subst e';exact wpAny_truthy_bool ⟨H,I,q⟩
 | int i=>
   obtain ⟨t,rfl⟩:=rx;have e':k=(i != 0):=e;subst e';exact PySem.P.truthy_int ⟨H,I,q⟩
 | str y=>
   obtain ⟨t,rfl⟩:=rx;obtain ⟨hy,e'⟩:y.length<=sizeLine/\k=((y.length:Int) != 0):=e;subst e';exact PySem.P.truthy_str (by omega) ⟨H,I.tok _,q⟩
 | CT y=>
   obtain ⟨t,rfl⟩:=rx;obtain ⟨hy,e'⟩:y.size<=sizeLine/\k=((y.size:Int) != 0):=e;subst e';exact PySem.W.truthy_bytes (by omega) ⟨H,I.tok _,q⟩
 | ref p=>
   cases rx;have e':(∃xs,aY X.K H p xs/\k = !xs.isEmpty)\/(∃xs,cH X.K H p xs/\k = !xs.isEmpty) \/ ∃kvs,H p=some (.dK kvs)/\k = !kvs.isEmpty:=e;rcases e' with ⟨xs,hx,e'⟩|⟨xs,hx,e'⟩|⟨kvs,hx,e'⟩
   ·subst e'
    obtain ⟨its,r,pl,hz⟩:=I.list hx;have hlen:=r.length;exact wpAny_truthy_list pl.isList (by simp only [List.size_toArray];omega) ⟨H,I.tok _,by rw [qM r];exact q⟩
   ·subst e'
    obtain ⟨its,r,pl,hz⟩:=I.tuple hx;have hlen:=r.length;exact truthy_tuple pl (by simp only [List.size_toArray];omega) ⟨H,I.tok _,by rw [qM r];exact q⟩
   ·subst e'
    obtain ⟨hz,hS,vs,r,m⟩:kvs.length<=sizeLine/\(p==sysModules)=false /\ ∃vs,KV kvs vs/\s.heap.DictOf (bB X.prog X.w) p vs:=I.hok p _ hx;have hlen:kvs.length=vs.length:=Paired.length r;exact wpAny_truthy_dict hS m (by omega) ⟨H,I.tok _,by rw [z7 r];exact q⟩
 | _=>exact (show False from e).elim
theorem Hi (ha:PE X a ta) (he:∀whole,isTrue a X.env whole=(do let v ←whole;standAt a.pos;holding [v] (truthy v))):
 PT X a (fun σ H Q=>ta σ H fun x H'=>∃k,Rg X.K x H' k/\Q k H'):=by
 intro pins s σ H Q I h;exact isTrue_plain (cC (ha pins s σ H _ I h) fun v s1 ⟨x,H1,I1,r1,q1⟩=>N8 pins s1 σ H1 x v Q I1 r1 q1) (he _)
theorem vals1 {x:V} {us:List Value} (r:Vals [x] us):∃u,us=[u]/\RelV x u:=by
 cases r with
 | cons r1 r2=>cases r2;exact ⟨_,rfl,r1⟩
theorem vals2 {x y:V} {us:List Value} (r:Vals [x,y] us):∃u w',us=[u,w']/\RelV x u/\RelV y w':=by
 cases r with
 | cons r1 r2=>
   cases r2 with
   | cons r3 r4=>cases r4;exact ⟨_,_,rfl,r1,r3⟩
theorem Fx (hc:X.calm=true):gW X (.builtin "max") (fun xs H Q=>∃i j,xs=[.int i,.int j]/\Q (.int (if j>i then j else i)) H):=by
 intro pins s σ H xs us Q I r h;obtain ⟨i,j,rfl,q⟩:=h;obtain ⟨u,w',rfl,⟨t,rfl⟩,⟨t',rfl⟩⟩:=vals2 r;refine max_two_ints (I.ok.hd hc) fun h' tk k=>⟨_,H,I.kept k, ?_,q⟩
 by_cases hj:j>i
 ·rw [if_pos hj,if_pos hj];exact ⟨_,rfl⟩
 ·rw [if_neg hj,if_neg hj];exact ⟨_,rfl⟩
theorem Fy:gW X (.type "int") (fun xs H Q=>(∃i,xs=[.int i]/\Q (.int i) H) \/ ∃k,xs=[.bl k]/\Q (.int (if k then 1 else 0)) H):=by
 intro pins s σ H xs us Q I r h;rcases h with ⟨i,rfl,q⟩|⟨k,rfl,q⟩
 ·obtain ⟨u,rfl,t,rfl⟩:=vals1 r
  exact call_int_int ⟨.int i,H,I,⟨_,rfl⟩,q⟩
 ·obtain ⟨u,rfl,r1⟩:=vals1 r
  cases r1;exact call_int_bool ⟨.int (if k then 1 else 0),H,I.tok _,⟨_,rfl⟩,q⟩
end
end L2
namespace L2
open PySem PySem.Spec PyProof.Rows
structure Rj (h:Heap) (x dx C:Addr) (mA:Str->Option Value):Prop where
 obj:h.get? x=some (PySem.W.instObj C dx)
 ns:h.Ns1 dx mA
 ne:dx≠x
theorem Ek {h:Heap} {dx:Addr} {mA:Str->Option Value} (n:h.Ns1 dx mA):∃od,h.get? dx=some od /\ ∀name,PySem.W.lookIn name od=some (mA name):=by
 obtain ⟨o,es,ep,ho,hd,hk,_,hm⟩:=n;refine ⟨o,ho,fun name=> ?_⟩;have e:=hm name;unfold nsFind findBy at e;rw [←Array.find?_toList] at e;unfold PySem.W.lookIn;rw [hd];dsimp only;split
 ·rename_i y q
  rw [q] at e;exact congrArg some e
 ·rename_i q
  rw [q] at e
  have a:es.toList.any (·.refKey)=false:=by
   rw [List.any_eq_false];intro y hy;obtain ⟨z,t,hkey⟩:=hk y (Array.mem_toList_iff.mp hy);simp [DictEntry.refKey,hkey]
  have a':¬es.toList.any (·.refKey)=true:=by rw [a];exact Bool.false_ne_true
  rw [if_neg a'];exact congrArg some e
theorem Rj.look {h:Heap} {x dx C:Addr} {mA:Str->Option Value} (I:Rj h x dx C mA):∃od,PySem.W.InstAt h x (PySem.W.instObj C dx) C (some od) /\ ∀name,PySem.W.lookIn name od=some (mA name):=
 let ⟨od,ho,hl⟩:=Ek I.ns
 ⟨od,⟨I.obj,rfl,rfl,ho⟩,hl⟩
section
variable {prog:Program} {w:World} {A:Around} {E:Value->Shared->Prop} {s:Shared} {K:PySem.W.Frag} {x dx C f:Addr} {mA:Str->Option Value} {name:Str} {v:Value}
end
theorem mH.some_of {v:V} {o:Option Value} (r:mH (some v) o):∃u,o=some u/\RelV v u:=by
 cases o with
 | none=>exact (show False from r).elim
 | some u=>exact ⟨u,rfl,r⟩
section
variable {P:Program} {w:World} {H H':Hp} {h h':Heap} {a C dx:Addr} {fs fs':List (Str×V)}
theorem Lz (hok:kW P w H h) (e:H a=some (.ins C dx fs)):∃mA,Rj h a dx C mA/\(∀f,mH (fs.lookup f) (mA f))/\PySem.Within mA (fs.map (·.1))/\fs.length<=1000/\H dx=some (.own a):=by
 obtain ⟨d,z,ne,ob,mA,n,r,q⟩:=(show bO P w H h a (.ins C dx fs) from hok a _ e);exact ⟨mA,⟨ob,n,ne⟩,r,q,z,d⟩
end
structure Cls (K:PySem.W.Frag) (C:Addr):Prop where
 pg:PySem.W.plainGet K C Str.empty=true
 hd:PySem.W.hasDictIn K C=true
 po:PySem.W.plainOver K C=true
 sa:PySem.W.findIn K (.ref C) "__setattr__" = some (some (.builtin "object.__setattr__"))
theorem Cls.get {K:PySem.W.Frag} {C:Addr} (c:Cls K C) (f:Str):PySem.W.plainGet K C f=true:=c.pg
section
variable {X:Cx} {pins:List (Addr×Obj)} {σ:St} {H:Hp} {s:Shared} {a C dx:Addr} {fs:List (Str×V)} {f:Str} {v:V} {A:Around} {E:Value->Shared->Prop}
end
section
variable {X:Cx} {o e value:Expr} {f:Str} {pos pos' tpos:Pos} {ta tv:TE}
end
section
variable {X:Cx} {pins:List (Addr×Obj)} {σ:St} {H:Hp} {s:Shared} {A:Around} {E:Value->Shared->Prop} {Q:Value->Shared->Prop} {c:Value} {b:Bool}
inductive ni (K:PySem.W.Frag) (H:Hp):V->Value->Prop where
 | non:ni K H .non (.type "NoneType")
 | bl (x:Bool):ni K H (.bl x) (.type "bool")
 | int (i:Int):ni K H (.int i) (.type "int")
 | str (x:Str):ni K H (.str x) (.type "str")
 | flt (x:UInt64):ni K H (.flt x) (.type "float")
 | lst {a:Addr} {xs:List V} (e:H a=some (.lst xs)):ni K H (.ref a) (.type "list")
 | kh {a:Addr} {o:Obj} {xs:List V} (e:H a=some (.kh o (.lst xs))):ni K H (.ref a) (.type "list")
 | tup {a:Addr} {xs:List V} (e:H a=some (.tup xs)):ni K H (.ref a) (.type "tuple")
 | dK {a:Addr} {kvs:List (Key×V)} (e:H a=some (.dK kvs)):ni K H (.ref a) (.type "dict")
 | dT {a:Addr} {kvs:List (List Key×V)} (e:H a=some (.dT kvs)):ni K H (.ref a) (.type "dict")
 | ins {a C dx:Addr} {fs:List (Str×V)} (e:H a=some (.ins C dx fs)) (cl:Cls K C) (ha:PySem.W.findIn K (.ref C) "__class__" = some (some (.builtin "object.__class__")))
    (hn:PySem.W.specialIn K (.builtin "object.__class__") "__get__" = some (some (.builtin "getset_descriptor.__get__"))) (htk:PySem.W.takesIn K (.builtin "object.__class__")=some true)
    (hm:PySem.W.mroIn K C (.type "object")=some true):ni K H (.ref a) (.ref C)
theorem Es {x:V} {u t:Value} (I:Inv X pins σ H s) (rx:RelV x u) (ty:ni X.K H x t) (e:PySem.W.kitOne X.K t c=some b) (h:∀tk,Q (.bool b) {s with toks:=tk}):
 wpAny (model X.prog X.w) A (call (.builtin "isinstance") [u,c]) Q E s:=by
 cases ty with
 | non=>cases (show u=Value.none from rx);exact PySem.W.kia_one PySem.W.kitx_none I.xW True.intro e (fun z=>nomatch z) h
 | bl y=>cases (show u=Value.bool y from rx);exact PySem.W.kia_one PySem.W.kitx_bool I.xW True.intro e (fun z=>nomatch z) h
 | int i=>obtain ⟨t,q⟩:=(show ∃t,u=Value.int i t from rx);cases q;exact PySem.W.kia_one PySem.W.kitx_int I.xW True.intro e (fun z=>nomatch z) h
 | str y=>obtain ⟨t,q⟩:=(show ∃t,u=Value.str y t from rx);cases q;exact PySem.W.kia_one PySem.W.kitx_str I.xW True.intro e (fun z=>nomatch z) h
 | flt y=>obtain ⟨t,q⟩:=(show ∃t,u=Value.float y t from rx);cases q;exact PySem.W.kia_one PySem.W.kitx_float I.xW True.intro e (fun z=>nomatch z) h
 | @lst a xs ea=>
   cases (show u=Value.ref a from rx);obtain ⟨_,_,n,_,h1⟩:=(show bO X.prog X.w H s.heap a (.lst xs) from I.hok a _ ea);exact PySem.W.kia_one PySem.W.kitx_list I.xW ⟨_,h1,rfl⟩ e (fun z=>nomatch z) h
 | @kh a ob xs ea=>
   cases (show u=Value.ref a from rx);obtain ⟨_,_,_,n,_,h1⟩:=(show bO X.prog X.w H s.heap a (.kh ob (.lst xs)) from I.hok a _ ea);exact PySem.W.kia_one PySem.W.kitx_list I.xW ⟨_,h1,rfl⟩ e (fun z=>nomatch z) h
 | @tup a xs ea=>
   cases (show u=Value.ref a from rx);obtain ⟨_,_,_,p⟩:=(show bO X.prog X.w H s.heap a (.tup xs) from I.hok a _ ea);obtain ⟨o,h1,h2,_⟩:=p;exact PySem.W.kia_one PySem.W.kitx_tuple I.xW ⟨o,h1,h2⟩ e (fun z=>nomatch z) h
 | @dK a kvs ea=>
   cases (show u=Value.ref a from rx);obtain ⟨_,_,vs,_,p⟩:=(show bO X.prog X.w H s.heap a (.dK kvs) from I.hok a _ ea);obtain ⟨o,es,ep,h1,h2,_⟩:=p;exact PySem.W.kia_one PySem.W.kitx_dict I.xW ⟨o,h1,h2.1⟩ e (fun z=>nomatch z) h
 | @dT a kvs ea=>
   cases (show u=Value.ref a from rx);obtain ⟨_,_,xs,_,o,es,ep,h1,h2,_⟩:=(show bO X.prog X.w H s.heap a (.dT kvs) from I.hok a _ ea);exact PySem.W.kia_one PySem.W.kitx_dict I.xW ⟨o,h1,h2.1⟩ e (fun z=>nomatch z) h
 | @ins a C dx fs ea cl ha hn htk hm=>
   cases (show u=Value.ref a from rx);obtain ⟨mA,O,_⟩:=Lz I.hok ea;obtain ⟨od,J,_⟩:=O.look;exact PySem.W.kia_one (PySem.W.kitx_own (cl.get _) cl.hd ha hn htk hm) I.xW J e (fun z=>nomatch z) h
end
end L2
namespace L2
open PySem PySem.Spec PyProof.Rows
structure i_ (k:Nat) (A:Around):Prop where
 hd:A.handled=none
 dp:A.depth+3*k+5<recursionLimit
 un:A.units+16*k+200<cLine
theorem i_.mono {j k:Nat} {A:Around} (r:i_ k A) (h:j<=k):i_ j A:=⟨r.hd,by have:=r.dp;omega,by have:=r.un;omega⟩
theorem i_.deeper {k:Nat} {A:Around} (r:i_ (k+1) A) (env:Env):i_ k (A.deeper env):=
 ⟨r.hd,by have:=r.dp;show A.depth+1+3*k+5<_;omega,by have:=r.un;show A.units+3+16*k+200<_;omega⟩
theorem i_.depth {k:Nat} {A:Around} (r:i_ k A):A.depth<recursionLimit:=by have:=r.dp;omega
theorem i_.units {k:Nat} {A:Around} (r:i_ k A):A.units+64<cLine:=by have:=r.un;omega
def Xi:TA:=fun _ H Q=>Q [] H
def RV (ta:TE) (tr:TA):TA:=fun σ H Q=>ta σ H fun x H1=>tr σ H1 fun xs H2=>Q (x::xs) H2
section
variable {X:Cx} {e:Expr} {es:List Expr} {te:TE} {t:TA} {pos:Pos}
theorem ak:PA X [] Xi:=fun _ _ _ _ H Q I h=>Calls.spliced_nil ⟨[],H,I,.nil,h⟩
theorem aj (ha:PE X e te) (hr:PA X es t) (hs:starEach (e::es) X.env=(false,eval e X.env)::starEach es X.env:=by rfl):PA X (e::es) (RV te t):=by
 intro pos pins s σ H Q I h;rw [hs];show wpAny _ _ (spliced ((false,eval e X.env)::backTo pos (starEach es X.env))) _ _ s;refine Calls.spliced_cons (cC (ha pins s σ H _ I h) fun u s1 ⟨x,H1,I1,r1,q1⟩=> ?_);exact cC (hr pos pins s1 σ H1 _ I1 q1) fun us s2 ⟨xs,H2,I2,r2,q2⟩=>⟨x::xs,H2,I2,.cons r1 r2,q2⟩
def Xd (t:TA):TE:=fun σ H Q=>t σ H fun xs H1=>xs.length<=sizeLine /\ ∀p,H1 p=none->Q (.ref p) (upd H1 p (.tup xs))
def Xj (t:TA):TE:=fun σ H Q=>t σ H fun xs H1=>xs.length<=sizeLine /\ ∀p,H1 p=none->Q (.ref p) (upd H1 p (.lst xs))
theorem jG {x1} (h:PA X es t):PE X (.Tuple es x1 pos) (Xd t):=by
 intro pins s σ H Q I hq;refine wpAny_Tuple_spliced (cC (h pos pins s σ H _ I hq) fun us s1 ⟨xs,H1,I1,r,z,q⟩=>⟨by rw [←r.length];exact z, ?_⟩);have hf:H1 s1.heap.objs.size=none:=I1.hok.fresh (Nat.le_refl _);refine ⟨.ref s1.heap.objs.size,upd H1 s1.heap.objs.size (.tup xs),I1.laid (t':=s1.toks) (fun b u e=>Heap.get?_push_of_some _ e) (Nat.le_refl _) ?_,rfl,q _ hf⟩;exact ⟨z,us,r,⟨_,Heap.get?_push_size _ rfl,rfl,_,rfl⟩⟩
theorem cY (h:PA X es t):PE X (.List es pos) (Xj t):=by
 intro pins s σ H Q I hq;refine wpAny_List_spliced (cC (h pos pins s σ H _ I hq) fun us s1 ⟨xs,H1,I1,r,z,q⟩=>⟨by rw [←r.length];exact z, ?_⟩);have hf:H1 s1.heap.objs.size=none:=I1.hok.fresh (Nat.le_refl _);refine ⟨.ref s1.heap.objs.size,upd H1 s1.heap.objs.size (.lst xs),I1.laid (t':=s1.toks) (fun b u e=>Heap.get?_push_of_some _ e) (Nat.le_refl _) ?_,rfl,q _ hf⟩;exact ⟨z,us,0,r,Heap.get?_push_size _ rfl⟩
end
abbrev Sp:=List V->Hp->VK->XK->Prop
abbrev JX:=List Env->Hp->Shared->XK->Value->Shared->Prop
structure MF (P:Program) (w:World) (K:PySem.W.Frag) (mg:Str->Option Value) (base:Heap) (A:Around) (outer:List Env) (s:Shared) (H:Hp):Prop where
 frames:A.frames=some outer
 mod:Mod K mg base
 bs:∀b o,base.get? b=some o->s.heap.get? b=some o/\H b=none
 Nv:base.objs.size<=s.heap.objs.size
 qN:s.heap.FunFrames base outer
 Rw:∀b∈frs outer,H b=none
 hok:kW P w H s.heap
 bare:AllBare s.gens
def CE (outer:List Env) (P:Program) (w:World) (H:Hp) (s:Shared) (Q:VK) (u:Value) (s':Shared):Prop:=
 ∃v H',s'.os=s.os/\AllBare s'.gens/\Un (frs outer) [] H H' s.heap s'.heap/\kW P w H' s'.heap/\RelV v u/\Q v H'
def CR (CX:JX) (outer:List Env) (P:Program) (w:World) (H:Hp) (s:Shared) (Q:VK) (E:XK) (r:Result) (s':Shared):Prop:=
 match r with
 | .ok (.ret u)=>CE outer P w H s Q u s'
 | .ok _=>False
 | .error e=>CX outer H s E e s'
structure cT (P:Program) (w:World) (K:PySem.W.Frag) (mg:Str->Option Value) (base:Heap) (CX:JX) (k:Nat) (f:Addr) (fd:FuncData) (ps:List Str) (sp:Sp):Prop where
 len:∀vs H Q E,sp vs H Q E->vs.length=ps.length
 run:∀(A:Around) (outer:List Env) (s:Shared) (H:Hp) (args:Args) (us:List Value) (vs:List V) (Q:VK) (E:XK),i_ k A->MF P w K mg base A outer s H->BindsTo s fd args (ps.zip us)->Vals vs us->sp vs H Q E ->
  codeAny (model P w) A (.call (.ref f) args) (CR CX outer P w H s Q E) s
section
variable {X:Cx} {pins:List (Addr×Obj)} {σ:St} {H:Hp} {s s':Shared}
theorem Inv.env0 (I:Inv X pins σ H s):MF X.prog X.w X.K X.mg X.base X.A X.stack s H:=
 ⟨I.ok.frames,I.ok.mod,I.bs,Nat.le_trans I.ok.Nv I.sz,I.stack,I.Bf,I.hok,I.bare⟩
theorem Inv.after {Q:VK} {u:Value} (I:Inv X pins σ H s) (h:CE X.stack X.prog X.w H s Q u s'):EP X pins σ Q u s':=by
 obtain ⟨v,H',os,bare,un,hok,r,q⟩:=h;obtain ⟨hh,g,d,t,os'⟩:=s';obtain rfl:os'=s.os:=os;exact ⟨v,H',I.call (h':=hh) (g':=g) (d':=d) (t':=t) (ch:=[]) un hok bare (fun b z=>absurd z (by simp)),r,q⟩
end
def M4 (sp:Sp) (Jo:List V) (E:XK) (t:TA):TE:=fun σ H Q=>t σ H fun vs H1=>sp (vs++Jo) H1 Q E
def Binds (K:PySem.W.Frag) (fd:FuncData) (ps:List Str) (ds:List Value):Prop:=
 ∀(s:Shared) (us:List Value),K.In s.heap->(us++ds).length=ps.length->BindsTo s fd ⟨us,[]⟩ (ps.zip (us++ds))
theorem Binds.all {K:PySem.W.Frag} {fd:FuncData} {ps:List Str} (h:∀us:List Value,us.length=ps.length->bindArgs fd ⟨us,[]⟩=pure (ps.zip us)):Binds K fd ps []:=fun s us _ hl=>by
 rw [List.append_nil] at hl ⊢;exact .of_eq (h us hl)
def Passes (CX:JX) (X:Cx) (E:XK):Prop:=∀(pins:List (Addr×Obj)) (σ:St) (H:Hp) (s:Shared) (e:Value) (s':Shared),Inv X pins σ H s->CX X.stack H s E e s'->X.xe e s'
section
variable {X:Cx} {CX:JX} {k:Nat} {f C:Addr} {fd:FuncData} {ps:List Str} {sp:Sp} {Jo:List V} {ds:List Value} {E:XK} {x m:Str} {p pos apos:Pos} {e o:Expr} {es:List Expr} {ta:TE} {t:TA}
theorem O1 {pins:List (Addr×Obj)} {σ:St} {H:Hp} {s:Shared} {Q:VK} {us:List Value} {vs:List V} (F:cT X.prog X.w X.K X.mg X.base CX k f fd ps sp) (hr:i_ k X.A) (hb:Binds X.K fd ps ds) (hd:Vals Jo ds) (hx:Passes CX X E)
 (I:Inv X pins σ H s) (r:Vals vs us) (h:sp (vs++Jo) H Q E):wpAny (model X.prog X.w) X.A (call (.ref f) us) (EP X pins σ Q) X.xe s:=by
 have r2:Vals (vs++Jo) (us++ds):=r.append hd;have hl:(us++ds).length=ps.length:=by rw [←r2.length];exact F.len _ _ _ _ h
 refine wpAny_call (codeAny_mono (F.run X.A X.stack s H ⟨us,[]⟩ (us++ds) (vs++Jo) Q E hr I.env0 (hb s us I.xW hl) r2 h) fun r s' hq=> ?_);cases r with
 | error e=>exact hx pins σ H s e s' I hq
 | ok fl=>
   cases fl with
   | ret u=>exact I.after hq
   | next=>exact False.elim hq
   | brk=>exact False.elim hq
   | cont=>exact False.elim hq
theorem K5 (F:cT X.prog X.w X.K X.mg X.base CX k f fd ps sp) (hr:i_ k X.A) (hg:Gl X x) (hm:X.mg x=some (.ref f)) (hk:PySem.W.keepIn X.K (.ref f)=true) (hb:Binds X.K fd ps ds) (hd:Vals Jo ds) (hx:Passes CX X E)
 (ha:PA X (e::es) t) (hdb:(x==("__debug__" :Str))=false:=by decide) (he:starEach (e::es) X.env=(false,eval e X.env)::starEach es X.env:=by rfl) (hpl:(backTo pos (starEach es X.env)).any (·.1)=false:=by rfl):
 PE X (.Call (.Name x p) (e::es) [] pos) (M4 sp Jo E t):=by
 intro pins s σ H Q I h;refine wpAny_Call_Name_kw (Ln I hg hm ?_ hdb);refine PySem.W.callWith_K (h₀:=X.base) I.ok.mod.kin hk (cC (ha pos pins s σ H _ I h) fun us s1 ⟨vs,H1,I1,r,q⟩=>⟨I1.xW, ?_⟩) he hpl;exact O1 F hr hb hd hx I1 r q
end
section
variable {X:Cx} {CX:JX} {k:Nat} {f C:Addr} {fd:FuncData} {ps ks:List Str} {sp:Sp} {E:XK} {x m:Str} {p pos apos kpos:Pos} {e o:Expr} {es:List Expr} {kws:List Keyword} {te ta:TE} {t tk:TA} {nm:Option Str}
variable {g:List Value->List Value->List Value} {gV:List V->List V->List V}
end
structure bw (N P:List Str) (sc:Scope):Prop where
 kind:sc.kind = .function
 co:sc.isCoroutine=false
 gen:sc.isGenerator=false
 nd:N.Nodup
 pre:N.take P.length=P
 par:∀x∈P,sc.names.lookup x=some .local\/sc.names.lookup x=some .cell
 Qc:∀y∈sc.names,y.2 ≠ .free
theorem uG {kindOf:Str->Option NameKind} {x:Str}:∀{binds:List (Str×Value)} {m:Str->Option Value},(∀v,(x,v)∉binds)->bindL kindOf binds m x=m x
 | [],_,_=>rfl
 | (n,v)::r,m,h=>by
   unfold bindL;rw [uG fun w hw=>h w (List.mem_cons_of_mem _ hw)];split
   ·have:x≠n:=by rintro rfl;exact h v List.mem_cons_self
    simp [this]
   ·rfl
theorem uI {kindOf:Str->Option NameKind} {x:Str}:∀{binds:List (Str×Value)} {m:Str->Option Value},(∀v,(x,v)∉binds)->bindC kindOf binds m x=m x
 | [],_,_=>rfl
 | (n,v)::r,m,h=>by
   unfold bindC;rw [uI fun w hw=>h w (List.mem_cons_of_mem _ hw)];split
   ·rfl
   ·have:x≠n:=by rintro rfl;exact h v List.mem_cons_self
    simp [this]
theorem uH {kindOf:Str->Option NameKind} {x:Str} {v:Value}:∀{P:List Str} {vs:List Value} {i:Nat} {m:Str->Option Value},P.Nodup->P[i]? = some x->vs[i]? = some v->kindOf x=some .local ->
 bindL kindOf (P.zip vs) m x=some v
 | [],_,_,_,_,h,_,_=>by simp at h
 | _::_,[],_,_,_,_,h,_=>by simp at h
 | p::P,w::vs,0,m,nd,h1,h2,hk=>by
   simp at h1 h2;subst h1;subst h2;show bindL kindOf ((p,w)::P.zip vs) m p=_;unfold bindL;rw [uG fun v hv=>(List.nodup_cons.mp nd).1 (List.of_mem_zip hv).1,if_pos hk];simp
 | p::P,w::vs,i+1,m,nd,h1,h2,hk=>by
   show bindL kindOf ((p,w)::P.zip vs) m x=_;unfold bindL;exact uH (i:=i) (List.nodup_cons.mp nd).2 (by simpa using h1) (by simpa using h2) hk
theorem uJ {kindOf:Str->Option NameKind} {x:Str} {v:Value}:∀{P:List Str} {vs:List Value} {i:Nat} {m:Str->Option Value},P.Nodup->P[i]? = some x->vs[i]? = some v->kindOf x≠some .local ->
 bindC kindOf (P.zip vs) m x=some v
 | [],_,_,_,_,h,_,_=>by simp at h
 | _::_,[],_,_,_,_,h,_=>by simp at h
 | p::P,w::vs,0,m,nd,h1,h2,hk=>by
   simp at h1 h2;subst h1;subst h2;show bindC kindOf ((p,w)::P.zip vs) m p=_;unfold bindC;rw [uI fun v hv=>(List.nodup_cons.mp nd).1 (List.of_mem_zip hv).1,if_neg hk];simp
 | p::P,w::vs,i+1,m,nd,h1,h2,hk=>by
   show bindC kindOf ((p,w)::P.zip vs) m x=_;unfold bindC;exact uJ (i:=i) (List.nodup_cons.mp nd).2 (by simpa using h1) (by simpa using h2) hk
def start (N:List Str) (vs:List V):St:=vs.map some++List.replicate (N.length - vs.length) none
def Fp (CX:JX) (P:Program) (w:World) (K:PySem.W.Frag) (mg:Str->Option Value) (base:Heap) (N:List Str) (qual:Str) (scope:Scope) (f:Addr) (cd:Value) (A:Around) (outer:List Env) (s:Shared) (H:Hp) (E:XK):Cx where
 prog:=P
 w:=w
 K:=K
 mg:=mg
 base:=base
 A:=A.deeper (envOfC qual scope s.heap.objs.size f cd)
 N:=N
 s₀:=s
 H₀:=H
 env:=envOfC qual scope s.heap.objs.size f cd
 outer:=outer
 stack:=envOfC qual scope s.heap.objs.size f cd::outer
 ex:=[]
 calm:=true
 fn:=fun _=>true
 pn:=[]
 xe:=fun e s'=>wpAny (model P w) (A.deeper (envOfC qual scope s.heap.objs.size f cd)) (leaving (envOfC qual scope s.heap.objs.size f cd) e) (fun _ s''=>CX outer H s E e s'') (fun e' s''=>CX outer H s E e' s'') s'
theorem yC {sc:Scope} {n:Nat} {x:Str} (h:sc.names.lookup x=some .cell):∃c,(cellsFrom n sc.names []).lookup x=some c:=by
 have q:=PySem.W.cellsFrom_some sc.names n [] (.inl h);exact Option.isSome_iff_exists.mp q
theorem Eu {CX:JX} {P:Program} {w:World} {K:PySem.W.Frag} {mg:Str->Option Value} {base:Heap} {N ps:List Str} {qual:Str} {scope:Scope} {f:Addr} {cd:Value} {A:Around} {outer:List Env} {s s1:Shared} {H:Hp} {E:XK} {us:List Value} {vs:List V}
 (S:bw N ps scope) (hd:A.handled=none) (e0:MF P w K mg base A outer s H) (hl:vs.length=ps.length) (r:Vals vs us)
 (x:InCallC s s.heap.objs.size (bindL (envOfC qual scope s.heap.objs.size f cd).kindOf (ps.zip us) fun _=>none) (cellsFrom (s.heap.objs.size+1) scope.names []) (bindC (envOfC qual scope s.heap.objs.size f cd).kindOf (ps.zip us) fun _=>none) s1):
 Inv (Fp CX P w K mg base N qual scope f cd A outer s H E) [] (start N vs) H s1:=by
 have hpl:ps.length<=N.length:=by have:=congrArg List.length S.pre;rw [List.length_take] at this;omega
 obtain ⟨h1,tk,rfl,hk⟩:=x.done;have Ti:∀b:Addr,b∉(Fp CX P w K mg base N qual scope f cd A outer s H E).ex:=fun b z=>absurd (show b∈([]:List Addr) from z) (by simp)
 refine ⟨⟨e0.mod,S.kind,rfl,rfl,Nat.le_refl _,fun y z c h1 h2=> ?_,fun y hy=> ?_,fun y c _ h=> ?_,fun _=>hd,Around.frames_deeper e0.frames,.inr ⟨rfl,rfl⟩,fun b z=>absurd z (Ti b),e0.bs,e0.Nv,fun b _ _=>Ti b,fun b z=>absurd z (Ti b),e0.qN,e0.Rw⟩,
  rfl,e0.bare,Un.kept hk,⟨_,x.toInCall.ns,fun i y v h1 h2 h3=> ?_⟩,fun y c h=>⟨_,x.cell y c h⟩,e0.hok.fresh (Nat.le_refl _),fun y c h=> ?_,fun p hp=>absurd (show p∈([]:List (Addr×Obj)) from hp) (by simp),e0.hok.kept hk, ?_⟩
 ·exact name_of_addr x.apart (PySem.mem_of_lookup h1) (PySem.mem_of_lookup h2)
 ·have hy:scope.names.lookup y=some .cell\/scope.names.lookup y=some .free:=hy
  rcases hy with hy|hy
  ·exact yC hy
  ·exact absurd rfl (S.Qc _ (PySem.mem_of_lookup hy))
 ·exact Nat.le_of_lt (x.above y c (PySem.mem_of_lookup h))
 ·have hi:i<vs.length:=by
   unfold start at h2
   by_cases hi:i<vs.length
   ·exact hi
   ·rw [List.getElem?_append_right (by simpa using hi)] at h2
    rw [List.getElem?_replicate] at h2;split at h2<;>cases h2
  have ha:vs[i]? = some v:=by
   unfold start at h2;rw [List.getElem?_append_left (by simpa using hi),List.getElem?_map] at h2;cases e:vs[i]? with
   | none=>rw [e] at h2;cases h2
   | some a=>rw [e] at h2;cases h2;rfl
  obtain ⟨u,hu,rv⟩:=r.get ha
  have hp:ps[i]? = some y:=by
   rw [←S.pre,List.getElem?_take_of_lt (by omega)];exact h1
  have ndP:ps.Nodup:=by rw [←S.pre];exact S.nd.sublist (List.take_sublist _ _)
  refine ⟨u,rv, ?_⟩;rcases S.par y (List.mem_of_getElem? hp) with k|k
  ·exact .inl ⟨k,uH ndP hp hu k⟩
  ·obtain ⟨c,e⟩:=yC (n:=s.heap.objs.size+1) k
   refine .inr ⟨.inl k,c,e, ?_⟩;have q:=x.cell y c e;rw [uJ ndP hp hu (by show scope.names.lookup y≠_;rw [k];decide)] at q;exact q
 ·exact e0.hok.fresh (Nat.le_of_lt (x.above y c (PySem.mem_of_lookup h)))
 ·unfold start
  show _=N.length;rw [List.length_append,List.length_map,List.length_replicate];omega
theorem Uo {CX:JX} {P:Program} {w:World} {K:PySem.W.Frag} {mg:Str->Option Value} {base:Heap} {k:Nat} {f:Addr} {name qual:Str} {params:Arguments} {body:List Stmt} {scope:Scope} {dV kV doc pm cdv ct oc:Value} {an od:Option Addr}
 {osl:Array (Option Value)} {N ps:List Str} {sp:Sp} (lk:K.lookup f=some ⟨oc,od,.func (PySem.W.fnOf name qual params body scope dV kV doc pm an cdv ct),osl⟩) (hcd:PySem.W.codeIn K cdv qual=true) (S:bw N ps scope)
 (len:∀vs H Q E,sp vs H Q E->vs.length=ps.length)
 (hbody:∀(A:Around) (outer:List Env) (s:Shared) (H:Hp) (vs:List V) (Q:VK) (E:XK),i_ k (A.deeper (envOfC qual scope s.heap.objs.size f cdv))->sp vs H Q E ->
   ∃t,FW (Fp CX P w K mg base N qual scope f cdv A outer s H E) body t/\t {nx:=fun _ H'=>Q .non H',rt:=Q} (start N vs) H):
 cT P w K mg base CX (k+1) f (PySem.W.fnOf name qual params body scope dV kV doc pm an cdv ct) ps sp:=by
 refine ⟨len,fun A outer s H args us vs Q E hr e0 hb r hsp=> ?_⟩;have hl:=len _ _ _ _ hsp;have KX:K.In s.heap:=e0.mod.kin.keeps fun b o e=>(e0.bs b o e).1;have lim:s.heap.NoLimit:=e0.mod.nolimit.keeps fun b o e=>(e0.bs b o e).1
 have hkind:∀y∈ps.zip us,scope.names.lookup y.1=some .local\/(scope.names.lookup y.1=some .cell/\((cellsFrom (s.heap.objs.size+1) scope.names []).lookup y.1).isSome=true):=fun ⟨n,v⟩ hy=>by
  rcases S.par n (List.of_mem_zip hy).1 with q|q
  ·exact .inl q
  ·exact .inr ⟨q,PySem.W.cellsFrom_some _ _ _ (.inl q)⟩
 refine codeAny_call_function hr.depth (KX _ _ lk) rfl S.co S.gen rfl (PySem.W.codeRec_of KX hcd) (hb _ _ _ _ ?_);refine wpAny_newFunctionEnv_cells S.kind hkind fun env he s1 x=> ?_;subst he;refine ⟨lim.keeps x.toInCall.keep,codeAny_func ?_⟩;obtain ⟨t,ht,hq⟩:=hbody A outer s H vs Q E (hr.deeper _) hsp;have I:Inv (Fp CX P w K mg base N qual scope f cdv A outer s H E) [] (start N vs) H s1:=Eu S hr.hd e0 hl r x;refine wpAny_mono (ht [] s1 (start N vs) H _ I hq) (fun fl s' hs=> ?_) fun e s' hs=>hs
 have fin:∀{σ':St} {H':Hp} {v:V} {u:Value},Inv (Fp CX P w K mg base N qual scope f cdv A outer s H E) [] σ' H' s'->RelV v u->Q v H'->CE outer P w H s Q u s':=
  fun {σ' H' v u} J rv q=>⟨v,H',J.os,J.bare,J.base,J.hok,rv,q⟩
 cases fl with
 | ret u=>
   obtain ⟨v,σ',H',J,rv,q⟩:=hs;exact fin J rv q
 | next=>
   obtain ⟨σ',H',J,q⟩:=hs;exact fin (v:=V.non) (u:=Value.none) J rfl q
 | brk=>
   obtain ⟨_,_,_,q⟩:=hs;exact False.elim q
 | cont=>
   obtain ⟨_,_,_,q⟩:=hs;exact False.elim q
end L2
namespace L2
open PySem PySem.Spec PyProof.Rows
section
variable {X:Cx} {x:Str} {p pos:Pos} {e:Expr} {es:List Expr} {t:TA} {id T:String} {r:List V->Hp->VK->Prop}
def tCB (r:List V->Hp->VK->Prop) (t:TA):TE:=fun σ H Q=>t σ H fun vs H1=>r vs H1 Q
theorem aN (hc:gW X (.builtin id) r) (hg:Gl X x) (hm:X.mg x=none) (hv:bootBuiltins x=some (.builtin id)) (ha:PA X (e::es) t) (hn:x ≠ "__name__" :=by decide) (hdb:(x==("__debug__" :Str))=false:=by decide)
 (he:starEach (e::es) X.env=(false,eval e X.env)::starEach es X.env:=by rfl) (hpl:(backTo pos (starEach es X.env)).any (·.1)=false:=by rfl):PE X (.Call (.Name x p) (e::es) [] pos) (tCB r t):=by
 intro pins s σ H Q I h;refine wpAny_Call_Name_kw (nY I hg hm hv ?_ hn hdb);exact PyProof.Rows.callWith_builtin1 (cC (ha pos pins s σ H _ I h) fun us s1 ⟨vs,H1,I1,r1,q1⟩=>hc pins s1 σ H1 vs us Q I1 r1 q1) he hpl
theorem eG (hc:gW X (.type T) r) (hg:Gl X x) (hm:X.mg x=none) (hv:bootBuiltins x=some (.type T)) (ha:PA X (e::es) t) (hn:x ≠ "__name__" :=by decide) (hdb:(x==("__debug__" :Str))=false:=by decide)
 (he:starEach (e::es) X.env=(false,eval e X.env)::starEach es X.env:=by rfl) (hpl:(backTo pos (starEach es X.env)).any (·.1)=false:=by rfl):PE X (.Call (.Name x p) (e::es) [] pos) (tCB r t):=by
 intro pins s σ H Q I h;refine wpAny_Call_Name_kw (nY I hg hm hv ?_ hn hdb);exact PyProof.Rows.callWith_type1 (cC (ha pos pins s σ H _ I h) fun us s1 ⟨vs,H1,I1,r1,q1⟩=>hc pins s1 σ H1 vs us Q I1 r1 q1) he hpl
end
end L2
namespace HT
open PySem PyProof.Rows
section
open PySem.SeqAt
open PySem.AutoSeq1 (wpAny_loadPart')
open PySem.MeetsSeq PySem.MeetsSeq2 PySem.MeetsSeq3
end
section
variable {prog:Program} {w:World} {A:Around} {E:Value->Shared->Prop} {s:Shared}
theorem Ml {t b:Addr} {vs ws:List Value} {Q:Value->Shared->Prop} (ht:IsTup s.heap t vs.toArray) (hb:IsTup s.heap b ws.toArray) (hv:vs≠[])
 (h1:ws=[]->Q (.ref t) s) (h2:ws≠[]->Q (.ref s.heap.objs.size) {s with heap:=s.heap.push {cls:= .type "tuple",data:= .seq (vs++ws).toArray}})
 (hsz:vs.length+ws.length<=sizeLine):wpAny (model prog w) A (binaryOp .Add (.ref t) (.ref b)) Q E s:=by
 obtain ⟨⟨cls,dd,data,sl⟩,ho,hc,n,hd⟩:=id ht;obtain ⟨⟨cls2,dd2,data2,sl2⟩,ho2,hc2,n2,hd2⟩:=id hb;simp only at hc hd hc2 hd2;subst hc hd hc2 hd2;have e:vs.toArray++ws.toArray=(vs++ws).toArray:=by simp
 by_cases hw:ws=[]
 ·exact concat_meets ⟨_,ho,rfl⟩ ⟨_,ho2,rfl⟩ noFill_tuple_add seq_tuple_add PySem.F.slot_tuple_add PySem.F.entry_tuple_add (PySem.F.args_tuple_add_2 _ _)
   (tuple_addW1 t b vs.toArray ws.toArray n n2 dd dd2 sl sl2 (by simpa using hv) (by simp [hw])) ⟨ho,ho2,h1 hw⟩
 ·refine concat_meets ⟨_,ho,rfl⟩ ⟨_,ho2,rfl⟩ noFill_tuple_add seq_tuple_add PySem.F.slot_tuple_add PySem.F.entry_tuple_add (PySem.F.args_tuple_add_2 _ _)
   (tuple_addW2 t b vs.toArray ws.toArray n n2 dd dd2 sl sl2 (by simpa using hv) (by simpa using hw) (by rw [List.size_toArray,List.size_toArray];exact hsz)) ⟨ho,ho2, ?_⟩
  rw [e];exact h2 hw
def gb (n d:Nat):Option Int->Nat
 | none=>d
 | some v=>if v<0 then (v+(n:Int)).toNat else min v.toNat n
theorem wO (n d:Nat):gb n d none=d:=rfl
theorem Bj (n d k:Nat):gb n d (some (k:Int))=min k n:=by
 show (if (k:Int)<0 then ((k:Int)+(n:Int)).toNat else min (k:Int).toNat n)=min k n;rw [if_neg (by omega),Int.toNat_natCast]
theorem Oz (n d:Nat) (hd:d<=n) (o:Option Int):gb n d o<=n:=by
 cases o with
 | none=>exact hd
 | some v=>
   show (if v<0 then (v+(n:Int)).toNat else min v.toNat n)<=n
   by_cases hv:v<0
   ·rw [if_pos hv];omega
   ·rw [if_neg hv];exact Nat.min_le_right _ _
theorem CQ (v:Int) (n d:Nat):(if v<0 then max (v+(n:Int)) 0 else min v (n:Int))=((gb n d (some v):Nat):Int):=by
 show (if v<0 then max (v+(n:Int)) 0 else min v (n:Int))=(((if v<0 then (v+(n:Int)).toNat else min v.toNat n):Nat):Int)
 by_cases hv:v<0
 ·simp only [if_pos hv];omega
 ·simp only [if_neg hv];omega
theorem Al (lo hi:Option Int) (n:Nat):Builtin.Slice.sliceAdjust lo hi 1 (n:Int)=(((gb n 0 lo:Nat):Int),((gb n n hi:Nat):Int)):=by
 have h1:¬((1:Int)<0):=by omega
 unfold Builtin.Slice.sliceAdjust;simp only [h1,if_false];refine Prod.ext ?_ ?_
 ·cases lo with
  | none=>rfl
  | some v=>exact CQ v n 0
 ·cases hi with
  | none=>rfl
  | some v=>exact CQ v n n
theorem zR (i j:Nat):Builtin.Slice.slicePlaces (i:Int) (j:Int) 1=j - i:=by
 unfold Builtin.Slice.slicePlaces;have h1:(1:Int)>0:=by omega
 simp only [h1,if_true,Int.ediv_one];split<;>omega
theorem pW {v:Value} {o:Option Int} {Q:Option Int->Shared->Prop} (p:IsPart v o) (h:Q o s):wpAny (model prog w) A (Builtin.Slice.slicePartIndex v) Q E s:=by
 cases p with
 | none=>exact slicePart_none h
 | int i t=>exact slicePart_int h
theorem nO {sl:Addr} {vl vu:Value} {lo hi:Option Int} {n:Nat} {Q:Int×Int×Nat->Shared->Prop} (hs:s.heap.IsSliceOf sl vl vu .none) (pl:IsPart vl lo) (pu:IsPart vu hi)
 (h:Q (((gb n 0 lo:Nat):Int),1,gb n n hi - gb n 0 lo) s):wpAny (model prog w) A (Builtin.Slice.sliceApplied (.ref sl) (pure (n:Int))) Q E s:=by
 obtain ⟨os,hos,hcs,hds⟩:=id hs;unfold Builtin.Slice.sliceApplied Builtin.Slice.sliceFields;refine wpAny_bind (wpAny_bind (wpAny_field hos hds (x:=vl) rfl (wpAny_bind (wpAny_field hos hds (x:=vu) rfl (wpAny_bind (wpAny_field hos hds (x:= .none) rfl (wpAny_pure ?_)))))));refine wpAny_bind (slicePart_none ?_);show wpAny _ _ (if ((1:Int)==0)=true then _ else _) _ _ s;rw [if_neg (by decide)];refine wpAny_bind (pW pl (wpAny_bind (pW pu (wpAny_bind (wpAny_pure ?_)))));show wpAny _ _ (match Builtin.Slice.sliceAdjust lo hi 1 (n:Int) with |(lo,hi)=>pure (lo,(1:Int),Builtin.Slice.slicePlaces lo hi 1)) _ _ s;rw [Al lo hi n];show wpAny _ _ (pure (((gb n 0 lo:Nat):Int),(1:Int),Builtin.Slice.slicePlaces ((gb n 0 lo:Nat):Int) ((gb n n hi:Nat):Int) 1)) _ _ s;rw [zR];exact wpAny_pure h
theorem Hr (xs:Array Value) (i k:Nat):((List.range k).filterMap fun (m:Nat)=>xs[((i:Int)+(m:Int)*1).toNat]?).toArray=((xs.toList.drop i).take k).toArray:=by
 have e:(fun (m:Nat)=>xs[((i:Int)+(m:Int)*1).toNat]?)=fun m=>xs[i+m]? :=by
  funext m;have:((i:Int)+(m:Int)*1).toNat=i+m:=by omega
  rw [this]
 rw [e];have:=pick_run xs i k;rw [List.filterMap_map] at this;have e2:((fun x=>xs[x]?)∘fun x=>i+x)=fun m=>xs[i+m]? :=rfl;rw [e2] at this;rw [this]
theorem m8 {t sl:Addr} {items:Array Value} {vl vu:Value} {lo hi:Option Int} {Q:Value->Shared->Prop} (ht:IsTup s.heap t items) (hs:s.heap.IsSliceOf sl vl vu .none) (pl:IsPart vl lo) (pu:IsPart vu hi)
 (hw:¬(gb items.size 0 lo=0/\gb items.size items.size hi=items.size))
 (h:Q (.ref s.heap.objs.size) {s with heap:=s.heap.push {cls:= .type "tuple",data:= .seq ((items.toList.drop (gb items.size 0 lo)).take (gb items.size items.size hi - gb items.size 0 lo)).toArray}})
 (hsz:items.size<=sizeLine):wpAny (model prog w) A (getItem (.ref t) (.ref sl)) Q E s:=by
 have Cr:sizeOk (.seq ((items.toList.drop (gb items.size 0 lo)).take (gb items.size items.size hi - gb items.size 0 lo)).toArray):=by
  show ((items.toList.drop (gb items.size 0 lo)).take (gb items.size items.size hi - gb items.size 0 lo)).toArray.size<=sizeLine;rw [List.size_toArray,List.length_take,List.length_drop,Array.length_toList];omega
 have hj:gb items.size items.size hi<=items.size:=Oz _ _ (Nat.le_refl _) hi;obtain ⟨os,hos,hcs,hds⟩:=id hs;have hTs:s.TypeIs (.ref sl) "slice" :=⟨os,hos,hcs⟩;unfold getItem
 try with_reducible refine wpAny_holding ?_
 first |refine wpAny_bind (wpAny_pure ?_)|skip
 refine wpAny_bind (wpAny_sequenceKey ht.typeIs (by decide) ?_)
 refine wpAny_bind (wpAny_callSpecial?_slot (name:=Str.ofString "__getitem__") ht.typeIs PyProof.Rows.slot_tuple_getitem
  (wpAny_call_entry PyProof.Rows.slot_tuple_getitem ht.typeIs entry_tuple_getitem ?_ (args_tuple_getitem _ _)))
 show wpAny _ _ (Builtin.Tuple.tupleItemsOf (.ref t) >>= _) _ _ s;refine wpAny_bind (tupleItemsOf_ ht ?_);refine wpAny_bind (wpAny_typeOf hTs ?_);rw [if_pos (by decide)];refine wpAny_bind (nO hs pl pu ?_)
 have hno:¬((((gb items.size 0 lo:Nat):Int)==0&&(1:Int)==1&&(gb items.size items.size hi - gb items.size 0 lo)==items.size)=true):=by
  intro q;rw [Bool.and_eq_true,Bool.and_eq_true] at q;have q1:((gb items.size 0 lo:Nat):Int)=0:=eq_of_beq q.1.1;have q2:gb items.size items.size hi - gb items.size 0 lo=items.size:=eq_of_beq q.2;exact hw ⟨by omega,by omega⟩
 show wpAny _ _ (if (((gb items.size 0 lo:Nat):Int)==0&&(1:Int)==1&&(gb items.size items.size hi - gb items.size 0 lo)==items.size)=true then _ else _) _ _ s;rw [if_neg hno,Hr]
 first
  | exact wpAny_bind (m:=Builtin.Tuple.tupleExact _) (wpAny_newObj_type (wpAny_pure ⟨_,rfl,wpAny_pure h⟩) Cr)
  | exact wpAny_bind (m:=Builtin.Tuple.tupleExact _) (wpAny_newObj_type (wpAny_bind (wpAny_pure (wpAny_pure ⟨_,rfl,wpAny_pure h⟩))) Cr)
  | exact wpAny_bind (wpAny_bind (m:=Builtin.Tuple.tupleExact _) (wpAny_newObj_type (wpAny_pure (wpAny_pure ⟨_,rfl,wpAny_pure h⟩)) Cr))
  | exact wpAny_bind (wpAny_bind (m:=Builtin.Tuple.tupleExact _) (wpAny_newObj_type (wpAny_pure ⟨_,rfl,wpAny_pure h⟩) Cr))
end
end HT
namespace L2
open PySem PySem.Spec PyProof.Rows
abbrev TO:=St->Hp->(Option Int->Hp->Prop)->Prop
def PO (X:Cx) (e:Option Expr) (t:TO):Prop:=
 ∀(pins:List (Addr×Obj)) (s:Shared) (σ:St) (H:Hp) (Q:Option Int->Hp->Prop),Inv X pins σ H s->t σ H Q ->
  wpAny (model X.prog X.w) X.A (evalPart e X.env) (fun u s'=>∃o H',Inv X pins σ H' s'/\IsPart u o/\Q o H') X.xe s
def Ka:TO:=fun _ H Q=>Q none H
def RM (t:TE):TO:=fun σ H Q=>t σ H fun x H1=>∃i,x = .int i/\Q (some i) H1
section
variable {X:Cx} {e:Expr} {te:TE} {lo hi:Option Expr} {tl th:TO} {pos p2:Pos}
theorem eZ:PO X none Ka:=by
 intro pins s σ H Q I h;rw [evalPart_none];exact wpAny_pure ⟨none,H,I,.none,h⟩
theorem eY (h:PE X e te):PO X (some e) (RM te):=by
 intro pins s σ H Q I hw;rw [evalPart_some];refine cC (h pins s σ H _ I hw) fun u s1 ⟨x,H1,I1,r1,q1⟩=> ?_;obtain ⟨i,rfl,q⟩:=q1;obtain ⟨t,rfl⟩:=r1;exact ⟨some i,H1,I1,.int i t,q⟩
def Vk (X:Cx) (r:V->Option Int->Option Int->Hp->VK->Prop):Prop:=
 ∀(pins:List (Addr×Obj)) (s:Shared) (σ:St) (H:Hp) (x:V) (v vl vu:Value) (lo hi:Option Int) (sl:Addr) (Q:VK),Inv X pins σ H s->RelV x v->s.heap.IsSliceOf sl vl vu .none->IsPart vl lo->IsPart vu hi->r x lo hi H Q ->
  ∃T id,typeLookup (.type T) "__getitem__" = pure (some (.builtin id))/\s.TypeIs v T/\wpAny (model X.prog X.w) X.A (getItem v (.ref sl)) (EP X pins σ Q) X.xe s
def tSl (r:V->Option Int->Option Int->Hp->VK->Prop) (te:TE) (tl th:TO):TE:=fun σ H Q=>te σ H fun x H1=>tl σ H1 fun l H2=>th σ H2 fun u H3=>r x l u H3 Q
theorem dh {r:V->Option Int->Option Int->Hp->VK->Prop} (hr:Vk X r) (he:PE X e te) (hl:PO X lo tl) (hu:PO X hi th):PE X (.Subscript e (.Slice lo hi none p2) pos) (tSl r te tl th):=by
 intro pins s σ H Q I h;refine Subscript_ (cC (he pins s σ H _ I h) fun v s1 ⟨x,H1,I1,r1,q1⟩=> ?_);refine wpAny_Slice (cC (hl pins s1 σ H1 _ I1 q1) fun vl s2 ⟨l,H2,I2,pl,q2⟩=>cC (hu pins s2 σ H2 _ I2 q2) fun vu s3 ⟨u,H3,I3,pu,q3⟩=> ?_);rw [evalPart_none];refine wpAny_pure ?_;have I4:Inv X pins σ H3 {s3 with heap:=s3.heap.push {cls:= .type "slice",data:= .fields #[vl,vu,.none]}}:=I3.kept (t':=s3.toks) fun b ob q=>Heap.get?_push_of_some _ q;obtain ⟨T,id,hT,ht,hg⟩:=hr pins {s3 with heap:=s3.heap.push {cls:= .type "slice",data:= .fields #[vl,vu,.none]}} σ H3 x v vl vu l u s3.heap.objs.size Q I4 r1 (Heap.IsSliceOf.new ..) pl pu q3;show wpAny (model X.prog X.w) X.A (subscriptTail e (.Slice lo hi none p2) v (.ref s3.heap.objs.size)) (EP X pins σ Q) X.xe {s3 with heap:=s3.heap.push {cls:= .type "slice",data:= .fields #[vl,vu,.none]}};exact tail_any (ops:=[.ref s3.heap.objs.size,v]) ht hT hg (by with_unfolding_all rfl)
def iH (xs:List V) (lo hi:Option Int):List V:=(xs.drop (HT.gb xs.length 0 lo)).take (HT.gb xs.length xs.length hi - HT.gb xs.length 0 lo)
theorem oR (xs:List V) (lo hi:Option Int):(iH xs lo hi).length<=xs.length:=by
 unfold iH;rw [List.length_take,List.length_drop];omega
def Sq (K:PySem.W.Frag):V->Option Int->Option Int->Hp->VK->Prop:=fun x lo hi H Q=>∃a xs,x = .ref a/\cH K H a xs /\
 ¬(HT.gb xs.length 0 lo=0/\HT.gb xs.length xs.length hi=xs.length) /\ ∀p,H p=none->Q (.ref p) (upd H p (.tup (iH xs lo hi)))
theorem Ov:Vk X (Sq X.K):=by
 intro pins s σ H x v vl vu lo hi sl Q I rx hs pl pu h;obtain ⟨a,xs,rfl,hx,hw,q⟩:=h;cases rx;obtain ⟨its,r,ht,hz⟩:=I.tuple hx;have hlen:its.toArray.size=xs.length:=by rw [List.size_toArray];exact r.length.symm
 refine ⟨"tuple",_,PyProof.Rows.slot_tuple_getitem.lookup,ht.typeIs, ?_⟩;refine HT.m8 ht hs pl pu (by rw [hlen];exact hw) ?_ (by rw [hlen];exact hz);rw [hlen];refine ⟨.ref s.heap.objs.size,_,I.laid (t':=s.toks) (o:= .tup (iH xs lo hi)) (fun b ob q=>Heap.get?_push_of_some _ q) (Nat.le_refl _) ?_,rfl,q _ (I.hok.fresh (Nat.le_refl _))⟩;exact ⟨Nat.le_trans (oR xs lo hi) hz,_,(r.drop (HT.gb xs.length 0 lo)).take (HT.gb xs.length xs.length hi - HT.gb xs.length 0 lo),IsTup.new _ _⟩
def M8 (K:PySem.W.Frag):R2:=fun x y H Q=>∃a b xs ys,x = .ref a/\y = .ref b/\cH K H a xs/\cH K H b ys/\xs≠[]/\xs.length+ys.length<=sizeLine /\
 (ys=[]->Q (.ref a) H)/\(ys≠[] -> ∀p,H p=none->Q (.ref p) (upd H p (.tup (xs++ys))))
theorem Vals.vg {xs:List V} {us:List Value} (r:Vals xs us):us=[]↔xs=[]:=by
 cases r with
 | nil=>simp
 | cons _ _=>simp
theorem K9:lV X (binaryOp .Add) (M8 X.K):=by
 intro pins s σ H x y v u Q I rx ry h;obtain ⟨a,b,xs,ys,rfl,rfl,ha,hb,hx,hz,q1,q2⟩:=h;cases rx;cases ry;obtain ⟨its,r1,p1,_⟩:=I.tuple ha;obtain ⟨its2,r2,p2,_⟩:=I.tuple hb;refine HT.Ml p1 p2 (fun z=>hx (r1.vg.mp z)) (fun z=>⟨.ref a,H,I,rfl,q1 (r2.vg.mp z)⟩) (fun z=> ?_) (by rw [←r1.length,←r2.length];exact hz);refine ⟨.ref s.heap.objs.size,_,I.laid (t':=s.toks) (o:= .tup (xs++ys)) (fun b ob q=>Heap.get?_push_of_some _ q) (Nat.le_refl _) ?_,rfl,q2 (fun w=>z (r2.vg.mpr w)) _ (I.hok.fresh (Nat.le_refl _))⟩;exact ⟨by rw [List.length_append];exact hz,_,r1.append r2,IsTup.new _ _⟩
end
end L2
namespace L2
open PySem PySem.Spec PyProof.Rows
def I_ (n:Nat) (i:Int):Option Nat:=if 0<=i then (if i<n then some i.toNat else none) else if -(n:Int)<=i then some (i+n).toNat else none
def rY {α:Type} (xs:List α) (i:Int):Option α:=(I_ xs.length i).bind fun j=>xs[j]?
theorem Cj {n:Nat} {i:Int} {j:Nat} (h:I_ n i=some j):seqIndex? i n=some j/\j<n /\ -(n:Int)<=i/\i<n:=by
 unfold I_ at h
 by_cases h0:0<=i
 ·rw [if_pos h0] at h
  by_cases h1:i<n
  ·rw [if_pos h1] at h
   have e:i.toNat=j:=Option.some.inj h;exact ⟨by rw [seqIndex_of h0 h1,e],by omega,by omega,h1⟩
  ·rw [if_neg h1] at h;cases h
 ·rw [if_neg h0] at h
  by_cases h1: -(n:Int)<=i
  ·rw [if_pos h1] at h
   have e:(i+n).toNat=j:=Option.some.inj h;exact ⟨by rw [seqIndex_neg (by omega) h1,e],by omega,h1,by omega⟩
  ·rw [if_neg h1] at h;cases h
theorem v7 {α:Type} {xs:List α} {i:Int} {v:α} (h:rY xs i=some v):∃j,seqIndex? i xs.length=some j/\xs[j]? = some v/\j<xs.length /\ -(xs.length:Int)<=i/\i<xs.length:=by
 unfold rY at h;cases e:I_ xs.length i with
 | none=>rw [e] at h;cases h
 | some j=>
   rw [e] at h;obtain ⟨h1,h2,h3,h4⟩:=Cj e;exact ⟨j,h1,h,h2,h3,h4⟩
theorem fD {α:Type} {xs:List α} {j:Nat} {v:α} (h:xs[j]? = some v):rY xs (j:Int)=some v:=by
 have hj:j<xs.length:=(List.getElem?_eq_some_iff.mp h).1
 have e:I_ xs.length (j:Int)=some j:=by
  unfold I_;rw [if_pos (by omega),if_pos (by omega)];simp
 unfold rY;rw [e];exact h
theorem rH {α:Type} (xs:List α) (v:α):rY (xs++[v]) (-1)=some v:=by
 have hl:(xs++[v]).length=xs.length+1:=by simp
 have e:I_ (xs++[v]).length (-1)=some xs.length:=by
  unfold I_;rw [hl,if_neg (by decide),if_pos (by omega)];congr 1;omega
 unfold rY;rw [e];show (xs++[v])[xs.length]? = some v;simp
def Mu (b:Expr):Prop:=∀o i,subscripted b false o i=operate [o,i] (getItem o i)
def Gg (X:Cx) (r:R2):Prop:=
 ∀(value slice:Expr) (pins:List (Addr×Obj)) (s:Shared) (σ:St) (H:Hp) (x y:V) (v u:Value) (Q:VK),Inv X pins σ H s->RelV x v->RelV y u->r x y H Q ->
  subscripted slice false v u=operate [v,u] (getItem v u)->wpAny (model X.prog X.w) X.A (subscriptTail value slice v u) (EP X pins σ Q) X.xe s
def Rz (X:Cx) (id:String) (r:V->List V->Hp->VK->Prop):Prop:=
 ∀(pins:List (Addr×Obj)) (s:Shared) (σ:St) (H:Hp) (x:V) (xs:List V) (v:Value) (us:List Value) (Q:VK),Inv X pins σ H s->RelV x v->Vals xs us->r x xs H Q ->
  wpAny (model X.prog X.w) X.A (call (.builtin id) (v::us)) (EP X pins σ Q) X.xe s
section
variable {X:Cx} {a b:Expr} {ta tb:TE} {pos:Pos}
theorem Gg.or {r r':R2} (h:Gg X r) (h':Gg X r'):Gg X (fun x y H Q=>r x y H Q\/r' x y H Q):=by
 intro value slice pins s σ H x y v u Q I rx ry q hs;rcases q with q|q
 ·exact h value slice pins s σ H x y v u Q I rx ry q hs
 ·exact h' value slice pins s σ H x y v u Q I rx ry q hs
theorem aL {r:R2} (hr:Gg X r) (ha:PE X a ta) (hb:PE X b tb) (hs:Mu b):PE X (.Subscript a b pos) (VD r ta tb):=by
 intro pins s σ H Q I h;exact Subscript_ (Ra ha hb I h fun v u s2 x y H2 I2 rx ry q=>hr a b pins s2 σ H2 x y v u Q I2 rx ry q (hs _ _))
def O8 (K:PySem.W.Frag):R2:=fun x y H Q=>∃p xs i v,x = .ref p/\y = .int i/\aY K H p xs/\rY xs i=some v/\Q v H
def O7 (K:PySem.W.Frag):R2:=fun x y H Q=>∃p xs i v,x = .ref p/\y = .int i/\cH K H p xs/\rY xs i=some v/\Q v H
def Sy:R2:=fun x y H Q=>∃z i c,x = .str z/\y = .int i/\z.length<=sizeLine/\rY z.cps.toList i=some c/\Q (.str ⟨#[c]⟩) H
theorem Ci:Gg X (O8 X.K):=by
 intro value slice pins s σ H x y v u Q I rx ry h hs;obtain ⟨p,xs,i,z,rfl,rfl,hq,he,q⟩:=h;cases rx;obtain ⟨t,rfl⟩:=ry;obtain ⟨its,r,pl,hz⟩:=I.list hq;obtain ⟨j,h1,h2,h3,h4,h5⟩:=v7 he;obtain ⟨w,ew,rw'⟩:=r.get h2;have hl:=r.length;have hn:=j_;have fin:EP X pins σ Q w s:=⟨z,H,I,rw',q⟩
 by_cases h0:0<=i
 ·have hj:i.toNat=j:=by
   rw [seqIndex_of h0 h5] at h1;exact Option.some.inj h1
  exact item_listR pl.isList h0 (by omega) (by rw [hj];simpa using ew) fin hs
 ·have hj:(i+(its.toArray.size:Int)).toNat=j:=by
   rw [seqIndex_neg (by omega) h4] at h1;rw [List.size_toArray,←hl];exact Option.some.inj h1
  exact subscriptTail_builtinR (x:=w) pl.isList.typeIs slot_list_getitem.lookup
   (wpAny_getItem_list_neg (Q:=fun r s'=>r=w/\EP X pins σ Q r s') pl.isList (by omega) (by rw [List.size_toArray]<;>omega) (by omega) (by rw [hj];simpa using ew) ⟨rfl,fin⟩) hs
theorem IW:Gg X (O7 X.K):=by
 intro value slice pins s σ H x y v u Q I rx ry h hs;obtain ⟨p,xs,i,z,rfl,rfl,hq,he,q⟩:=h;cases rx;obtain ⟨t,rfl⟩:=ry;obtain ⟨its,r,pl,hz⟩:=I.tuple hq;obtain ⟨j,h1,h2,h3,h4,h5⟩:=v7 he;obtain ⟨w,ew,rw'⟩:=r.get h2;have hl:=r.length;have hn:=j_;have fin:EP X pins σ Q w s:=⟨z,H,I,rw',q⟩
 exact subscriptTail_builtinR (x:=w) pl.typeIs slot_tuple_getitem.lookup
  (getItem_tuple (j:=j) (Q:=fun r s'=>r=w/\EP X pins σ Q r s') pl (by omega) (by omega) (by rw [List.size_toArray,←hl];exact h1) (by simpa using ew) ⟨rfl,fin⟩) hs
theorem Qo:Gg X Sy:=by
 intro value slice pins s σ H x y v u Q I rx ry h hs;obtain ⟨z,i,c,rfl,rfl,hz,he,q⟩:=h;obtain ⟨t,rfl⟩:=rx;obtain ⟨t',rfl⟩:=ry;obtain ⟨j,h1,h2,h3,h4,h5⟩:=v7 he;have hl:z.cps.toList.length=z.length:=by simp [Str.length]
 rw [hl] at h1 h4 h5;have hn:=j_
 exact tail_any (typeIs_str s z t) slot_str_getitem.lookup (getItem_str (c:=c) (by
  have e1:decide (i < -(2 ^ 63:Int))=false:=decide_eq_false (by omega);have e2:decide (i≥2 ^ 63)=false:=decide_eq_false (by omega);rw [e1,e2,Bool.or_false]) (by rw [h1];simpa using h2) ⟨.str ⟨#[c]⟩,H,I.tok _,⟨_,rfl⟩,q⟩) hs
def Yc (K:PySem.W.Frag):R2:=fun x y H Q=>O8 K x y H Q\/O7 K x y H Q\/Sy x y H Q
theorem Qp:Gg X (Yc X.K):=Ci.or (IW.or Qo)
theorem zY (its:List Value) (n j:Nat) (u:Value):Obj.mapSeq (·.setIfInBounds j u) {cls:= .type "list",data:= .seq its.toArray n}={cls:= .type "list",data:= .seq (its.set j u).toArray n}:=by
 simp [Obj.mapSeq]
theorem Inv.lst {pins:List (Addr×Obj)} {σ:St} {H:Hp} {s:Shared} {p:Addr} {xs:List V} (I:Inv X pins σ H s) (h:H p=some (.lst xs)):
 ∃(its:List Value) (n:Nat),Vals xs its/\s.heap.get? p=some {cls:= .type "list",data:= .seq its.toArray n}/\xs.length<=sizeLine:=by
 obtain ⟨z,its,n,r,e⟩:=I.hok p _ h;exact ⟨its,n,r,e,z⟩
theorem Inv.Qh {pins:List (Addr×Obj)} {σ:St} {H:Hp} {s:Shared} {p:Addr} {xs ys:List V} {its its':List Value} {n n':Nat} {f:Obj->Obj} (I:Inv X pins σ H s) (h:H p=some (.lst xs))
 (ho:s.heap.get? p=some {cls:= .type "list",data:= .seq its.toArray n}) (hf:f {cls:= .type "list",data:= .seq its.toArray n}={cls:= .type "list",data:= .seq its'.toArray n'}) (r:Vals ys its') (hz:ys.length<=sizeLine) (t:Nat):
 Inv X pins σ (upd H p (.lst ys)) {s with heap:=s.heap.update p f,toks:=t}:=by
 have e:(s.heap.update p f).get? p=some {cls:= .type "list",data:= .seq its'.toArray n'}:=by
  rw [Heap.get?_update_self f ho (by rw [hf]<;>rfl),hf]
 refine I.write (x:=p) (e:=p) (by rw [h];trivial) (.inl rfl) (fun b u hb q=>(Heap.get?_update_other _ _ (Ne.symm hb)).trans q) ⟨_,e⟩ ?_;exact ⟨hz,its',n',r,e⟩
def Sw:V->V->V->Hp->(Hp->Prop)->Prop:=fun o i v H Q=>∃p xs k j,o = .ref p/\i = .int k/\H p=some (.lst xs)/\I_ xs.length k=some j/\Q (upd H p (.lst (xs.set j v)))
theorem set_list:Ri X Sw:=by
 intro pins s σ H o i v ov iv u Q I ro ri rv h;obtain ⟨p,xs,k,j,rfl,rfl,hp,hj,q⟩:=h;cases ro;obtain ⟨t,rfl⟩:=ri;obtain ⟨its,n,r,ho,hz⟩:=I.lst hp;obtain ⟨h1,h2,h3,h4⟩:=Cj hj;have hl:=r.length;have hn:=j_
 have I':Inv X pins σ (upd H p (.lst (xs.set j v))) {s with heap:=s.heap.update p (Obj.mapSeq (·.setIfInBounds j u))}:=
  I.Qh hp ho (zY its n j u) (r.set rv j) (by rw [List.length_set];exact hz) s.toks
 by_cases h0:0<=k
 ·have hk:k.toNat=j:=by
   rw [seqIndex_of h0 h4] at h1;exact Option.some.inj h1
  exact PySem.W.ki_setAt ho h0 (by omega) (by rw [List.size_toArray,←hl];exact h4) (by rw [hk];exact ⟨_,I',q⟩)
 ·have hk:(k+(its.toArray.size:Int)).toNat=j:=by
   rw [seqIndex_neg (by omega) h3] at h1;rw [List.size_toArray,←hl];exact Option.some.inj h1
  exact PySem.W.ki_setBack ho (by omega) (by rw [List.size_toArray,←hl];exact h3) (by omega) (by rw [hk];exact ⟨_,I',q⟩)
theorem uZ (lo hi:Option Int) (n:Nat):(sliceBounds lo hi none n).1=((HT.gb n 0 lo:Nat):Int)/\(sliceBounds lo hi none n).2.1=((HT.gb n n hi:Nat):Int)/\(sliceBounds lo hi none n).2.2=1:=by
 refine ⟨?_, ?_,rfl⟩
 ·cases lo with
  | none=>simp [sliceBounds,HT.gb]
  | some i=>
    simp only [sliceBounds,HT.gb,Option.getD_none,show (1:Int)>0 by decide,if_true]
    by_cases h:i<0
    ·simp only [h,if_true]<;>omega
    ·simp only [h,if_false]<;>omega
 ·cases hi with
  | none=>simp [sliceBounds,HT.gb]
  | some i=>
    simp only [sliceBounds,HT.gb,Option.getD_none,show (1:Int)>0 by decide,if_true]
    by_cases h:i<0
    ·simp only [h,if_true]<;>omega
    ·simp only [h,if_false]<;>omega
theorem sE (its:List Value) (lo hi:Option Int):slicePick its.toArray lo hi none=((its.drop (HT.gb its.length 0 lo)).take (HT.gb its.length its.length hi - HT.gb its.length 0 lo)).toArray:=by
 obtain ⟨h1,h2,h3⟩:=uZ lo hi its.toArray.size;unfold slicePick;rw [h1,h2,h3];simp only [sliceRange_one,pick_run,List.size_toArray]<;>rfl
def Ss (K:PySem.W.Frag):V->Option Int->Option Int->Hp->VK->Prop:=fun x lo hi H Q=>∃a xs,x = .ref a/\aY K H a xs /\ ∀p,H p=none->Q (.ref p) (upd H p (.lst (iH xs lo hi)))
theorem Kq:Vk X (Ss X.K):=by
 intro pins s σ H x v vl vu lo hi sl Q I rx hs pl pu h;obtain ⟨a,xs,rfl,hx,q⟩:=h;cases rx;obtain ⟨its,r,ht,hz⟩:=I.list hx;have hlen:=r.length;refine ⟨"list",_,slot_list_getitem.lookup,ht.isList.typeIs, ?_⟩;refine wpAny_getItem_list_slice ht.isList hs pl pu .none (by simp) ?_ (by rw [List.size_toArray]<;>omega);rw [sE,←hlen];refine ⟨.ref s.heap.objs.size,_,I.laid (t':=s.toks) (o:= .lst (iH xs lo hi)) (fun b ob q=>Heap.get?_push_of_some _ q) (Nat.le_refl _) ?_,rfl,q _ (I.hok.fresh (Nat.le_refl _))⟩;exact ⟨Nat.le_trans (oR xs lo hi) hz,_,0,(r.drop (HT.gb xs.length 0 lo)).take (HT.gb xs.length xs.length hi - HT.gb xs.length 0 lo),Heap.get?_push_size _ rfl⟩
theorem vX:gW X (.builtin "len") (fun xs H Q=>∃p ys,xs=[.ref p]/\(aY X.K H p ys\/cH X.K H p ys)/\Q (.int ys.length) H):=by
 intro pins s σ H xs us Q I r h;obtain ⟨p,ys,rfl,hq,q⟩:=h;obtain ⟨u,rfl,rx⟩:=vals1 r;cases rx;have hn:=j_;rcases hq with hq|hq
 ·obtain ⟨its,r',pl,hz⟩:=I.list hq
  have hlen:=r'.length;exact Calls.call_len_list pl.isList (by simp only [List.size_toArray]<;>omega) ⟨.int ys.length,H,I.tok _,⟨s.toks+1,by rw [List.size_toArray,hlen]⟩,q⟩
 ·obtain ⟨its,r',pl,hz⟩:=I.tuple hq
  have hlen:=r'.length;exact len_tuple pl (by simp only [List.size_toArray]<;>omega) ⟨.int ys.length,H,I.tok _,⟨s.toks+1,by rw [List.size_toArray,hlen]⟩,q⟩
theorem vW:gW X (.type "list") (fun xs H Q=>∃p ys,xs=[.ref p]/\(aY X.K H p ys\/cH X.K H p ys) /\ ∀l,H l=none->Q (.ref l) (upd H l (.lst ys))):=by
 intro pins s σ H xs us Q I r h;obtain ⟨p,ys,rfl,hq,q⟩:=h;obtain ⟨u,rfl,rx⟩:=vals1 r;cases rx
 have fin:∀(its:List Value),Vals ys its->ys.length<=sizeLine -> ∀(h':Heap) (c':Nat),(∀b o',s.heap.get? b=some o'->h'.get? b=some o') ->
  h'.get? s.heap.objs.size=some {cls:= .type "list",dict:=none,data:= .seq its.toArray c',slots:= #[]}->EP X pins σ Q (.ref s.heap.objs.size) {s with heap:=h'}:=fun its r' hz h' c' kp e=>
  ⟨.ref s.heap.objs.size,_,I.laid (t':=s.toks) kp (Nat.le_refl _) (show bO X.prog X.w _ h' _ (.lst ys) from ⟨hz,its,c',r',e⟩),rfl,q _ (I.hok.fresh (Nat.le_refl _))⟩
 rcases hq with hq|hq
 ·obtain ⟨its,r',pl,hz⟩:=I.list hq
  have hlen:=r'.length;obtain ⟨o,ho,hc,n,hd⟩:=pl.isList;exact call_list_seq p (.inl rfl) ho hc hd (fun h' c' kp e=>fin its r' hz h' c' kp e) (by simp only [List.size_toArray]<;>omega)
 ·obtain ⟨its,r',pl,hz⟩:=I.tuple hq
  have hlen:=r'.length;obtain ⟨o,ho,hc,n,hd⟩:=pl;exact call_list_seq p (.inr rfl) ho hc hd (fun h' c' kp e=>fin its r' hz h' c' kp e) (by simp only [List.size_toArray]<;>omega)
def Vy (K:PySem.W.Frag) (T:String) (x:V) (H:Hp):Prop:=match x with
 | .str _=>T = "str"
 | .int _=>T = "int"
 | .ref p=>(T = "list" /\ ∃xs,aY K H p xs)\/(T = "tuple" /\ ∃o,K.lookup p=some o/\o.cls = .type "tuple" /\ o.dict=none) \/
    (T = "dict" /\ ((∃kvs,H p=some (.dK kvs)) \/ ∃kvs,H p=some (.dT kvs)))\/(T = "set" /\ ∃S n,H p=some (.set S n))
 | _=>False
theorem Gv {pins:List (Addr×Obj)} {σ:St} {H:Hp} {s:Shared} {T:String} {x:V} {v:Value} (I:Inv X pins σ H s) (r:RelV x v) (ty:Vy X.K T x H):
 s.TypeIs v T /\ ∀a,v = .ref a -> ∃ob,s.heap.get? a=some ob/\ob.dict=none:=by
 cases x with
 | str z=>
   obtain ⟨t,rfl⟩:=r;cases (show T = "str" from ty);exact ⟨typeIs_str s z t,fun _ e=>nomatch e⟩
 | int i=>
   obtain ⟨t,rfl⟩:=r;cases (show T = "int" from ty);exact ⟨typeIs_int s i t,fun _ e=>nomatch e⟩
 | ref p=>
   cases r;rcases ty with ⟨rfl,xs,hq⟩|⟨rfl,o,hk,hc,hd⟩|⟨rfl,hk⟩|⟨rfl,S,n,hk⟩
   ·obtain ⟨its,_,pl,_⟩:=I.list hq
    refine ⟨pl.isList.typeIs,fun a e=> ?_⟩;cases e;obtain ⟨o,n,e,c,hd,_⟩:=pl;exact ⟨o,e,hd⟩
   ·refine ⟨⟨o,I.xW p o hk,hc⟩,fun a e=> ?_⟩
    cases e;exact ⟨o,I.xW _ o hk,hd⟩
   ·have z:∃o,s.heap.get? p=some o/\o.ExactDict:=by
     rcases hk with ⟨kvs,hk⟩|⟨kvs,hk⟩
     ·obtain ⟨_,_,_,_,o,_,_,e,ex,_⟩:=I.hok p _ hk
      exact ⟨o,e,ex⟩
     ·obtain ⟨_,_,_,_,o,_,_,e,ex,_⟩:=I.hok p _ hk
      exact ⟨o,e,ex⟩
    obtain ⟨o,e,ex⟩:=z;refine ⟨⟨o,e,ex.1⟩,fun a e2=> ?_⟩;cases e2;exact ⟨o,e,ex.2.1⟩
   ·obtain ⟨o,_,_,_,e,ex,_⟩:=I.hok p _ hk
    refine ⟨⟨o,e,ex.1⟩,fun a e2=> ?_⟩;cases e2;exact ⟨o,e,ex.2.1⟩
 | _=>exact False.elim ty
def RW (K:PySem.W.Frag) (T:String) (r:V->List V->Hp->VK->Prop) (to:TE):TE:=fun σ H Q=>to σ H fun x H1=>Vy K T x H1/\r x [] H1 Q
def VF (K:PySem.W.Frag) (T:String) (r:V->List V->Hp->VK->Prop) (to:TE) (t:TA):TE:=fun σ H Q=>to σ H fun x H1=>Vy K T x H1/\t σ H1 fun xs H2=>r x xs H2 Q
variable {o e:Expr} {es:List Expr} {to:TE} {t:TA} {name:Str} {apos cpos:Pos} {T id:String} {r:V->List V->Hp->VK->Prop}
theorem Pr (pa:PlainAttrs T) (slot:Slot T name id) (hty:typeOf (.builtin id)=pure (.type "method_descriptor")) (hm:Rz X id r) (ho:PE X o to)
 (hbase:attributeBase o name X.env (eval o X.env)=eval o X.env:=by rfl) (hline:(apos.endLine==cpos.line)=true:=by rfl):PE X (.Call (.Attribute o name apos) [] [] cpos) (RW X.K T r to):=by
 intro pins s σ H Q I h;refine wpAny_Call_method0_late hbase hline (cC (ho pins s σ H _ I h) fun v s1 ⟨x,H1,I1,r1,ty,q1⟩=> ?_);obtain ⟨h1,h2⟩:=Gv I1 r1 ty;exact ⟨T,id,pa,slot,hty,h1,h2,Calls.callWith_builtin rfl (PySem.evalArgs_none (hm pins s1 σ H1 x [] v [] Q I1 r1 .nil q1))⟩
theorem M9 (pa:PlainAttrs T) (slot:Slot T name id) (hty:typeOf (.builtin id)=pure (.type "method_descriptor")) (hm:Rz X id r) (ho:PE X o to) (ha:PA X (e::es) t)
 (hbase:attributeBase o name X.env (eval o X.env)=eval o X.env:=by rfl)
 (hfew:((backTo cpos (starEach (e::es) X.env)).all (fun x=> !x.1)&&(backToKw cpos (keywordEach [] X.env)).all (fun x=>x.1.isSome)
   && decide ((e::es).length+([]:List Keyword).length+(if ([]:List Keyword).isEmpty then 0 else 1)<30))=true:=by rfl)
 (hline:(apos.endLine==cpos.line)=true:=by rfl) (hs:starEach (e::es) X.env=(false,eval e X.env)::starEach es X.env:=by rfl) (hplain:(backTo cpos (starEach es X.env)).any (·.1)=false:=by rfl):
 PE X (.Call (.Attribute o name apos) (e::es) [] cpos) (VF X.K T r to t):=by
 intro pins s σ H Q I h;refine wpAny_Call_method_late hbase hfew hline rfl (cC (ho pins s σ H _ I h) fun v s1 ⟨x,H1,I1,r1,ty,q1⟩=> ?_);obtain ⟨h1,h2⟩:=Gv I1 r1 ty;refine ⟨T,id,pa,slot,hty,h1,h2, ?_⟩;have hA:=ha cpos pins s1 σ H1 _ I1 q1;rw [hs] at hA ⊢;refine Calls.callWith_builtin (by show (false||(backTo cpos (starEach es X.env)).any (·.1))=false;rw [hplain]<;>rfl) (Calls.evalArgs_plain ?_);exact cC hA fun us s2 ⟨vs,H2,I2,r2,q2⟩=>hm pins s2 σ H2 x vs v us Q I2 r1 r2 q2
end
end L2
namespace L2
open PySem PySem.Spec PyProof.Rows
def W8 (X:Cx) (id:String) (r:V->List V->Hp->VK->Prop):Prop:=
 ∀(pins:List (Addr×Obj)) (s:Shared) (σ:St) (H:Hp) (x:V) (xs:List V) (v:Value) (us:List Value) (Q:VK),Inv X pins σ H s->RelV x v->Vals xs us->r x xs H Q ->
  wpAny (model X.prog X.w) X.A (call (.builtin id) (v::us)) (EP X pins σ Q) X.xe s
theorem Vals.one {x:V} {us:List Value} (h:Vals [x] us):∃u,us=[u]/\RelV x u:=by
 cases h with
 | cons r t=>cases t;exact ⟨_,rfl,r⟩
theorem Vals.two {x y:V} {us:List Value} (h:Vals [x,y] us):∃u v,us=[u,v]/\RelV x u/\RelV y v:=by
 cases h with
 | cons r t=>
   cases t with
   | cons q t=>cases t;exact ⟨_,_,rfl,r,q⟩
theorem Vals.zero:∀{us:List Value},Vals [] us->us=[]
 | _,.nil=>rfl
theorem Vals.eraseIdx:∀{xs:List V} {us:List Value} (i:Nat),Vals xs us->Vals (xs.eraseIdx i) (us.eraseIdx i)
 | _,_,_,.nil=> .nil
 | _,_,0,.cons _ t=>t
 | _,_,i+1,.cons r t=> .cons r (Vals.eraseIdx i t)
theorem tZ {α:Type}:∀(l:List α) (i:Nat),(l.eraseIdx i).length<=l.length
 | [],_=>Nat.le_refl _
 | _::_,0=>Nat.le_succ _
 | _::r,i+1=>Nat.succ_le_succ (tZ r i)
section
variable {X:Cx} {pins:List (Addr×Obj)} {σ:St} {H:Hp} {s:Shared} {l b:Addr} {xs ys zs:List V}
theorem Inv.Li {its its':List Value} {n:Nat} {f:Array Value->Array Value} {t':Nat} (I:Inv X pins σ H s) (hH:H l=some (.lst xs))
 (e:s.heap.get? l=some {cls:= .type "list",data:= .seq its.toArray n}) (hf:f its.toArray=its'.toArray) (hv:Vals ys its') (hz:ys.length<=sizeLine):
 Inv X pins σ (upd H l (.lst ys)) {s with heap:=s.heap.update l (Obj.mapSeq f),toks:=t'}:=by
 have q:=PySem.IsL.update e f;rw [hf] at q;refine I.write (x:=l) (e:=l) (by rw [hH];exact trivial) (.inl rfl) (fun b' u hb hu=>(Heap.get?_update_other s.heap (Obj.mapSeq f) (Ne.symm hb)).trans hu) ⟨_,q⟩ ?_;exact ⟨hz,its',_,hv,q⟩
theorem Inv.ZQ {its:List Value} {t':Nat} (I:Inv X pins σ H s) (hv:Vals ys its) (hz:ys.length<=sizeLine):
 Inv X pins σ (upd H s.heap.objs.size (.lst ys)) {s with heap:=s.heap.push {cls:= .type "list",data:= .seq its.toArray},toks:=t'}:=
 I.laid (fun _ _ q=>Heap.get?_push_of_some _ q) (Nat.le_refl _) ⟨hz,its,0,hv,Heap.get?_push_size _ rfl⟩
theorem Inv.fresh (I:Inv X pins σ H s):H s.heap.objs.size=none:=I.hok.fresh (Nat.le_refl _)
theorem Inv.Ej (I:Inv X pins σ H s) (hH:H l=some (.lst xs)):xs.length<=sizeLine /\ ∃(its:List Value) (n:Nat),Vals xs its/\xs.length=its.length/\s.heap.get? l=some {cls:= .type "list",data:= .seq its.toArray n}:=by
 obtain ⟨z,its,n,r,e⟩:=I.hok l _ hH;exact ⟨z,its,n,r,r.length,e⟩
end
section
variable {X:Cx}
def Bs:V->List V->Hp->VK->Prop:=fun x vs H Q=>∃l xs y,x = .ref l/\vs=[y]/\H l=some (.lst xs)/\xs.length<sizeLine/\Q .non (upd H l (.lst (xs++[y])))
theorem tY:W8 X "list.append" Bs:=by
 intro pins s σ H x vs v us Q I rx rv h;obtain ⟨l,xs,y,rfl,rfl,hH,hz,q⟩:=h;cases rx;obtain ⟨u,rfl,ru⟩:=rv.one;obtain ⟨z,its,n,r,hl,e⟩:=I.Ej hH;refine call_meets F.slot_list_append ⟨_,e,rfl⟩ F.entry_list_append (F.args_list_append_2 _ _) (PySem.list_append l its.toArray n u (by rw [List.size_toArray];omega)) ⟨e, ?_⟩;refine ⟨.non,_,I.Li (its':=its++[u]) hH e (by simp) (r.append (.cons ru .nil)) ?_,rfl,q⟩;rw [List.length_append,List.length_singleton];omega
def O6:V->List V->Hp->VK->Prop:=fun x vs H Q=>∃l xs i k y,x = .ref l/\vs=[.int i]/\H l=some (.lst xs) /\ -(2 ^ 63)<=i/\i<2 ^ 63/\seqIndex? i xs.length=some k/\xs[k]? = some y/\Q y (upd H l (.lst (xs.eraseIdx k)))
theorem Ie:W8 X "list.pop" O6:=by
 intro pins s σ H x vs v us Q I rx rv h;obtain ⟨l,xs,i,k,y,rfl,rfl,hH,h1,h2,hk,hy,q⟩:=h;cases rx;obtain ⟨u,rfl,ru⟩:=rv.one;obtain ⟨t,rfl⟩:=ru;obtain ⟨z,its,n,r,hl,e⟩:=I.Ej hH;obtain ⟨w,hw,rw'⟩:=r.get hy
 refine call_meets F.slot_list_pop ⟨_,e,rfl⟩ F.entry_list_pop (F.args_list_pop_2 _ _)
  (MeetsSeq.list_pop_at l its.toArray n i t k w (fitsIndex_both h1 h2) (by rw [List.size_toArray,←hl];exact hk) (by rw [←Array.getElem?_toList];exact hw) (by rw [List.size_toArray];omega)) ⟨e, ?_⟩
 refine ⟨y,_,I.Li (its':=its.eraseIdx k) hH e ?_ (r.eraseIdx k) ?_,rw',q⟩
 ·show its.toArray.eraseIdxIfInBounds k=(its.eraseIdx k).toArray
  rw [List.eraseIdxIfInBounds_toArray]
 ·have:=tZ xs k
  omega
def Pb:V->List V->Hp->VK->Prop:=fun x vs H Q=>∃l xs,x = .ref l/\vs=[]/\H l=some (.lst xs)/\Q .non (upd H l (.lst []))
theorem Ih:W8 X "list.clear" Pb:=by
 intro pins s σ H x vs v us Q I rx rv h;obtain ⟨l,xs,rfl,rfl,hH,q⟩:=h;cases rx;have hus:=rv.zero;subst hus;obtain ⟨z,its,n,r,hl,e⟩:=I.Ej hH;refine call_meets F.slot_list_clear ⟨_,e,rfl⟩ F.entry_list_clear (F.args_list_clear_1 _) (AutoSeq1.list_clear_list_0 l its.toArray n (by rw [List.size_toArray];omega)) ⟨e, ?_⟩;exact ⟨.non,_,I.Li (its':=[]) (ys:=[]) hH e rfl .nil (Nat.zero_le _),rfl,q⟩
def Ye:R2:=fun x y H Q=>∃l b xs zs,x = .ref l/\y = .ref b/\H l=some (.lst xs)/\H b=some (.lst zs)/\xs.length+zs.length<=sizeLine /\ ∀p,H p=none->Q (.ref p) (upd H p (.lst (xs++zs)))
theorem HF:lV X (binaryOp .Add) Ye:=by
 intro pins s σ H x y v u Q I rx ry h;obtain ⟨l,b,xs,zs,rfl,rfl,hH,hB,hz,q⟩:=h;cases rx;cases ry;obtain ⟨z,its,n,r,hl,e⟩:=I.Ej hH;obtain ⟨z2,its2,n2,r2,hl2,e2⟩:=I.Ej hB;refine PySem.P.add_list e e2 ?_ (by rw [List.size_toArray,List.size_toArray];omega);have ea:its.toArray++its2.toArray=(its++its2).toArray:=by simp
 rw [ea];exact ⟨.ref _,_,I.ZQ (t':=s.toks) (r.append r2) (by rw [List.length_append];omega),rfl,q _ I.fresh⟩
end
section
variable {prog:Program} {w:World} {A:Around} {E:Value->Shared->Prop} {s:Shared}
end
section
variable {X:Cx}
end
end L2
namespace L2
open PySem PySem.Spec PyProof.Rows
section
variable {κ:Type} [DecidableEq κ]
def bW (kvs:List (κ×V)) (k:κ):Option V:=(kvs.find? fun kv=>decide (kv.1=k)).map (·.2)
def putK (kvs:List (κ×V)) (k:κ) (v:V):List (κ×V):=
 if (kvs.any fun kv=>decide (kv.1=k))=true then kvs.map (fun kv=>if kv.1=k then (kv.1,v) else kv) else kvs++[(k,v)]
theorem cR {p:κ×V} {r:List (κ×V)} {k:κ} (e:p.1=k):bW (p::r) k=some p.2:=by simp [bW,List.find?_cons,e]
theorem cJ {p:κ×V} {r:List (κ×V)} {k:κ} (e:¬p.1=k):bW (p::r) k=bW r k:=by simp [bW,List.find?_cons,e]
theorem jd (k:κ):∀kvs:List (κ×V),(kvs.any fun kv=>decide (kv.1=k))=(bW kvs k).isSome
 | []=>rfl
 | p::r=>by
   rw [List.any_cons]
   by_cases e:p.1=k
   ·simp only [cR e,decide_eq_true e,Bool.true_or,Option.isSome_some]
   ·rw [cJ e,decide_eq_false e,Bool.false_or];exact jd k r
theorem wF (k j:κ) (y:V):∀kvs:List (κ×V),bW (kvs.map fun kv=>if kv.1=k then (kv.1,y) else kv) j=(bW kvs j).map fun x=>if j=k then y else x
 | []=>rfl
 | p::r=>by
   have ih:=wF k j y r;rw [List.map_cons]
   by_cases h:p.1=k
   ·rw [if_pos h]
    by_cases e:p.1=j
    ·rw [cR (p:=(p.1,y)) e,cR e,Option.map_some,if_pos (e.symm.trans h)]
    ·rw [cJ (p:=(p.1,y)) e,cJ e,ih]
   ·rw [if_neg h]
    by_cases e:p.1=j
    ·rw [cR (p:=p) e,cR e,Option.map_some,if_neg (fun z=>h (e.trans z))]
    ·rw [cJ (p:=p) e,cJ e,ih]
theorem tE (k j:κ) (y:V):∀kvs:List (κ×V),bW kvs k=none->bW (kvs++[(k,y)]) j=if j=k then some y else bW kvs j
 | [],_=>by
   by_cases e:k=j
   ·rw [if_pos e.symm];exact cR (p:=(k,y)) e
   ·rw [if_neg (fun z=>e z.symm)];exact cJ (p:=(k,y)) e
 | p::r,hn=>by
   rw [List.cons_append];have hk:¬p.1=k:=fun z=>by rw [cR z] at hn;cases hn
   rw [cJ hk] at hn;have ih:=tE k j y r hn
   by_cases e:p.1=j
   ·rw [cR e,cR e,if_neg (fun z=>hk (e.trans z))]
   ·rw [cJ e,cJ e,ih]
theorem jc (kvs:List (κ×V)) (k j:κ) (y:V):bW (putK kvs k y) j=if j=k then some y else bW kvs j:=by
 unfold putK
 by_cases a:(kvs.any fun kv=>decide (kv.1=k))=true
 ·rw [if_pos a,wF]
  rw [jd] at a
  by_cases e:j=k
  ·obtain ⟨x,hx⟩:=Option.isSome_iff_exists.mp a
   rw [if_pos e,e,hx,Option.map_some,if_pos rfl]
  ·rw [if_neg e]
   cases bW kvs j with
   | none=>rfl
   | some x=>rw [Option.map_some,if_neg e]
 ·rw [if_neg a]
  refine tE k j y kvs ?_;rw [jd] at a;cases q:bW kvs k with
  | none=>rfl
  | some x=>rw [q] at a;exact (a rfl).elim
theorem dW (kvs:List (κ×V)) (k:κ) (v:V):(putK kvs k v).length<=kvs.length+1:=by
 unfold putK;split
 ·rw [List.length_map];omega
 ·rw [List.length_append,List.length_cons,List.length_nil];omega
theorem Hf {kvs:List (κ×V)} {k:κ} (v:V) (h:bW kvs k=none):putK kvs k v=kvs++[(k,v)]:=by
 unfold putK;rw [jd,h];exact if_neg (by decide)
theorem mH.nZ {o:Option V} {u:Option Value} (r:mH o u):o.isSome=u.isSome:=by
 cases o with
 | none=>cases u with
   | none=>rfl
   | some _=>exact (show False from r).elim
 | some _=>cases u with
   | none=>exact (show False from r).elim
   | some _=>rfl
theorem mH.getD {o:Option V} {u:Option Value} {d:V} {d':Value} (r:mH o u) (rd:RelV d d'):RelV (o.getD d) (u.getD d'):=by
 cases o with
 | none=>cases u with
   | none=>exact rd
   | some _=>exact (show False from r).elim
 | some _=>cases u with
   | none=>exact (show False from r).elim
   | some _=>exact r
theorem KV.val {kvs:List (κ×V)} {vs:List (κ×Value)} (r:KV kvs vs) (k:κ):mH (bW kvs k) (valueAt vs k):=by
 unfold KV at r
 induction r with
 | nil=>exact True.intro
 | @cons p q ps qs h t ih=>
   obtain ⟨h1,h2⟩:=h
   by_cases e:p.1=k
   ·have e':q.1=k:=h1.symm.trans e
    have b:valueAt (q::qs) k=some q.2:=by simp [valueAt,List.find?_cons,e']
    rw [cR e,b];exact h2
   ·have e':¬q.1=k:=fun z=>e (h1.trans z)
    have b:valueAt (q::qs) k=valueAt qs k:=by simp [valueAt,List.find?_cons,e']
    rw [cJ e,b];exact ih
theorem KV.any {kvs:List (κ×V)} {vs:List (κ×Value)} (r:KV kvs vs) (k:κ):(kvs.any fun kv=>decide (kv.1=k))=vs.any fun kv=>decide (kv.1=k):=by
 unfold KV at r
 induction r with
 | nil=>rfl
 | cons h t ih=>rw [List.any_cons,List.any_cons,ih,h.1]
theorem KV.repl {kvs:List (κ×V)} {vs:List (κ×Value)} (r:KV kvs vs) (k:κ) {y:V} {u:Value} (ry:RelV y u):
 KV (kvs.map fun kv=>if kv.1=k then (kv.1,y) else kv) (vs.map fun kv=>if kv.1=k then (kv.1,u) else kv):=by
 unfold KV at r ⊢
 induction r with
 | nil=>exact .nil
 | @cons p q ps qs h t ih=>
   rw [List.map_cons,List.map_cons];refine .cons ?_ ih;obtain ⟨h1,h2⟩:=h
   by_cases e:p.1=k
   ·rw [if_pos e,if_pos (h1.symm.trans e)];exact ⟨h1,ry⟩
   ·rw [if_neg e,if_neg (fun z=>e (h1.trans z))];exact ⟨h1,h2⟩
theorem KV.put {kvs:List (κ×V)} {vs:List (κ×Value)} (r:KV kvs vs) (k:κ) {y:V} {u:Value} (ry:RelV y u):KV (putK kvs k y) (stored vs k u):=by
 unfold putK stored;rw [r.any k]
 by_cases e:(vs.any fun kv=>decide (kv.1=k))=true
 ·rw [if_pos e,if_pos e];exact r.repl k ry
 ·rw [if_neg e,if_neg e];exact Paired.snoc r ⟨rfl,ry⟩
theorem KV.length {kvs:List (κ×V)} {vs:List (κ×Value)} (r:KV kvs vs):kvs.length=vs.length:=Paired.length r
end
theorem qK {P:Program} {w:World} {k:Key} {u:Value} (r:RelV (kV k) u):(bB P w).is k u=true:=by
 cases k with
 | inl i=>obtain ⟨t,e⟩:=(show ∃t,u=Value.int i t from r);subst e;exact xJ P w i t
 | inr x=>obtain ⟨t,e⟩:=(show ∃t,u=Value.str x t from r);subst e;exact xH P w x t
theorem uh {P:Program} {w:World}:∀{ks:List Key} {us:List Value},Vals (ks.map kV) us->ItemsAre (bB P w) ks us
 | [],_,r=>by rw [List.map_nil] at r;cases r;exact .nil
 | k::ks,_,r=>by
   rw [List.map_cons] at r;cases r with
   | cons h t=>exact .cons (qK h) (uh t)
abbrev KT (H:Hp):List (List Key×V)->List (List Key×Addr×Value)->Prop:=Paired fun p q=>p.1=q.1/\H q.2.1=some (.tup (p.1.map kV))/\RelV p.2 q.2.2
theorem KT.val {H:Hp} {kvs:List (List Key×V)} {xs:List (List Key×Addr×Value)} (r:KT H kvs xs) (k:List Key):mH (bW kvs k) ((atKey xs k).map (·.2)):=by
 induction r with
 | nil=>exact True.intro
 | @cons p q ps qs h t ih=>
   obtain ⟨h1,_,h2⟩:=h
   by_cases e:p.1=k
   ·have e':q.1=k:=h1.symm.trans e
    have b:atKey (q::qs) k=some q.2:=by simp [atKey,List.find?_cons,e']
    rw [cR e,b];exact h2
   ·have e':¬q.1=k:=fun z=>e (h1.trans z)
    have b:atKey (q::qs) k=atKey qs k:=by simp [atKey,List.find?_cons,e']
    rw [cJ e,b];exact ih
theorem KT.repl {H:Hp} {kvs:List (List Key×V)} {xs:List (List Key×Addr×Value)} (r:KT H kvs xs) (k:List Key) {y:V} {u:Value} (ry:RelV y u):
 KT H (kvs.map fun kv=>if kv.1=k then (kv.1,y) else kv) (xs.map (putAt k u)):=by
 induction r with
 | nil=>exact .nil
 | @cons p q ps qs h t ih=>
   rw [List.map_cons,List.map_cons];refine .cons ?_ ih;obtain ⟨h1,h2,h3⟩:=h;unfold putAt
   by_cases e:p.1=k
   ·rw [if_pos e,if_pos (h1.symm.trans e)];exact ⟨h1,h2,ry⟩
   ·rw [if_neg e,if_neg (fun z=>e (h1.trans z))];exact ⟨h1,h2,h3⟩
theorem KT.put {H:Hp} {kvs:List (List Key×V)} {xs:List (List Key×Addr×Value)} (r:KT H kvs xs) (k:List Key) {b:Addr} {y:V} {u:Value} (hb:H b=some (.tup (k.map kV))) (ry:RelV y u):
 KT H (putK kvs k y) (storedH xs k b u):=by
 have e:(kvs.any fun kv=>decide (kv.1=k))=(atKey xs k).isSome:=by
  rw [jd,(r.val k).nZ,Option.isSome_map]
 unfold putK storedH;rw [e]
 by_cases q:(atKey xs k).isSome=true
 ·rw [if_pos q,if_pos q];exact r.repl k ry
 ·rw [if_neg q,if_neg q];exact Paired.snoc r ⟨rfl,hb,ry⟩
theorem KT.keeps {H H':Hp} {kvs:List (List Key×V)} {xs:List (List Key×Addr×Value)} (r:KT H kvs xs) (ht:∀b ys,H b=some (.tup ys)->H' b=some (.tup ys)):KT H' kvs xs:=
 Paired.Qg r fun _ _ z=>⟨z.1,ht _ _ z.2.1,z.2.2⟩
section
variable {P:Program} {w:World} {H:Hp} {h:Heap} {a:Addr}
theorem M7 {u:HO} (ok:kW P w H h) (e:Rd H a u):bO P w H h a u:=e.ok ok
theorem qU {kvs:List (Key×V)} (ok:kW P w H h) (e:Rd H a (.dK kvs)):kvs.length<=sizeLine/\(a==sysModules)=false /\ ∃vs,KV kvs vs/\h.DictOf (bB P w) a vs:=
 show bO P w H h a (.dK kvs) from M7 ok e
theorem Nq {kvs:List (Key×V)} (ok:kW P w H h) (e:H a=some (.dK kvs)):kvs.length<=sizeLine/\(a==sysModules)=false /\ ∃vs,KV kvs vs/\h.DictOf (bB P w) a vs:=qU ok (.inl e)
theorem iY {ks:List Key} (ok:kW P w H h) (e:H a=some (.tup (ks.map kV))):(tupleKind (bB P w)).is h ks a:=by
 obtain ⟨_,its,r,o,h1,h2,n,h3⟩:=(show bO P w H h a (.tup (ks.map kV)) from ok a _ e);exact ⟨o,its.toArray,n,h1,h2,h3,by simpa using uh r⟩
theorem qR {kvs:List (List Key×V)} (ok:kW P w H h) (e:Rd H a (.dT kvs)):kvs.length<=sizeLine/\(a==sysModules)=false /\
 ∃xs,KT H kvs xs/\h.DictOfH (tupleKind (bB P w)) a xs:=by
 obtain ⟨z,y,xs,r,o,es,ep,h1,h2,h3,h4,h5⟩:=(show bO P w H h a (.dT kvs) from M7 ok e);refine ⟨z,y,xs,r,o,es,ep,h1,h2,h3,h4,fun x hx=> ?_,h5⟩
 have all:∀{l:List (List Key×V)} {m:List (List Key×Addr×Value)},KT H l m -> ∀x∈m,(tupleKind (bB P w)).is h x.1 x.2.1:=by
  intro l m q
  induction q with
  | nil=>intro x hx;exact nomatch hx
  | @cons p q ps qs hq t ih=>
    intro x hx;rcases List.mem_cons.mp hx with e|hx
    ·subst e
     exact iY ok (by rw [←hq.1];exact hq.2.1)
    ·exact ih x hx
 exact all r x hx
theorem Jp {kvs:List (List Key×V)} (ok:kW P w H h) (e:H a=some (.dT kvs)):kvs.length<=sizeLine/\(a==sysModules)=false /\
 ∃xs,KT H kvs xs/\h.DictOfH (tupleKind (bB P w)) a xs:=qR ok (.inl e)
end
def gK (H:Hp) (a:Addr) (y:V) (r:Option V):Prop:=
 (∃kvs k,Rd H a (.dK kvs)/\y=kV k/\r=bW kvs k) \/ ∃kvs k b,Rd H a (.dT kvs)/\y = .ref b/\H b=some (.tup (k.map kV))/\r=bW kvs k
def rQ (H:Hp) (a:Addr) (y v:V) (H':Hp):Prop:=
 (∃kvs k,H a=some (.dK kvs)/\y=kV k/\kvs.length<sizeLine/\H'=upd H a (.dK (putK kvs k v))) \/
 ∃kvs k b,H a=some (.dT kvs)/\y = .ref b/\H b=some (.tup (k.map kV))/\kvs.length<sizeLine/\H'=upd H a (.dT (putK kvs k v))
theorem gK.k {H:Hp} {a:Addr} {kvs:List (Key×V)} {k:Key} (e:H a=some (.dK kvs)):gK H a (kV k) (bW kvs k):= .inl ⟨kvs,k,.inl e,rfl,rfl⟩
theorem gK.t {H:Hp} {a b:Addr} {kvs:List (List Key×V)} {k:List Key} (e:H a=some (.dT kvs)) (eb:H b=some (.tup (k.map kV))):gK H a (.ref b) (bW kvs k):= .inr ⟨kvs,k,b,.inl e,rfl,eb,rfl⟩
theorem rQ.k {H:Hp} {a:Addr} {kvs:List (Key×V)} {k:Key} {v:V} (e:H a=some (.dK kvs)) (hl:kvs.length<sizeLine):rQ H a (kV k) v (upd H a (.dK (putK kvs k v))):= .inl ⟨kvs,k,e,rfl,hl,rfl⟩
theorem rQ.t {H:Hp} {a b:Addr} {kvs:List (List Key×V)} {k:List Key} {v:V} (e:H a=some (.dT kvs)) (eb:H b=some (.tup (k.map kV))) (hl:kvs.length<sizeLine):
 rQ H a (.ref b) v (upd H a (.dT (putK kvs k v))):= .inr ⟨kvs,k,b,e,rfl,eb,hl,rfl⟩
section
variable {X:Cx} {pins:List (Addr×Obj)} {σ:St} {H:Hp} {s:Shared} {a:Addr} {y v:V} {u r:Value} {o:Option V} {A:Around} {E:Value->Shared->Prop}
theorem Inv.big (I:Inv X pins σ H s):sysModules<s.heap.objs.size:=by
 have h:mainGlobals<s.heap.objs.size:=(I.mod.glob.keeps I.bk).lt;exact Nat.lt_trans (by decide) h
theorem Fo {Q:Value->Shared->Prop} (hu:A.units+1<cLine) (I:Inv X pins σ H s) (g:gK H a y (some v)) (ry:RelV y u) (h:∀w' s',Inv X pins σ H s'->RelV v w'->Q w' s'):
 wpAny (model X.prog X.w) A (getItem (.ref a) u) Q E s:=by
 rcases g with ⟨kvs,k,e,ey,l⟩|⟨kvs,k,b,e,ey,eb,l⟩
 ·subst ey
  obtain ⟨z,hd,vs,rel,dd⟩:=qU I.hok e;obtain ⟨w',hw,rw'⟩:=mH.some_of (v:=v) (o:=valueAt vs k) (by rw [l];exact rel.val k);exact wpAny_getItem_of (qK ry) dd.mapOf hw (h w' _ (I.tok _) rw')
 ·subst ey
  cases (show u=Value.ref b from ry);obtain ⟨z,hd,xs,rel,dd⟩:=qR I.hok e;obtain ⟨w',hw,rw'⟩:=mH.some_of (v:=v) (o:=(atKey xs k).map (·.2)) (by rw [l];exact rel.val k);obtain ⟨p,hp,hp2⟩:=Option.map_eq_some_iff.mp hw;refine wpAny_getItem_heap (tupleKind_room_in1 hu) (iY I.hok eb) dd hp ?_;rw [hp2];exact h w' _ (I.tok _) rw'
theorem Mh {Q:Value->Shared->Prop} (hu:A.units+1<cLine) (I:Inv X pins σ H s) (g:gK H a y o) (ry:RelV y u) (h:∀s',Inv X pins σ H s'->Q (.bool (!o.isSome)) s'):
 wpAny (model X.prog X.w) A (compareOp .NotIn u (.ref a)) Q E s:=by
 rcases g with ⟨kvs,k,e,ey,l⟩|⟨kvs,k,b,e,ey,eb,l⟩
 ·subst ey
  obtain ⟨z,hd,vs,rel,dd⟩:=qU I.hok e;refine wpAny_notIn_of (qK ry) hd dd.mapOf ?_;rw [←(rel.val k).nZ,←l];exact h _ (I.tok _)
 ·subst ey
  cases (show u=Value.ref b from ry);obtain ⟨z,hd,xs,rel,dd⟩:=qR I.hok e;refine wpAny_notIn_heap (tupleKind_room_in1 hu) (iY I.hok eb) hd dd ?_;have q:=(rel.val k).nZ;rw [Option.isSome_map] at q;rw [←q,←l];exact h _ (I.tok _)
theorem m_ {h':Heap} {t':Nat} {ob:HO} (I:Inv X pins σ H s) (mu:Vr (H a)) (hs:Heap.SameBut a s.heap h') (he:∃q,h'.get? a=some q) (new:bO X.prog X.w (upd H a ob) h' a ob):
 Inv X pins σ (upd H a ob) {s with heap:=h',toks:=t'}:=
 I.write (x:=a) (e:=a) mu (.inl rfl) (fun b q hb z=>(hs.2 b hb).trans z) he new
theorem QX {P:Program} {w:World} {H':Hp} {h':Heap} {kvs:List (Key×V)} {vs:List (Key×Value)} (z:kvs.length<=sizeLine) (hd:(a==sysModules)=false) (rel:KV kvs vs) (dd:h'.DictOf (bB P w) a vs):
 bO P w H' h' a (.dK kvs):=⟨z,hd,vs,rel,dd⟩
theorem Fl {H':Hp} {Q:Unit->Shared->Prop} (hu:A.units+1<cLine) (I:Inv X pins σ H s) (g:rQ H a y v H') (ry:RelV y u) (rv:RelV v r) (h:∀s',Inv X pins σ H' s'->Q () s'):
 wpAny (model X.prog X.w) A (setItem (.ref a) u r) Q E s:=by
 rcases g with ⟨kvs,k,e,ey,l,eH⟩|⟨kvs,k,b,e,ey,eb,l,eH⟩
 ·subst ey eH
  obtain ⟨z,hd,vs,rel,dd⟩:=Nq I.hok e;have hz:vs.length<=sizeLine:=by rw [←rel.length];exact z
  have hl:(putK kvs k v).length<=sizeLine:=by have:=dW kvs k v;omega
  refine wpAny_setItem_pairs (hsz:=hz) (qK ry) dd fun h' Nr hs=>h _ ?_;have he:∃q,h'.get? a=some q:=let ⟨q,_,_,hq,_⟩:=Nr;⟨q,hq⟩
  exact m_ I (by rw [e];exact True.intro) hs he (QX hl hd (rel.put k rv) Nr)
 ·subst ey eH
  cases (show u=Value.ref b from ry);obtain ⟨z,hd,xs,rel,dd⟩:=Jp I.hok e;have hz:xs.length<=sizeLine:=by rw [←Paired.length rel];exact z
  have hl:(putK kvs k v).length<=sizeLine:=by have:=dW kvs k v;omega
  refine wpAny_setItem_heap (hsz:=hz) (tupleKind_room_in1 hu) (iY I.hok eb) dd fun h' Nr hs=>h _ ?_;obtain ⟨q,es,ep,hq,h2,h3,h4,_,h5⟩:=Nr;refine m_ I (by rw [e];exact True.intro) hs ⟨q,hq⟩ ⟨hl,hd,_,(rel.put k eb rv).keeps fun c ys ec=> ?_,q,es,ep,hq,h2,h3,h4,h5⟩;rw [bA (lO ec e (fun z=>nomatch z))];exact ec
end
section
variable {X:Cx} {pins:List (Addr×Obj)} {σ:St} {H:Hp} {s:Shared} {a:Addr} {kvs:List (Key×V)} {k:Key} {u:Value} {A:Around} {E:Value->Shared->Prop}
end
def Vp (i:Expr):Prop:=∀ov iv,subscripted i false ov iv=operate [ov,iv] (getItem ov iv)
theorem Kf {prog:Program} {w:World} {A:Around} {E:Value->Shared->Prop} {s:Shared} {env:Env} {value slice:Expr} {pos:Pos} {T id:String} {Q:Value->Shared->Prop}
 (hl:typeLookup (.type T) "__getitem__" = pure (some (.builtin id))) (hs:Vp slice)
 (h:wpAny (model prog w) A (eval value env) (fun o s₁=>wpAny (model prog w) A (eval slice env) (fun i s₂=>s₂.TypeIs o T/\wpAny (model prog w) A (getItem o i) Q E s₂) E s₁) E s):
 wpAny (model prog w) A (eval (.Subscript value slice pos) env) Q E s:=by
 refine Subscript_ (wpAny_mono h (fun o s₁ h₁=>wpAny_mono h₁ (fun i s₂ h₂=> ?_) fun _ _ x=>x) fun _ _ x=>x);obtain ⟨hT,h₂⟩:=h₂;unfold subscriptTail;refine wpAny_bind ?_;rw [getitemInPython_of_ne hT.not_modules];refine wpAny_bind (wpAny_specialOf hT hl ?_)
 have fin:wpAny (model prog w) A (subscripted slice false o i) (fun r s₃=>wpAny (model prog w) A (letTemporaryGo value o r >>= fun _=>pure r) Q E s₃) E s₂:=by
  rw [hs o i];exact wpAny_operating (wpAny_mono h₂ (fun r s₃ h₃=>wpAny_bind (wpAny_letTemporaryGo (wpAny_pure h₃))) fun _ _ x=>x)
 first
  | exact wpAny_pure (wpAny_bind fin)
  | exact wpAny_bind (wpAny_pure (wpAny_bind fin))
  | exact wpAny_bind fin
theorem yr {X:Cx} {pins:List (Addr×Obj)} {σ:St} {H:Hp} {s:Shared} {a:Addr} {y:V} {o:Option V} (I:Inv X pins σ H s) (g:gK H a y o):s.TypeIs (.ref a) "dict" :=by
 rcases g with ⟨kvs,k,e,_,_⟩|⟨kvs,k,b,e,_,_,_⟩
 ·obtain ⟨_,_,vs,_,dd⟩:=qU I.hok e
  exact dd.typeIs
 ·obtain ⟨_,_,xs,_,dd⟩:=qR I.hok e
  exact dd.typeIs
def RT (td ty:TE):TE:=fun σ H Q=>td σ H fun x H1=>ty σ H1 fun y H2=>∃a v,x = .ref a/\gK H2 a y (some v)/\Q v H2
def Kc (ty td:TE):TE:=fun σ H Q=>ty σ H fun y H1=>td σ H1 fun x H2=>∃a o,x = .ref a/\gK H2 a y o/\Q (.bl (!o.isSome)) H2
def Sg (td ty tv:TE):TS:=fun D σ H=>tv σ H fun v H1=>td σ H1 fun x H2=>ty σ H2 fun y H3=>∃a H4,x = .ref a/\rQ H3 a y v H4/\D.nx σ H4
section
variable {X:Cx} {o i e value:Expr} {pos pos' tpos:Pos} {td ty tv:TE}
theorem iJ (hu:X.A.units+1<cLine) (ho:PE X o td) (hi:PE X i ty) (hs:Vp i):PE X (.Subscript o i pos) (RT td ty):=by
 intro pins s σ H Q I h;refine Kf PySem.F.slot_dict_getitem.lookup hs (cC (ho pins s σ H _ I h) fun u s1 ⟨x,H1,I1,rx,q1⟩=>cC (hi pins s1 σ H1 _ I1 q1) fun iv s2 ⟨y,H2,I2,ry,a,v,ex,g,q2⟩=> ?_);subst ex;obtain rfl:u=Value.ref a:=rx;exact ⟨yr I2 g,Fo hu I2 g ry fun w' s3 I3 rw'=>⟨v,H2,I3,rw',q2⟩⟩
theorem tW (hu:X.A.units+1<cLine) (hi:PE X i ty) (ho:PE X o td):PC X .NotIn i o (Kc ty td):=by
 intro pins s σ H Q I h;refine cC (hi pins s σ H _ I h) fun iv s1 ⟨y,H1,I1,ry,q1⟩=>cC (ho pins s1 σ H1 _ I1 q1) fun u s2 ⟨x,H2,I2,rx,a,ov,ex,g,q2⟩=> ?_;subst ex;obtain rfl:u=Value.ref a:=rx;exact Mh hu I2 g ry fun s3 I3=>⟨.bl (!ov.isSome),H2,I3,rfl,q2⟩
theorem o_ (hu:X.A.units+1<cLine) (ho:PE X o td) (hi:PE X i ty) (hv:PE X value tv) (hs:swapsWith value (some (.Subscript o i pos')) pos.line X.env=pure false):
 PS X (.Assign [.Subscript o i pos'] value pos) (Sg td ty tv):=by
 intro pins s σ H D I h;refine wpAny_Assign_Subscript (cC (hv pins s σ H _ I h) fun r s1 ⟨v,H1,I1,rv,q1⟩=>cC (ho pins s1 σ H1 _ I1 q1) fun u s2 ⟨x,H2,I2,rx,q2⟩=>cC (hi pins s2 σ H2 _ I2 q2) fun iv s3 ⟨y,H3,I3,ry,a,H4,ex,g,q3⟩=> ?_) hs;subst ex;obtain rfl:u=Value.ref a:=rx;exact Fl hu I3 g ry rv fun s4 I4=>⟨σ,H4,I4,q3⟩
end
theorem yq {P:Program} {w:World} {H:Hp} (h:Heap) (hb:sysModules<h.objs.size):bO P w H (h.push {cls:= .type "dict",data:= .dict #[]}) h.objs.size (.dK []):=
 ⟨Nat.zero_le _,beq_eq_false_iff_ne.mpr (Ne.symm (Nat.ne_of_lt hb)),[],.nil,Heap.DictOf.new h⟩
theorem yj {P:Program} {w:World} {H:Hp} (h:Heap) (hb:sysModules<h.objs.size):bO P w H (h.push {cls:= .type "dict",data:= .dict #[]}) h.objs.size (.dT []):=
 ⟨Nat.zero_le _,beq_eq_false_iff_ne.mpr (Ne.symm (Nat.ne_of_lt hb)),[],.nil,_, #[],0,Heap.get?_push_size _ rfl,⟨rfl,rfl,rfl⟩,rfl,rfl,List.nodup_nil⟩
def Oh:TE:=fun _ H Q=>∀p,H p=none->Q (.ref p) (upd H p (.dK []))
def Og:TE:=fun _ H Q=>∀p,H p=none->Q (.ref p) (upd H p (.dT []))
section
variable {X:Cx} {pos:Pos}
theorem wX:PE X (.Dict [] [] pos) Oh:=fun pins s σ H Q I h=>
 wpAny_Dict_empty ⟨.ref s.heap.objs.size,_,I.laid (a:=s.heap.objs.size) (o:= .dK []) (t':=s.toks) (fun _ _ q=>Heap.get?_push_of_some _ q) (Nat.le_refl _) (yq s.heap I.big),rfl,h _ (I.hok.fresh (Nat.le_refl _))⟩
theorem wW:PE X (.Dict [] [] pos) Og:=fun pins s σ H Q I h=>
 wpAny_Dict_empty ⟨.ref s.heap.objs.size,_,I.laid (a:=s.heap.objs.size) (o:= .dT []) (t':=s.toks) (fun _ _ q=>Heap.get?_push_of_some _ q) (Nat.le_refl _) (yj s.heap I.big),rfl,h _ (I.hok.fresh (Nat.le_refl _))⟩
end
structure M1 (X:Cx) (o:Expr) (m:Str) (apos:Pos) (e:Expr) (cpos:Pos):Prop where
 base:attributeBase o m X.env (eval o X.env)=eval o X.env
 few:((backTo cpos (starEach [e] X.env)).all (fun x=> !x.1)&&(backToKw cpos (keywordEach [] X.env)).all (fun x=>x.1.isSome)
  && decide (([e]:List Expr).length+([]:List Keyword).length+(if ([]:List Keyword).isEmpty then 0 else 1)<30))=true
 line:(apos.endLine==cpos.line)=true
 trees:backTo cpos (starEach [e] X.env)=[(false,eval e X.env)]
structure M2 (X:Cx) (o:Expr) (m:Str) (apos:Pos) (e f:Expr) (cpos:Pos):Prop where
 base:attributeBase o m X.env (eval o X.env)=eval o X.env
 few:((backTo cpos (starEach [e,f] X.env)).all (fun x=> !x.1)&&(backToKw cpos (keywordEach [] X.env)).all (fun x=>x.1.isSome)
  && decide (([e,f]:List Expr).length+([]:List Keyword).length+(if ([]:List Keyword).isEmpty then 0 else 1)<30))=true
 line:(apos.endLine==cpos.line)=true
 trees:backTo cpos (starEach [e,f] X.env)=[(false,eval e X.env),(false,eval f X.env)]
def Xa (H:Hp) (a:Addr):Prop:=(∃kvs,Rd H a (.dK kvs)) \/ ∃kvs,Rd H a (.dT kvs)
theorem z8 {X:Cx} {pins:List (Addr×Obj)} {σ:St} {H:Hp} {s:Shared} {a:Addr} (I:Inv X pins σ H s) (d:Xa H a):
 s.TypeIs (.ref a) "dict" /\ (∀b,Value.ref a = .ref b -> ∃ob,s.heap.get? b=some ob/\ob.dict=none)/\(a==sysModules)=false:=by
 rcases d with ⟨kvs,e⟩|⟨kvs,e⟩
 ·obtain ⟨_,hd,vs,_,dd⟩:=qU I.hok e
  refine ⟨dd.typeIs,fun b q=> ?_,hd⟩;cases q;obtain ⟨ob,_,_,h1,h2,_⟩:=dd;exact ⟨ob,h1,h2.2.1⟩
 ·obtain ⟨_,hd,xs,_,dd⟩:=qR I.hok e
  refine ⟨dd.typeIs,fun b q=> ?_,hd⟩;cases q;obtain ⟨ob,_,_,h1,h2,_⟩:=dd;exact ⟨ob,h1,h2.2.1⟩
section
variable {X:Cx} {pins:List (Addr×Obj)} {σ:St} {H:Hp} {s:Shared} {a:Addr} {y d:V} {u r:Value} {o:Option V} {A:Around} {E:Value->Shared->Prop}
theorem Q0 {Q:Value->Shared->Prop} (hu:A.units+1<cLine) (I:Inv X pins σ H s) (g:gK H a y o) (ry:RelV y u) (h:∀w' s',Inv X pins σ H s'->RelV (o.getD .non) w'->Q w' s'):
 wpAny (model X.prog X.w) A (call (.builtin "dict.get") [.ref a,u]) Q E s:=by
 rcases g with ⟨kvs,k,e,ey,l⟩|⟨kvs,k,b,e,ey,eb,l⟩
 ·subst ey
  obtain ⟨z,hd,vs,rel,dd⟩:=qU I.hok e;refine call_meetsIn PySem.F.slot_dict_get dd.typeIs PySem.F.entry_dict_get (PySem.F.args_dict_get_2 _ _) (meets_dict_get (bB X.prog X.w) a (qK ry) hd) ⟨_,dd.mapOf,h _ _ (I.tok _) ?_⟩;rw [l];exact (rel.val k).getD rfl
 ·subst ey
  cases (show u=Value.ref b from ry);obtain ⟨z,hd,xs,rel,dd⟩:=qR I.hok e;refine call_meetsIn PySem.F.slot_dict_get dd.typeIs PySem.F.entry_dict_get (PySem.F.args_dict_get_2 _ _) (meetsH_dict_get (tupleKind (bB X.prog X.w)) a b hd) ⟨tupleKind_room_in1 hu,k,xs,iY I.hok eb,dd,h _ _ (I.tok _) ?_⟩;rw [l];exact (rel.val k).getD rfl
theorem QZ {Q:Value->Shared->Prop} (hu:A.units+1<cLine) (I:Inv X pins σ H s) (g:gK H a y o) (ry:RelV y u) (rd:RelV d r) (h:∀w' s',Inv X pins σ H s'->RelV (o.getD d) w'->Q w' s'):
 wpAny (model X.prog X.w) A (call (.builtin "dict.get") [.ref a,u,r]) Q E s:=by
 rcases g with ⟨kvs,k,e,ey,l⟩|⟨kvs,k,b,e,ey,eb,l⟩
 ·subst ey
  obtain ⟨z,hd,vs,rel,dd⟩:=qU I.hok e;refine call_meetsIn PySem.F.slot_dict_get dd.typeIs PySem.F.entry_dict_get (PySem.F.args_dict_get_3 _ _ _) (meets_dict_get_default (bB X.prog X.w) a (qK ry) hd r) ⟨_,dd.mapOf,h _ _ (I.tok _) ?_⟩;rw [l];exact (rel.val k).getD rd
 ·subst ey
  cases (show u=Value.ref b from ry);obtain ⟨z,hd,xs,rel,dd⟩:=qR I.hok e;refine call_meetsIn PySem.F.slot_dict_get dd.typeIs PySem.F.entry_dict_get (PySem.F.args_dict_get_3 _ _ _) (meetsH_dict_get_default (tupleKind (bB X.prog X.w)) a b hd r) ⟨tupleKind_room_in1 hu,k,xs,iY I.hok eb,dd,h _ _ (I.tok _) ?_⟩;rw [l];exact (rel.val k).getD rd
end
def Oj (td ty:TE):TE:=fun σ H Q=>td σ H fun x H1=>∃a,x = .ref a/\Xa H1 a/\ty σ H1 fun y H2=>∃o,gK H2 a y o/\Q (o.getD .non) H2
def Oi (td ty tx:TE):TE:=fun σ H Q=>td σ H fun x H1=>∃a,x = .ref a/\Xa H1 a/\ty σ H1 fun y H2=>tx σ H2 fun z H3=>∃o,gK H3 a y o/\Q (o.getD z) H3
section
variable {X:Cx} {o e f:Expr} {apos cpos:Pos} {td ty tx:TE}
theorem wZ (hu:X.A.units+1<cLine) (ho:PE X o td) (he:PE X e ty) (m:M1 X o "get" apos e cpos):PE X (.Call (.Attribute o "get" apos) [e] [] cpos) (Oj td ty):=by
 intro pins s σ H Q I h;refine wpAny_Call_method m.base m.few m.line PySem.F.plainAttrs_dict PySem.F.slot_dict_get PySem.F.type_dict_get (cC (ho pins s σ H _ I h) fun u s1 ⟨x,H1,I1,rx,a,ex,d,q1⟩=> ?_);subst ex;obtain rfl:u=Value.ref a:=rx;obtain ⟨t1,t2,_⟩:=z8 I1 d;refine ⟨t1,t2, ?_⟩;rw [m.trees];refine Calls.callWith_builtin rfl (Calls.evalArgs_plain (Calls.spliced_cons (cC (he pins s1 σ H1 _ I1 q1) fun iv s2 ⟨y,H2,I2,ry,ov,g,q2⟩=>Calls.spliced_nil ?_)));exact Q0 hu I2 g ry fun w' s3 I3 rw'=>⟨_,H2,I3,rw',q2⟩
theorem wY (hu:X.A.units+1<cLine) (ho:PE X o td) (he:PE X e ty) (hf:PE X f tx) (m:M2 X o "get" apos e f cpos):PE X (.Call (.Attribute o "get" apos) [e,f] [] cpos) (Oi td ty tx):=by
 intro pins s σ H Q I h;refine wpAny_Call_method m.base m.few m.line PySem.F.plainAttrs_dict PySem.F.slot_dict_get PySem.F.type_dict_get (cC (ho pins s σ H _ I h) fun u s1 ⟨x,H1,I1,rx,a,ex,d,q1⟩=> ?_);subst ex;obtain rfl:u=Value.ref a:=rx;obtain ⟨t1,t2,_⟩:=z8 I1 d;refine ⟨t1,t2, ?_⟩;rw [m.trees]
 refine Calls.callWith_builtin rfl (Calls.evalArgs_plain (Calls.spliced_cons (cC (he pins s1 σ H1 _ I1 q1) fun iv s2 ⟨y,H2,I2,ry,q2⟩=>
  Calls.spliced_cons (cC (hf pins s2 σ H2 _ I2 q2) fun fv s3 ⟨z,H3,I3,rz,ov,g,q3⟩=>Calls.spliced_nil ?_))))
 exact QZ hu I3 g ry rz fun w' s4 I4 rw'=>⟨_,H3,I4,rw',q3⟩
end
section
variable {X:Cx} {pins:List (Addr×Obj)} {σ:St} {H:Hp} {s:Shared} {a:Addr} {kvs:List (Key×V)} {A:Around} {E:Value->Shared->Prop}
end
section
variable {X:Cx} {pins:List (Addr×Obj)} {σ:St} {H:Hp} {s:Shared} {a:Addr} {y:V} {u:Value} {A:Around} {E:Value->Shared->Prop}
end
end L2
namespace Att
open PySem PySem.W PySem.Calls PyProof.Rows
theorem oX {P:Params} {h:Heap}:∀(ns:List Int) (vs:List Value),WellAll P h vs (ns.map WData.int)->IntsAre vs ns:=by
 intro ns
 induction ns with
 | nil=>
   intro vs w;rw [List.map_nil] at w;cases w;exact .nil
 | cons n ns ih=>
   intro vs w;rw [List.map_cons] at w;cases w with
   | cons a b=>
     cases a;exact .cons _ _ (ih _ b)
theorem Dq {l:OpenLaw} {n:Nat} (hn:l.most=some n) {P:Params} {h:Heap} {args:List WData} {vals:List Value}
 (hpre:l.row.toRowW.claim.pre args=true) (hwl:WellAll P h vals args):
 ∃a vs ns,vals=[Value.ref a]/\args=[WData.list (ns.map WData.int)]/\h.get? a=some {cls:= .type "list",data:= .seq vs.toArray}/\IntsAre vs ns/\ns.length<=n:=by
 have hsh:WShape.hasAll [] args [.list .int]=true:=(pre_splitW hpre).1;have hc:l.pre.holds [] {args:=args}=true:=(pre_splitW hpre).2;obtain ⟨d,r,rfl,h1,h2⟩:=hasAllW_cons hsh;obtain rfl:=hasAllW_nil h2;obtain ⟨xs,rfl,h3⟩:=hasW_list h1;obtain ⟨ns,rfl⟩:=items_int h3
 have hlen:ns.length<=n:=by
  unfold OpenLaw.pre at hc
  have h4:(WTm.not (.lt (.lit (.int (n:Int))) (.len (.arg 0)))).holds [] {args:=[.list (ns.map .int)]}=true:=by
   have h4:=(holds_andW hc).1;rw [hn] at h4;exact h4
  have h5:=condW_of h4 (w_not (w_lt w_lit (w_len_list (w_arg rfl))));rw [List.length_map] at h5;refine Nat.le_of_not_lt fun q=> ?_;have q':(n:Int)<((ns.length:Nat):Int):=by omega
  first
   | (rw [decide_eq_true q'] at h5;exact absurd h5 (by decide))
   | (simp at h5;omega)
 cases hwl with
 | cons w1 w2=>
   cases w2;cases w1 with
   | list ho hall=>exact ⟨_,_,ns,rfl,rfl,ho,oX ns _ hall,hlen⟩
theorem DR (l:OpenLaw) (args:List WData):l.row.toRowW.claim.post args (.bool true) args=true:=
 postW_of (r:=l.row.toRowW) (X:=(true==true))
  (show WShape.has [] (.bool true) .bool=true by first |rfl|decide|simp [WShape.has,WShape.arms,WShape.armsAll])
  (show (WTm.eq .res (.lit (.bool true))).value [] {args:=args,res:=some (.bool true),after:=args}=some (.bool (true==true)) from w_eq_bool (w_res rfl) w_lit) rfl
theorem yK {l:OpenLaw} {n:Nat} {q:Program} {loose:List Str} {XP:(Str->Option Value)->Heap->Prop} {YP:World->Heap->Prop} {d:DefRec}
 (hn:l.most=some n) (hdf:d.params.defaults=[])
 (call:∀(w:World) (s₀ s₁:Shared) (mg mb:Str->Option Value) (fa:Addr) (o:Obj) (pm cd doc:Value) (a:Addr) (vs:List Value) (ns:List Int),
   Ground q loose [] XP w s₀ mg mb s₁.heap->YP w s₁.heap ->
   s₁.heap.get? fa=some o->o.data = .func (docDef d.name d.params d.body d.scope pm cd doc)->s₁.heap.CodeRec cd d.name->mg d.name=some (.ref fa) ->
   s₁.heap.get? a=some {cls:= .type "list",data:= .seq vs.toArray}->IntsAre vs ns->ns.length<=n->s₁.gens = #[] ->
   codeAny (model l.prog w) callerA (.call (.ref fa) ⟨[.ref a],[]⟩) (fun r s'=>r = .ok (.ret (.bool true))/\OldK s₁.heap s'.heap/\s'.os=s₁.os/\AllBare s'.gens) s₁):
 WalkO q loose XP YP l.row.toRowW d [] (fun f vs=>PySem.call f vs):=by
 intro w s₀ s₁ mg mb G Y fa o pm cd doc dV kV ho hd hcd hD hmg hg args vals as hpre hlay hrd hwl hlo;obtain rfl:dV = .none:=Dflts.none hD hdf;obtain rfl:kV = .none:=Dflts.noKw hD;obtain ⟨a,vs,ns,rfl,rfl,hobj,hints,hlen⟩:=Dq hn hpre hwl;refine enter_call (codeAny_mono (call w s₀ s₁ mg mb fa o pm cd doc a vs ns G Y ho (fd_plain hd) hcd hmg hobj hints hlen hg) fun r s' hq=> ?_);obtain ⟨rfl,h2,h3,h4⟩:=hq;exact ⟨.inl ⟨.bool true,.bool true,[],rfl,fun _=>rfl,.bool true,DR l _,fun _=>⟨List.Pairwise.nil,fun _ hm=>(nomatch hm)⟩⟩,h2,h3,h4⟩
section
variable {prog:Program} {w:World} {A:Around} {E:Value->Shared->Prop} {s:Shared} {K:Frag}
def ledger (h:Heap) (L d:Addr):List (Addr×Obj):=(List.range h.objs.size).filterMap fun a=>if a=L\/a=d then none else (h.get? a).map fun o=>(a,o)
end
end Att
namespace L2
open PySem PySem.Spec PyProof.Rows
theorem Dg {vs:List Value} {ns:List Int} (h:IntsAre vs ns):Vals (ns.map V.int) vs:=by
 induction h with
 | nil=>exact .nil
 | cons n t h ih=>exact .cons ⟨t,rfl⟩ ih
def Only (H:Hp):Prop:=∀b,H b=none \/ ∃o xs,H b=some (.kh o (.lst xs))
theorem Ip {P:Program} {w:World} {K:PySem.W.Frag} {mg mb:Str->Option Value} {CX:JX} {k:Nat} {fa a:Addr} {fd:FuncData} {x:Str} {sp:Sp} {s₁:Shared} {vs:List Value} {ns:List Int}
 (KX:K.In s₁.heap) (hns:s₁.heap.Ns mainGlobals mg) (hb:s₁.heap.Ns builtinsNs mb) (hbb:∀x:Str,x ≠ "__name__" -> mb x=bootBuiltins x) (hlim:s₁.heap.NoLimit) (hg:s₁.gens = #[])
 (ha:s₁.heap.get? a=some {cls:= .type "list",data:= .seq vs.toArray}) (hi:IntsAre vs ns) (hl:ns.length<=sizeLine) (hr:i_ k callerA)
 (F:∀base:Heap,K.In base->base.Ns mainGlobals mg->cT P w K mg base CX k fa fd [x] sp) (hbind:∀(s:Shared) (u:Value),BindsTo s fd ⟨[u],[]⟩ [(x,u)])
 (hsp:∀H:Hp,Only H->aY K H a (ns.map V.int)->sp [.ref a] H (fun v _=>v = .bl true) fun _ _ _=>False)
 (hCX:∀H e s',CX [] H s₁ (fun _ _ _=>False) e s'->False):
 codeAny (model P w) callerA (.call (.ref fa) ⟨[.ref a],[]⟩) (fun r s'=>r = .ok (.ret (.bool true))/\OldK s₁.heap s'.heap/\s'.os=s₁.os/\AllBare s'.gens) s₁:=by
 have rv:=Dg hi;have lenV:=hi.length
 have core:∀H:Hp,Only H->aY K H a (ns.map V.int)->kW P w H s₁.heap->(∀b,H b≠none->b=a)->(H a≠none->K.lookup a=none) ->
  codeAny (model P w) callerA (.call (.ref fa) ⟨[.ref a],[]⟩) (fun r s'=>r = .ok (.ret (.bool true))/\OldK s₁.heap s'.heap/\s'.os=s₁.os/\AllBare s'.gens) s₁:=by
  intro H hO hS hok hA hK;have CW:∀{b:Addr} {o:Obj},s₁.heap.get? b=some o->H b=none->(vN s₁.heap H).get? b=some o:=fun e n=>Jd e n
  have Ti:∀{b:Addr} {o:Obj} {es:Array DictEntry} {ep:Nat},s₁.heap.get? b=some o->o.data = .dict es ep->H b=none:=fun {b o es ep} e d=>by
   cases q:H b with
   | none=>rfl
   | some u=>
     have e':b=a:=hA b (by rw [q];simp);subst e';rw [ha] at e;cases e;have d':Data.seq vs.toArray _=Data.dict es ep:=d;cases d'
  have VP:∀{b:Addr} {m:Str->Option Value},s₁.heap.Ns b m->(vN s₁.heap H).Ns b m:=fun {b m} ⟨o,es,ep,e,d,r⟩=>⟨o,es,ep,CW e (Ti e d),d,r⟩
  have hKb:K.In (vN s₁.heap H):=fun b o e=>CW (KX b o e) (by
   cases q:H b with
   | none=>rfl
   | some u=>
     have e':b=a:=hA b (by rw [q];simp);subst e';rw [hK (by rw [q];simp)] at e;cases e)
  have hM:Mod K mg (vN s₁.heap H):=⟨hKb,VP hns,⟨mb,VP hb,hbb⟩,let ⟨mc,h1,h2⟩:=hlim;⟨mc,VP h1,h2⟩⟩;have e0:MF P w K mg (vN s₁.heap H) callerA [] s₁ H:=⟨rfl,hM,fun b o e=>Lg e,Nat.le_of_eq (EY _ _),trivial,fun b hb=>absurd (show b∈([]:List Addr) from hb) (by simp),hok,.of_eq hg⟩;refine codeAny_mono ((F _ hKb (VP hns)).run callerA [] s₁ H ⟨[.ref a],[]⟩ [.ref a] [.ref a] _ _ hr e0 (hbind s₁ (.ref a)) (.cons rfl .nil) (hsp H hO hS)) fun r s' h=> ?_;cases r with
  | error e=>exact (hCX H e s' h).elim
  | ok fl=>
    cases fl with
    | next=>exact False.elim h
    | brk=>exact False.elim h
    | cont=>exact False.elim h
    | ret u=>
      obtain ⟨v,H',os,bare,un,hok',r',q⟩:=h;have q':v = .bl true:=q;subst q';obtain rfl:u=Value.bool true:=r';refine ⟨rfl,OldK.of_keep fun b o e=> ?_,os,bare⟩;cases q:H b with
      | none=>exact un.keep b o e q (by intro z;exact absurd (show b∈([]:List Addr) from z) (by simp)) (by simp)
      | some u=>
        rcases hO b with z|⟨ob,xs,z⟩
        ·rw [q] at z;cases z
        ·have z2:=un.oY b ob _ z
         obtain ⟨e1,_⟩:=hok b _ z;obtain ⟨e2,_⟩:=hok' b _ z2;rw [e] at e1;cases e1;exact e2
 cases hk:K.lookup a with
 | some o=>
   have e:=KX a o hk;rw [ha] at e;cases e;refine core (fun _=>none) (fun _=> .inl rfl) (.inr ⟨_,vs.toArray,_,hk,rfl,rfl,rfl,by rw [List.size_toArray,lenV];exact hl,by simpa using rv⟩) (fun b u z=>by have z':(none:Option HO)=some u:=z;cases z') (fun b z=>absurd rfl z) fun z=>absurd rfl z
 | none=>
   refine core (fun b=>if b=a then some (.kh {cls:= .type "list",data:= .seq vs.toArray} (.lst (ns.map V.int))) else none) (fun b=> ?_) (.inl (.inr ⟨{cls:= .type "list",data:= .seq vs.toArray},if_pos rfl⟩)) (fun b u z=> ?_) (fun b z=> ?_) fun _=>hk
   ·by_cases hb:b=a
    ·exact .inr ⟨_,_,if_pos hb⟩
    ·exact .inl (if_neg hb)
   ·by_cases hb:b=a
    ·have z':=(if_pos hb).symm.trans z
     cases z';subst hb;exact ⟨ha,by rw [List.length_map];exact hl,vs,_,rv,ha⟩
    ·have z':=(if_neg hb).symm.trans z
     cases z'
   ·by_cases hb:b=a
    ·exact hb
    ·exact absurd (if_neg hb) z
end L2
namespace L2
open PySem PySem.Spec PyProof.Rows
abbrev KOf {K:PySem.W.Frag} {h:Heap} (_:K.In h):PySem.W.Frag:=K
theorem J7 {l:PySem.W.OpenLaw} {n k:Nat} {q:Program} {loose:List Str} {XP:(Str->Option Value)->Heap->Prop} {YP:World->Heap->Prop} {d:DefRec} {K:Params->PySem.W.Frag} {CX:World->JX} {sp:World->Sp} {x:Str}
 (hn:l.most=some n) (hn2:n<=sizeLine) (hdf:d.params.defaults=[]) (hr:i_ k callerA)
 (hY:∀(w:World) (h:Heap),YP w h->(K w.params).In h)
 (F:∀(w:World) (mg:Str->Option Value) (fa:Addr) (h:Heap),(K w.params).In h->h.Ns mainGlobals mg->mg d.name=some (.ref fa) ->
   ∃fd:FuncData,(∀(s:Shared) (u:Value),BindsTo s fd ⟨[u],[]⟩ [(x,u)]) /\
    ∀base:Heap,(K w.params).In base->base.Ns mainGlobals mg->cT l.prog w (K w.params) mg base (CX w) k fa fd [x] (sp w))
 (hsp:∀(w:World) (H:Hp) (a:Addr) (ns:List Int),ns.length<=n->Only H->aY (K w.params) H a (ns.map V.int)->sp w [.ref a] H (fun v _=>v = .bl true) fun _ _ _=>False)
 (hCX:∀(w:World) (H:Hp) (s:Shared) (e:Value) (s':Shared),CX w [] H s (fun _ _ _=>False) e s'->False):
 PySem.W.WalkO q loose XP YP l.row.toRowW d [] (fun f vs=>PySem.call f vs):=by
 refine Att.yK hn hdf fun w s₀ s₁ mg mb fa o pm cd doc a vs ns G Y ho hd hcd hmg hobj hints hlen hg=> ?_;have KX:=hY w _ Y;obtain ⟨fd,hb,hF⟩:=F w mg fa _ KX G.T.g hmg;exact Ip KX G.T.g G.T.b G.T.builtins G.T.nolimit hg hobj hints (Nat.le_trans hlen hn2) hr hF hb (fun H hO hS=>hsp w H a ns hlen hO hS) fun H e s'=>hCX w H s₁ e s'
end L2
namespace L2
open PySem PySem.Spec PyProof.Rows
def inClass (s:Stmt) (j:Nat):Stmt:=match s with
 | .ClassDef _ _ _ body _ _ _ _ _ _ _=>body.getD j (.Pass ⟨0,0,0,0⟩)
 | _=> .Pass ⟨0,0,0,0⟩
def aM (s:Stmt):Arguments:=match s with
 | .FunctionDef _ a _ _ _ _ _ _ _ _=>a
 | _=>{posonlyargs:=[],args:=[],vararg:=none,kwonlyargs:=[],kw_defaults:=[],kwarg:=none,defaults:=[]}
def aK (s:Stmt):List Stmt:=match s with
 | .FunctionDef _ _ b _ _ _ _ _ _ _=>b
 | _=>[]
def aB (s:Stmt):Scope:=match s with
 | .FunctionDef _ _ _ _ _ _ sc _ _ _=>sc
 | _=>{kind:= .function,names:=[],isGenerator:=false,isCoroutine:=false}
abbrev jV:JX:=fun _ _ _ _ _ _=>False
abbrev E0:XK:=fun _ _ _=>False
theorem S_ {X:Cx}:Passes jV X E0:=fun _ _ _ _ _ _ _ h=>h.elim
structure jX (K:PySem.W.Frag) (x qual:Str) (st:Stmt) (f:Addr) (fd:FuncData):Prop where
 ex:∃(oc:Value) (od:Option Addr) (kV doc pm:Value) (an:Option Addr) (cdv ct:Value) (osl:Array (Option Value)),
  fd=PySem.W.fnOf x qual (aM st) (aK st) (aB st) .none kV doc pm an cdv ct/\K.lookup f=some ⟨oc,od,.func fd,osl⟩/\PySem.W.codeIn K cdv qual=true
 kp:PySem.W.keepIn K (.ref f)=true
section
variable {P:Program} {w:World} {K:PySem.W.Frag} {mg:Str->Option Value} {base:Heap}
theorem jX.ok {x qual:Str} {st:Stmt} {f:Addr} {fd:FuncData} {N ps:List Str} {k:Nat} {sp:Sp} (F:jX K x qual st f fd) (S:bw N ps (aB st)) (len:∀vs H Q E,sp vs H Q E->vs.length=ps.length)
 (hbody:∀(cdv:Value) (A:Around) (outer:List Env) (s:Shared) (H:Hp) (vs:List V) (Q:VK) (E:XK),i_ k (A.deeper (envOfC qual (aB st) s.heap.objs.size f cdv))->sp vs H Q E ->
   ∃t,FW (Fp jV P w K mg base N qual (aB st) f cdv A outer s H E).VR (aK st) t/\t {nx:=fun _ H'=>Q .non H',rt:=Q} (start N vs) H):cT P w K mg base jV (k+1) f fd ps sp:=by
 obtain ⟨oc,od,kV,doc,pm,an,cdv,ct,osl,rfl,lk,hcd⟩:=F.ex;refine Uo lk hcd S len fun A outer s H vs Q E hr hsp=> ?_;obtain ⟨t,h,q⟩:=hbody cdv A outer s H vs Q E hr hsp;exact ⟨t,h.VR,q⟩
theorem jX.binds {x qual:Str} {st:Stmt} {f:Addr} {fd:FuncData} {ps:List Str} (F:jX K x qual st f fd)
 (h:∀(kV doc pm:Value) (an:Option Addr) (cdv ct:Value) (us:List Value),us.length=ps.length->bindArgs (PySem.W.fnOf x qual (aM st) (aK st) (aB st) .none kV doc pm an cdv ct) ⟨us,[]⟩=pure (ps.zip us)):Binds K fd ps []:=by
 obtain ⟨oc,od,kV,doc,pm,an,cdv,ct,osl,rfl,lk,hcd⟩:=F.ex;exact .all (h kV doc pm an cdv ct)
theorem bK {x qual:Str} {st:Stmt} {f:Addr} {oc:Value} {od an:Option Addr} {osl:Array (Option Value)} {kV doc pm cdv ct:Value} (l:K.lookup f=some ⟨oc,od,.func (PySem.W.fnOf x qual (aM st) (aK st) (aB st) .none kV doc pm an cdv ct),osl⟩)
 (c:PySem.W.codeIn K cdv qual=true) (k:PySem.W.keepIn K (.ref f)=true):jX K x qual st f (PySem.W.fnOf x qual (aM st) (aK st) (aB st) .none kV doc pm an cdv ct):=⟨⟨oc,od,kV,doc,pm,an,cdv,ct,osl,rfl,l,c⟩,k⟩
end
theorem lR {A:Around} {k:Nat} (hr:i_ k A):A.units+1<cLine:=Nat.lt_of_le_of_lt (Nat.add_le_add_left (by decide:1<=64) _) hr.units
section
variable {X:Cx}
theorem pv (i:Nat) {x:Str} {pos:Pos} (hN:X.N[i]? = some x:=by rfl) (hv:Vis X.env.scope x:=by first |exact Or.inl rfl|exact Or.inr (Or.inl rfl)|exact Or.inr (Or.inr rfl)) (hd:(x==("__debug__" :Str))=false:=by decide)
 (hcd:(x==("__classdict__" :Str))=false:=by decide):PE X (.Name x pos) (RJ i):=Pn hN hv hd hcd
end
theorem dj {A B:Prop} (h:B):if false=true then A else B:=by
 rw [if_neg Bool.false_ne_true];exact h
theorem iB {A B:Prop} (h:A):if true=true then A else B:=by
 rw [if_pos rfl];exact h
theorem dG {c A B:Prop} [Decidable c] (h1:c->A) (h2:¬c->B):if c then A else B:=by
 by_cases h:c
 ·rw [if_pos h]
  exact h1 h
 ·rw [if_neg h]
  exact h2 h
theorem Ck {c A B:Prop} [Decidable c] (hc:c) (h:B):if (!decide c)=true then A else B:=by
 rw [decide_eq_true hc];exact dj h
def Same (H H':Hp):Prop:=∀b o,H b=some o->H' b=some o
theorem Same.refl (H:Hp):Same H H:=fun _ _ h=>h
theorem Same.trans {H H1 H2:Hp} (a:Same H H1) (b:Same H1 H2):Same H H2:=fun c o h=>b c o (a c o h)
theorem Same.free {H H':Hp} (e:Same H H') {l:Addr} (h:H' l=Option.none):H l=Option.none:=by
 cases q:H l with
 | none=>rfl
 | some o=>
   rw [e l o q] at h;cases h
theorem Same.seq {K:PySem.W.Frag} {H H':Hp} {a:Addr} {xs:List V} (e:Same H H') (h:aY K H a xs):aY K H' a xs:=by
 rcases h with (h|⟨o,h⟩)|h
 ·exact .inl (.inl (e _ _ h))
 ·exact .inl (.inr ⟨o,e _ _ h⟩)
 ·exact .inr h
section
variable {κ:Type} [DecidableEq κ]
end
end L2
set_option Elab.async false
set_option linter.all false
set_option maxRecDepth 100000
set_option maxHeartbeats 4000000
namespace L2
open PySem PySem.Spec PyProof.Rows
theorem tX {a n:Addr} (h:a<n): @LT.lt Nat _ a n:=h
def kJ (env:Env):List (Str×NameKind)->List (Str×Addr)->List (Str×Addr)
 | [],acc=>acc
 | (n,k)::r,acc=>if k == .free then kJ env r ((n,(env.cells.lookup n).getD 0)::acc) else kJ env r acc
theorem Aa {env:Env} {scope:Scope} (h:∀y∈scope.names,y.2 = .free->(env.cells.lookup y.1).isSome=true):closureFor scope env=pure (kJ env scope.names []):=by
 have go:∀(ns:List (Str×NameKind)) (acc:List (Str×Addr)),(∀y∈ns,y.2 = .free->(env.cells.lookup y.1).isSome=true) ->
  (forIn ns acc (fun x cs=>match x with |(name,kind)=>if (kind == .free)=true then do let c ←cellOf env name;pure (ForInStep.yield ((name,c)::cs)) else pure (ForInStep.yield cs)):Sem (List (Str×Addr)))=pure (kJ env ns acc):=by
  intro ns
  induction ns with
  | nil=>intro acc _;rfl
  | cons y r ih=>
    intro acc hy;obtain ⟨n,k⟩:=y;rw [List.forIn_cons]
    by_cases hk:k = .free
    ·subst hk
     have hs:=hy (n,.free) List.mem_cons_self rfl;obtain ⟨c,hc⟩:=Option.isSome_iff_exists.mp hs;have e:cellOf env n=pure c:=by unfold cellOf;rw [hc]
     show _=pure (kJ env r ((n,(env.cells.lookup n).getD 0)::acc));rw [←ih _ fun y hm=>hy y (List.mem_cons_of_mem _ hm)];simp only [beq_self_eq_true,if_true,e,pure_bind,hc,Option.getD_some]
    ·have hb:(k==NameKind.free)=false:=by simpa using hk
     have hc:kJ env ((n,k)::r) acc=kJ env r acc:=by
      show (if (k==NameKind.free)=true then _ else _)=_;rw [if_neg (by rw [hb];decide)]
     rw [hc,←ih _ fun y hm=>hy y (List.mem_cons_of_mem _ hm)];simp only [hb,Bool.false_eq_true,if_false,pure_bind]
 have q:=go scope.names [] h;unfold closureFor;show (forIn scope.names [] _ >>= fun r=>pure r)=_;rw [bind_pure];exact q
theorem gH {env:Env}:∀(ns:List (Str×NameKind)) (acc:List (Str×Addr)) (x:Str),(∀y∈ns,y.2 = .free->(env.cells.lookup y.1).isSome=true) ->
 (kJ env ns acc).lookup x=if (x,NameKind.free)∈ns then env.cells.lookup x else acc.lookup x
 | [],acc,x,_=>by simp [kJ]
 | (n,k)::r,acc,x,h=>by
   have hr:∀y∈r,y.2 = .free->(env.cells.lookup y.1).isSome=true:=fun y hm=>h y (List.mem_cons_of_mem _ hm)
   by_cases hk:k = .free
   ·subst hk
    show (kJ env r ((n,(env.cells.lookup n).getD 0)::acc)).lookup x=_;rw [gH r _ x hr];obtain ⟨c,hc⟩:=Option.isSome_iff_exists.mp (h (n,.free) List.mem_cons_self rfl);have hc:env.cells.lookup n=some c:=hc
    by_cases hm:(x,NameKind.free)∈r
    ·rw [if_pos hm,if_pos (List.mem_cons_of_mem _ hm)]
    ·rw [if_neg hm]
     by_cases e:x=n
     ·subst e
      rw [if_pos List.mem_cons_self,List.lookup_cons,hc];simp
     ·rw [if_neg (fun z=>(List.mem_cons.mp z).elim (fun q=>e (congrArg Prod.fst q)) hm),List.lookup_cons]
      have:(x==n)=false:=by simpa using e
      rw [this]
   ·have hb:(k==NameKind.free)=false:=by simpa using hk
    have hc:kJ env ((n,k)::r) acc=kJ env r acc:=by
     show (if (k==NameKind.free)=true then _ else _)=_;rw [if_neg (by rw [hb];decide)]
    rw [hc,gH r acc x hr]
    have:((x,NameKind.free)∈(n,k)::r)↔(x,NameKind.free)∈r:=by
     constructor
     ·intro z
      rcases List.mem_cons.mp z with q|q
      ·exact absurd (congrArg Prod.snd q).symm hk
      ·exact q
     ·exact List.mem_cons_of_mem _
    simp only [this]
theorem iy (env:Env):∀(ns:List (Str×NameKind)) (x:Str),
 (ns.map fun (n,k)=>if (k == .free&&env.scope.kind == .function&&env.kindOf n==some .cell) then (n,NameKind.cell) else (n,k)).lookup x =
   (ns.lookup x).map fun k=>if (k == .free&&env.scope.kind == .function&&env.kindOf x==some .cell)=true then NameKind.cell else k
 | [],x=>rfl
 | (n,k)::r,x=>by
   show List.lookup x ((if (k==NameKind.free&&env.scope.kind == .function&&env.kindOf n==some .cell)=true then (n,NameKind.cell) else (n,k))::_)=_;cases hx:x==n with
   | true=>
     have e:x=n:=by simpa using hx
     subst e
     by_cases hc:(k==NameKind.free&&env.scope.kind == .function&&env.kindOf x==some .cell)=true
     ·rw [if_pos hc];simp only [List.lookup_cons,hx,Option.map_some,if_pos hc]
     ·rw [if_neg hc];simp only [List.lookup_cons,hx,Option.map_some,if_neg hc]
   | false=>
     have ih:=iy env r x
     by_cases hc:(k==NameKind.free&&env.scope.kind == .function&&env.kindOf n==some .cell)=true
     ·rw [if_pos hc];simp only [List.lookup_cons,hx];exact ih
     ·rw [if_neg hc];simp only [List.lookup_cons,hx];exact ih
structure aR (N own:List Str) (caps:List Nat) (XN:List Str) (outer scope:Scope):Prop where
 kind:scope.kind = .function
 Ia:∀y∈scope.names,y.2 ≠ .cell
 names:∀y∈scope.names,y.2 = .local->scope.names.lookup y.1=some .local
 free:∀y∈scope.names,y.2 = .free->outer.names.lookup y.1=some .cell\/outer.names.lookup y.1=some .free
 nd:N.Nodup
 len:N.length=own.length+caps.length
 cap:∀(j:Nat),j<caps.length->N[own.length+j]? = XN[caps.getD j 0]? /\ ∃x,N[own.length+j]? = some x/\(x,NameKind.free)∈scope.names/\scope.names.lookup x=some .free
def st0 (own:List Str) (caps:List Nat) (σ:St):St:=own.map (fun _=>none)++caps.map (fun i=>(σ[i]?).join)
def dH (X:Cx) (scope:Scope) (C:Addr) (N:List Str) (s:Shared) (H:Hp) (fp:List Addr):Cx:=
 {X with N:=N,s₀:=s,H₀:=H,env:=compEnvC scope (kJ X.env scope.names []) C X.env,outer:=X.stack,ex:=fp,fn:=fun _=>false,pn:=[],xe:=fun _ _=>False}
section
variable {X:Cx} {pins:List (Addr×Obj)} {σ:St} {H:Hp} {s:Shared} {scope:Scope} {N own:List Str} {caps:List Nat} {fp:List Addr} {C:Nat}
theorem aR.Js (S:aR N own caps X.N X.env.scope scope) (ok:X.Ok):∀y∈scope.names,y.2 = .free->(X.env.cells.lookup y.1).isSome=true:=fun y hy hf=>by
 obtain ⟨c,e⟩:=ok.has y.1 (S.free y hy hf);rw [e];rfl
theorem aR.csub (S:aR N own caps X.N X.env.scope scope) (ok:X.Ok) {x:Str} {c:Addr} (h:(kJ X.env scope.names []).lookup x=some c):X.env.cells.lookup x=some c:=by
 rw [gH _ _ _ (S.Js ok)] at h;split at h
 ·exact h
 ·simp at h
theorem aR.Ik {S:aR N own caps X.N X.env.scope scope} {x:Str} (h:(relabel scope X.env).names.lookup x=some .cell\/(relabel scope X.env).names.lookup x=some .free):(x,NameKind.free)∈scope.names:=by
 have e:=iy X.env scope.names x;have e':(relabel scope X.env).names.lookup x=(scope.names.lookup x).map fun k=>if (k == .free&&X.env.scope.kind == .function&&X.env.kindOf x==some .cell)=true then NameKind.cell else k:=e;rw [e'] at h;cases q:scope.names.lookup x with
 | none=>rw [q] at h;simp at h
 | some k=>
   have hm:=PySem.mem_of_lookup q
   by_cases hk:k = .free
   ·subst hk;exact hm
   ·rw [q] at h
    have hb:(k==NameKind.free)=false:=by simpa using hk
    simp only [Option.map_some,hb,Bool.false_and,Bool.false_eq_true,if_false] at h;rcases h with h|h
    ·exact absurd (Option.some.inj h) (S.Ia _ hm)
    ·exact absurd (Option.some.inj h) hk
theorem Inv.comp {h1:Heap} {D:Nat} (I:Inv X pins σ H s) (S:aR N own caps X.N X.env.scope scope) (hfp:∀b∈fp,mJ X pins H b) (hfo:∀b∈fp,∃o,s.heap.get? b=some o)
 (hD:D=s.heap.objs.size) (hC:C=s.heap.objs.size+1) (old:∀b o,s.heap.get? b=some o->h1.get? b=some o) (hns:h1.Ns C (fun _=>none)) (hl:h1.get? D=some {cls:= .type "list",data:= .seq #[]}) {t:Nat}:
 Inv (dH X scope C N s H fp) [] (st0 own caps σ) (upd H D (.lst [])) {s with heap:=h1,toks:=t}:=by
 have some':=S.Js I.ok;have sub:∀{x c},(kJ X.env scope.names []).lookup x=some c->X.env.cells.lookup x=some c:=fun h=>S.csub I.ok h;have freshD:H D=none:=I.hok.fresh (by rw [hD];exact Nat.le_refl _);have QK:H C=none:=I.hok.fresh (by rw [hC];exact Nat.le_succ _)
 have Q6:∀x c,X.env.cells.lookup x=some c->c<s.heap.objs.size:=fun x c e=>by
  obtain ⟨v,z⟩:=I.cell x c e;exact z.lt
 have aa3:∀b∈fp,b<s.heap.objs.size:=fun b hb=>by
  obtain ⟨o,e⟩:=hfo b hb;exact Heap.lt_size e
 have DC:D≠C:=by omega
 refine ⟨⟨I.ok.mod,S.kind,I.ok.glob,I.ok.blt,by show s.heap.objs.size<=C;omega,fun x y c e1 e2=>I.ok.inj x y c (sub e1) (sub e2),fun x h=> ?_,fun x c h=>(by cases h),I.ok.hd,I.ok.frames,Or.inl rfl,fun b hb=>⟨?_,fun x c e=> ?_⟩,I.bs,Nat.le_trans I.ok.Nv I.sz,fun b o e hb=> ?_,fun b hb z=> ?_,I.stack,I.Bf⟩,
  rfl,I.bare,Un.laid old (by show s.heap.objs.size<=D;omega) freshD,⟨_,hns,fun j x v e1 e2 e3=> ?_⟩,fun x c e=> ?_, ?_,fun x c e=> ?_,fun p hp=> ?_,I.hok.laid old (by omega) ?_, ?_⟩
 ·have hm:=aR.Ik (S:=S) (X:=X) h
  obtain ⟨c,e⟩:=Option.isSome_iff_exists.mp (some' _ hm rfl);exact ⟨c,by show (kJ X.env scope.names []).lookup x=_;rw [gH _ _ _ some',if_pos hm];exact e⟩
 ·exact Nat.ne_of_lt (show @LT.lt Nat _ b C by have:=tX (aa3 b hb);omega)
 ·exact (hfp b hb).2.2.2.2.1 x c (sub e)
 ·rcases (hfp b hb).2.2.2.1 with z|z
  ·exact I.ok.H_ b o e z
  ·exact absurd (Nat.lt_of_lt_of_le (Heap.lt_size e) (Nat.le_trans I.ok.Nv z)) (Nat.lt_irrefl _)
 ·rcases List.mem_cons.mp (I.uR b z) with q|q
  ·exact (hfp b hb).2.1 q
  ·exact (hfp b hb).2.2.1 q
 ·have e1:N[j]? = some x:=e1
  have hj:own.length<=j:=by
   by_cases q:own.length<=j
   ·exact q
   ·exfalso
    unfold st0 at e2;rw [List.getElem?_append_left (by simp;omega),List.getElem?_map] at e2;cases r:own[j]? with
    | none=>rw [r] at e2;cases e2
    | some a=>rw [r] at e2;cases e2
  have hjl:j<N.length:=(List.getElem?_eq_some_iff.mp e1).1;have hjc:j - own.length<caps.length:=by have:=S.len;omega
  obtain ⟨c1,x',c2,c3,c4⟩:=S.cap (j - own.length) hjc;rw [show own.length+(j - own.length)=j by omega] at c1 c2;rw [e1] at c2;cases c2
  have e2':(σ[caps.getD (j - own.length) 0]?).join=some v:=by
   unfold st0 at e2;rw [List.getElem?_append_right (by simp;omega),List.getElem?_map,List.length_map] at e2;rw [List.getD_eq_getElem?_getD];cases r:caps[j - own.length]? with
   | none=>rw [r] at e2;cases e2
   | some a=>rw [r] at e2;exact Option.some.inj e2
  have aa7:σ[caps.getD (j - own.length) 0]? = some (some v):=by
   cases r:σ[caps.getD (j - own.length) 0]? with
   | none=>rw [r] at e2';cases e2'
   | some a=>rw [r] at e2';exact congrArg Option.some e2'
  have kx:X.env.kindOf x=some .cell\/X.env.kindOf x=some .free:=S.free _ c3 rfl;obtain ⟨m,hn,hl'⟩:=I.loc;obtain ⟨u,r,l⟩:=hl' _ x v (by rw [←c1];exact e1) aa7 (by rcases kx with z|z;exact .inr (.inl z);exact .inr (.inr z));refine ⟨u,r,.inr ⟨?_, ?_⟩⟩
  ·show (relabel scope X.env).names.lookup x=some .cell\/(relabel scope X.env).names.lookup x=some .free
   have e:(relabel scope X.env).names.lookup x=(scope.names.lookup x).map fun k=>if (k == .free&&X.env.scope.kind == .function&&X.env.kindOf x==some .cell)=true then NameKind.cell else k:=iy X.env scope.names x;rw [e,c4,Option.map_some];split
   ·exact .inl rfl
   ·exact .inr rfl
  ·rcases l with ⟨hk,_⟩|⟨_,c,hc,z⟩
   ·rcases kx with q|q<;>rw [hk] at q<;>cases q
   ·refine ⟨c, ?_, ?_⟩
    ·show (kJ X.env scope.names []).lookup x=_
     rw [gH _ _ _ some',if_pos c3];exact hc
    ·obtain ⟨o,ho,hd⟩:=z
     exact ⟨o,old c o ho,hd⟩
 ·obtain ⟨v,o,ho,hd⟩:=I.cell x c (sub e)
  exact ⟨v,o,old c o ho,hd⟩
 ·show upd H D (.lst []) C=none
  rw [bA DC.symm];exact QK
 ·show upd H D (.lst []) c=none
  rw [bA (Nat.ne_of_lt (by have:=tX (Q6 x c (sub e));omega))];exact I.jT x c (sub e)
 ·cases hp
 ·exact ⟨Nat.zero_le _,[],0,.nil,hl⟩
 ·show (own.map (fun _=>none)++caps.map _).length=N.length
  rw [List.length_append,List.length_map,List.length_map,S.len]
theorem Inv.Gu {BJ:List (Addr×Obj)} {σ':St} {H':Hp} {s':Shared} {h':Heap} (I:Inv X pins σ H s) (hfp:∀b∈fp,mJ X pins H b) (hC:s.heap.objs.size<=C) (J:Inv (dH X scope C N s H fp) BJ σ' H' s') (hs:Heap.SameBut C s'.heap h'):
 Inv X pins σ H' {s' with heap:=h'}:=by
 have nC:∀b o,s.heap.get? b=some o->b≠C:=fun b o e=>Nat.ne_of_lt (by have:=tX (Heap.lt_size e);omega);have u:=J.base;have frC:H' C=none:=J.free;refine I.call' (ch:=fp) (s':={s' with heap:=h'}) J.os ⟨fun b o e n hb hx=> ?_,fun b o e n hb hx=> ?_,u.free,fun b o e hx=> ?_,u.tups,u.oY,u.rZ⟩ (fun a o e=>(J.hok a o e).stay (fun b v hb q=> ?_) (fun _ q=>q) fun _ _ q=>q) J.bare fun b hb=> ?_
 ·exact (hs.2 b (nC b o e)).trans (u.keep b o e n hb hx)
 ·obtain ⟨sl,q⟩:=u.slot b o e n hb hx
  exact ⟨sl,(hs.2 b (nC b o e)).trans q⟩
 ·obtain ⟨o',q⟩:=u.there b o e hx
  exact ⟨o',(hs.2 b (nC b o e)).trans q⟩
 ·refine (hs.2 b ?_).trans q
  intro z;subst z;rcases hb with z|z
  ·subst z;rw [frC] at e;cases e
  ·rw [frC] at z;cases z
 ·exact ⟨(hfp b hb).2.2.2.1,(hfp b hb).2.1,(hfp b hb).2.2.2.2.1,(hfp b hb).2.2.2.2.2⟩
end
section
variable {prog:Program} {w:World} {A:Around} {R:Result->Shared->Prop} {s:Shared}
theorem vU {elt target iter:Expr} {ifs:List Expr} {scope:Scope} {pos:Pos} {it acc:Value} {env:Env} (I:Nat->Shared->Prop)
 (turn:∀n s,I n s->wpAny (model prog w) A (pyNext it) (fun r s1=>match r with
   | none=>R (.ok .next) s1
   | some v=>wpAny (model prog w) A (letOwnedTupleGo target it v) (fun _ s1'=>wpAny (model prog w) A (assign target env v) (fun _ s2=>
      wpAny (model prog w) A (forIn ifs true fun c r=>if r=true then do let ok ←isTrue c env (eval c env);pure (ForInStep.yield ok) else pure (ForInStep.yield r)) (fun ok s3=>
       if ok=true then wpAny (model prog w) A (eval elt env) (fun x s4=>
        wpAny (model prog w) A (call (.builtin "list.append") [acc,x]) (fun _ s5=>∃m,m<n/\I m s5) (fun _ _=>False) s4) (fun _ _=>False) s3
       else ∃m,m<n/\I m s3) (fun _ _=>False) s2) (fun _ _=>False) s1') (fun _ _=>False) s1) (fun _ _=>False) s)
 (n:Nat) (h:I n s):
 codeAny (model prog w) A (.compLoop (.ListComp elt [⟨target,iter,ifs,0⟩] scope pos) 0 it acc env) R s:=by
 refine codeAny_loop rfl I (fun n s hI=> ?_) n h;show wpAny _ A ((compTurn (.ListComp elt [⟨target,iter,ifs,0⟩] scope pos) 0 it acc env).onRaise (fun x=>do noteFrame x env;theTreesLotGoes x)) _ _ s;refine wpAny_noted ?_;rw [compTurn_list];refine wpAny_bind (wpAny_standAt (wpAny_bind (wpAny_mono (turn n s hI) (fun r s1 h1=> ?_) fun _ _ h'=>h'.elim)));cases r with
 | none=>exact wpAny_pure h1
 | some v=>
   refine wpAny_bind (wpAny_mono h1 (fun _ s1' h1'=> ?_) fun _ _ h'=>h'.elim);refine wpAny_bind (wpAny_mono h1' (fun _ s2 h2=>wpAny_bind (wpAny_mono h2 (fun ok s3 h3=> ?_) fun _ _ h'=>h'.elim)) fun _ _ h'=>h'.elim);cases ok with
   | false=>exact wpAny_pure ⟨rfl,h3⟩
   | true=>
     exact wpAny_bind (wpAny_bind (wpAny_mono h3 (fun x s4 h4=>wpAny_bind (wpAny_mono h4 (fun _ s5 h5=>wpAny_pure (wpAny_pure ⟨rfl,h5⟩)) fun _ _ h'=>h'.elim)) fun _ _ h'=>h'.elim))
end
def Vm (X:Cx) (ifs:List Expr) (t:TT):Prop:=
 ∀(pins:List (Addr×Obj)) (s:Shared) (σ:St) (H:Hp) (Q:Bool->Hp->Prop),Inv X pins σ H s->t σ H Q ->
  wpAny (model X.prog X.w) X.A (forIn ifs true fun c r=>if r=true then do let ok ←isTrue c X.env (eval c X.env);pure (ForInStep.yield ok) else pure (ForInStep.yield r)) (TP X pins σ Q) X.xe s
def Kd:TT:=fun _ H Q=>Q true H
theorem eE {X:Cx}:Vm X [] Kd:=fun _ _ _ H _ I h=>wpAny_tests_nil ⟨H,I,h⟩
theorem jE {X:Cx} {c:Expr} {t:TT} (h:PT X c t):Vm X [c] t:=fun pins s σ H Q I q=>wpAny_tests_one (h pins s σ H Q I q)
def jo (J:It) (g:TG) (tc:TT) (te:TE) (Q:VK) (D:Addr) (σ0:St) (H1:Hp):Prop:=
 ∃W:Nat->Nat->St->Hp->Prop,(∃m,W 0 m σ0 (upd H1 D (.lst []))) /\ ∀i m σ H,W i m σ H ->
  (J.stop i H/\Q (.ref D) H)\/(J.go i H /\ ∃N:St->Hp->Prop,(∀σ' H',N σ' H' -> ∃m',m'<m/\W (i+1) m' σ' H') /\ ∀x H',J.Rr i H x H'->g x σ H' fun σ2 H2=>tc σ2 H2 fun b H3=>
    if b=true then te σ2 H3 fun y H4=>∃acc,H4 D=some (.lst acc)/\acc.length<sizeLine/\N σ2 (upd H4 D (.lst (acc++[y]))) else N σ2 H3)
def Gy (own:List Str) (caps:List Nat) (wi:TI) (g:TG) (tc:TT) (te:TE):TE:=fun σ H Q=>wi σ H fun J H1=>∀D,H1 D=none->jo J g tc te Q D (st0 own caps σ) H1
section
variable {X:Cx} {elt tg iter:Expr} {ifs:List Expr} {scope:Scope} {pos:Pos} {N own:List Str} {caps:List Nat} {wi:TI} {g:TG} {tc:TT} {te:TE}
theorem yx {use:Option (Value->Sem Unit)} {Qv:Value->Shared->Prop} {pins:List (Addr×Obj)} {σ:St} {H:Hp} {s:Shared} {Q:VK} (hc:X.calm=true) (S:aR N own caps X.N X.env.scope scope)
 (hg:∀C s H fp,PG (dH X scope C N s H fp) tg g) (hcs:∀C s H fp,Vm (dH X scope C N s H fp) ifs tc) (he:∀C s H fp,PE (dH X scope C N s H fp) elt te)
 (hi:PI X tg iter wi) (hs:∀x,foldedSetIterable iter X.env x=pure x)
 (I:Inv X pins σ H s) (h:Gy own caps wi g tc te σ H Q)
 (fin:∀(D C:Addr) (H':Hp) (s':Shared),(∃m,s'.heap.Ns C m)->Inv X pins σ H' s'->(∀h',Heap.SameBut C s'.heap h'->Inv X pins σ H' {s' with heap:=h'})->mJ X pins H' C->Q (.ref D) H' ->
   compPost (model X.prog X.w) X.A X.xe use Qv (.ref D) C (.ok .next) s'):
 wpAny (model X.prog X.w) X.A (comprehension (.ListComp elt [⟨tg,iter,ifs,0⟩] scope pos) scope X.env (firstIterPos [⟨tg,iter,ifs,0⟩] pos) (newList []) false (eval iter X.env) use) Qv X.xe s:=by
 refine wpAny_comprehension_free (use:=use) rfl hs (Aa (S.Js I.ok)) S.kind S.names (cC (hi pins s σ H _ I h) fun xv s1 h1=>cC h1 fun itv s2 h2=> ?_);obtain ⟨it,fp,tn,J,H2,e,I2,T,st2,f2,q2⟩:=h2;subst e;refine wpAny_newList ?_;refine wpAny_newFunctionEnv S.Ia (by intro y hy;simp at hy) (fun h1 Ud hsb1=> ?_) S.kind;dsimp only at Ud hsb1 ⊢;have hD:H2 s2.heap.objs.size=none:=I2.hok.fresh (Nat.le_refl _);have hsz:(s2.heap.push {cls:= .type "list",data:= .seq ([]:List Value).toArray}).objs.size=s2.heap.objs.size+1:=Heap.size_push ..
 have old:∀b o,s2.heap.get? b=some o->h1.get? b=some o:=fun b o e=>by
  refine hsb1.extBut b o (Nat.ne_of_lt (by have:=tX (Heap.lt_size e);rw [hsz];omega)) (Heap.get?_push_of_some _ (Heap.get?_push_of_some _ e))
 have hl:h1.get? s2.heap.objs.size=some {cls:= .type "list",data:= .seq #[]}:=
  hsb1.extBut _ _ (Nat.ne_of_lt (by rw [hsz];omega)) (Heap.get?_push_of_some _ (Heap.get?_push_size _ rfl))
 have hfo:∀b∈fp,∃o,s2.heap.get? b=some o:=fun b hb=>let ⟨o,e,_⟩:=T.obj _ _ st2 b hb;⟨o,e⟩
 have I4:=Inv.comp (C:=(s2.heap.push {cls:= .type "list",data:= .seq ([]:List Value).toArray}).objs.size) (t:=s2.toks+([]:List (Str×Value)).length) I2 S f2 hfo rfl hsz old Ud hl;obtain ⟨W,⟨m0,w0⟩,turn⟩:=q2 _ hD;generalize hCe:(s2.heap.push {cls:= .type "list",data:= .seq ([]:List Value).toArray}).objs.size=C at *;generalize hDe:s2.heap.objs.size=D at *;have hDC:D≠C:=by omega
 have loop:∀s3:Shared,s3={s2 with heap:=h1,toks:=s2.toks+([]:List (Str×Value)).length} ->
  codeAny (model X.prog X.w) X.A (.compLoop (.ListComp elt [⟨tg,iter,ifs,0⟩] scope pos) 0 (.ref it) (.ref D) (dH X scope C N s2 H2 fp).env) (compPost (model X.prog X.w) X.A X.xe use Qv (.ref D) C) s3:=by
  rintro s3 rfl
  have kh:∀b∈fp,(upd H2 D (.lst [])) b=none:=fun b hb=>by
   obtain ⟨o,e⟩:=hfo b hb;rw [bA (Nat.ne_of_lt (by have:=tX (Heap.lt_size e);omega))];exact (f2 b hb).1
  have stat:∀{H':Hp},(∀b∈fp,H' b=none) -> ∀b∈fp,mJ (dH X scope C N s2 H2 fp) [] H' b:=fun hn b hb=>by
   obtain ⟨o,e⟩:=hfo b hb;have hlt:=tX (Heap.lt_size e);refine ⟨hn b hb, ?_,fun z=> ?_,.inl hb,fun x c e'=>(f2 b hb).2.2.2.2.1 x c (S.csub I2.ok e'),fun p hp=>(by cases hp)⟩
   ·exact Nat.ne_of_lt (show @LT.lt Nat _ b C by omega)
   ·rcases List.mem_cons.mp (I2.uR b z) with q|q
    ·exact (f2 b hb).2.1 q
    ·exact (f2 b hb).2.2.1 q
  refine vU (fun n s'=>∃i σ' H',Inv (dH X scope C N s2 H2 fp) [] σ' H' s'/\tn i s'.heap/\(∀b∈fp,H' b=none)/\W i n σ' H') ?_ m0
   ⟨0,_,_,I4,T.keep _ _ _ st2 fun b _ o e=>old b o e,kh,w0⟩
  rintro n s3 ⟨i,σ3,H3,I3,st3,Um,w3⟩;rcases turn i n σ3 H3 w3 with ⟨stop,qn⟩|⟨go,Nx,hNx,step⟩
  ·refine cC (T.done (dH X scope C N s2 H2 fp) rfl rfl rfl hc i [] s3 σ3 H3 _ I3 (stat Um) st3 stop) fun r s4 ⟨hr,J4⟩=> ?_
   subst hr;obtain ⟨m4,hn4,_⟩:=J4.loc;exact fin D C H3 s4 ⟨m4,hn4⟩ (I2.Gu f2 (by omega) J4 (Heap.SameBut.refl _ _)) (fun h' hs'=>I2.Gu f2 (by omega) J4 hs') (I2.vP (show s2.heap.objs.size<=C by omega) J4.free) qn
  ·refine cC (T.item (dH X scope C N s2 H2 fp) rfl rfl rfl hc i [] s3 σ3 H3 _ I3 (stat Um) st3 go) fun r s4 ⟨u,hr,h4⟩=> ?_
   subst hr;refine cC h4 fun _ s5 ⟨x,H5,I5,r5,y5,wu,fr5⟩=> ?_;have I5':=I5.pinned (stat fr5) (T.obj _ _ wu);refine cC (hg C s2 H2 fp _ s5 σ3 H5 x u _ I5' r5 (step x H5 y5)) fun _ s6 ⟨σ6,H6,I6,q6⟩=> ?_;refine cC (hcs C s2 H2 fp _ s6 σ6 H6 _ I6 q6) fun ok s7 ⟨H7,I7,q7⟩=> ?_
   have again:∀{σ8:St} {H8:Hp} {s8:Shared},Inv (dH X scope C N s2 H2 fp) ([]++qp fp s5.heap) σ8 H8 s8->Nx σ8 H8 -> ∃m,m<n /\ ∃i σ' H',Inv (dH X scope C N s2 H2 fp) [] σ' H' s8/\tn i s8.heap/\(∀b∈fp,H' b=none)/\W i m σ' H':=fun {σ8 H8 s8} I8 n8=>by
    obtain ⟨m',hm,w8⟩:=hNx _ _ n8;refine ⟨m',hm,i+1,σ8,H8,I8.mO,T.keep _ _ _ wu fun b hb o e=>(I8.pin (b,o) (List.mem_append_right _ (List.mem_append_right _ (jJ hb e)))).1,fun b hb=> ?_,w8⟩;obtain ⟨o,e,d⟩:=T.obj _ _ wu b hb;exact (I8.pin (b,o) (List.mem_append_right _ (List.mem_append_right _ (jJ hb e)))).2.1
   cases ok with
   | false=>
     rw [if_neg (by decide)] at q7;exact again I7 q7
   | true=>
     rw [if_pos rfl] at q7;refine cC (he C s2 H2 fp _ s7 σ6 H7 _ I7 q7) fun y s8 ⟨yv,H8,I8,r8,acc,ha,hlen,q8⟩=> ?_;exact cC (tY _ s8 σ6 H8 (.ref D) [yv] (.ref D) [y] (fun v H9=>Nx σ6 H9) I8 rfl (.cons r8 .nil) ⟨D,acc,yv,rfl,rfl,ha,hlen,q8⟩) fun _ s9 ⟨_,H9,I9,_,q9⟩=>again I9 q9
 exact codeAny_compStart_list (loop _ rfl) (T.self _ 0 _ _ _ (T.keep _ _ _ st2 fun b _ o e=>old b o e) (loop _ rfl))
theorem eF (hc:X.calm=true) (S:aR N own caps X.N X.env.scope scope) (hi:PI X tg iter wi)
 (hg:∀C s H fp,PG (dH X scope C N s H fp) tg g) (hcs:∀C s H fp,Vm (dH X scope C N s H fp) ifs tc) (he:∀C s H fp,PE (dH X scope C N s H fp) elt te)
 (hs:∀x,foldedSetIterable iter X.env x=pure x:=by intro _;rfl):PE X (.ListComp elt [⟨tg,iter,ifs,0⟩] scope pos) (Gy own caps wi g tc te):=by
 intro pins s σ H Q I h;rw [eval_ListComp];refine yx (use:=none) hc S hg hcs he hi hs I h ?_;intro D C H' s' hn I' hk _ q;obtain ⟨m,hn⟩:=hn;exact ⟨m,hn,fun h' hs'=>⟨.ref D,H',hk h' hs',rfl,q⟩⟩
theorem jF {i:Nat} {x:Str} {px sp:Pos} (hc:X.calm=true) (hN:X.N.Nodup) (hx:X.N[i]? = some x) (hl:Loc X.env.scope x) (S:aR N own caps X.N X.env.scope scope) (hi:PI X tg iter wi)
 (hg:∀C s H fp,PG (dH X scope C N s H fp) tg g) (hcs:∀C s H fp,Vm (dH X scope C N s H fp) ifs tc) (he:∀C s H fp,PE (dH X scope C N s H fp) elt te)
 (hsw:swapsWith (.ListComp elt [⟨tg,iter,ifs,0⟩] scope pos) (some (.Name x px)) sp.line X.env=pure true:=by rfl)
 (hs:∀x,foldedSetIterable iter X.env x=pure x:=by intro _;rfl) (hf:X.fn x=true\/X.env.scope.names.lookup x=some .local:=by first |exact .inl rfl|exact .inr rfl|assumption):
 PS X (.Assign [.Name x px] (.ListComp elt [⟨tg,iter,ifs,0⟩] scope pos) sp) (Om (Gy own caps wi g tc te) (jR i)):=by
 intro pins s σ H D I h;rw [exec_Assign_Name_used _ _ _ _ hsw];refine wpAny_bind (wpAny_standAt (wpAny_bind ?_));show wpAny _ X.A (do let _ ←comprehension (.ListComp elt [⟨tg,iter,ifs,0⟩] scope pos) scope X.env (firstIterPos [⟨tg,iter,ifs,0⟩] pos) (newList []) false (eval iter X.env) (some (assign (.Name x px) X.env))) _ _ s;refine wpAny_bind (wpAny_mono (yx (use:=some (assign (.Name x px) X.env)) (Qv:=fun _ s'=>SP X pins D .next s') hc S hg hcs he hi hs I h ?_) (fun _ s' hq=>wpAny_pure (wpAny_pure hq)) fun _ _ e=>e);intro E C H' s' hn I' hk fC q;obtain ⟨m,hn⟩:=hn;obtain ⟨f0,f1,f2,f3,f4,f5⟩:=fC;show wpAny _ X.A (assign (.Name x px) X.env (.ref E)) _ _ _;refine wpAny_assign_Name (tG I' hN hx hl (v:= .ref E) rfl (fun s2 I2 k=> ?_) hf);refine ⟨m, ?_,fun h' hs'=> ?_⟩
 ·obtain ⟨o,es,ep,ho,r⟩:=hn
  obtain ⟨a,ks,ka⟩:=k
  have hCa:C≠a:=fun z=>by
   rcases ka with q'|q'
   ·exact f1 (z.trans q')
   ·exact f4 x a q' z.symm
  exact ⟨o,es,ep,(ks.2 C hCa).trans ho,r⟩
 ·exact ⟨_,H',I2.turned (t':=s2.toks) (fun b o hb e=>(hs'.2 b hb).trans e) f0 f1 f3 f4 f5,q⟩
end
def Jv (N own:List Str) (caps:List Nat) (XN:List Str) (outer scope:Scope):Bool:=
 decide (scope.kind = .function)&&scope.names.all (fun y=>decide (y.2 ≠ .cell))&&scope.names.all (fun y=>decide (y.2 ≠ .local)||decide (scope.names.lookup y.1=some .local)) &&
 scope.names.all (fun y=>decide (y.2 ≠ .free)||decide (outer.names.lookup y.1=some .cell)||decide (outer.names.lookup y.1=some .free))&&decide N.Nodup&&decide (N.length=own.length+caps.length) &&
 (List.range caps.length).all (fun j=>match N[own.length+j]? with |some x=>decide (XN[caps.getD j 0]? = some x)&&decide ((x,NameKind.free)∈scope.names)&&decide (scope.names.lookup x=some .free)|none=>false)
theorem aR.of {N own:List Str} {caps:List Nat} {XN:List Str} {outer scope:Scope} (h:Jv N own caps XN outer scope=true):aR N own caps XN outer scope:=by
 unfold Jv at h;simp only [Bool.and_eq_true,decide_eq_true_eq,List.all_eq_true,Bool.or_eq_true] at h;obtain ⟨⟨⟨⟨⟨⟨h1,h2⟩,h3⟩,h4⟩,h5⟩,h6⟩,h7⟩:=h;refine ⟨h1,h2,fun y hy e=> ?_,fun y hy e=> ?_,h5,h6,fun j hj=> ?_⟩
 ·rcases h3 y hy with z|z
  ·exact absurd e z
  ·exact z
 ·rcases h4 y hy with (z|z)|z
  ·exact absurd e z
  ·exact .inl z
  ·exact .inr z
 ·have q:=h7 j (List.mem_range.mpr hj)
  cases e:N[own.length+j]? with
  | none=>rw [e] at q;cases q
  | some x=>
    rw [e] at q;simp only [Bool.and_eq_true,decide_eq_true_eq] at q;exact ⟨q.1.1.symm,x,rfl,q.1.2,q.2⟩
end L2
set_option Elab.async false
set_option linter.all false
set_option maxRecDepth 100000
set_option maxHeartbeats 4000000
namespace L2
open PySem PySem.Spec PyProof.Rows
mutual
def Dat (H:Hp):V->PyData->Prop
 | v,.none=>v = .non
 | v,.bool b=>v = .bl b
 | v,.int i=>v = .int i
 | v,.str x=>v = .str x
 | v,.list ds=>∃a vs,v = .ref a/\H a=some (.lst vs)/\aG H vs ds
 | v,.tuple ds=>∃a vs,v = .ref a/\H a=some (.tup vs)/\aG H vs ds
 | _,.dict _=>False
def aG (H:Hp):List V->List PyData->Prop
 | [],[]=>True
 | v::vs,d::ds=>Dat H v d/\aG H vs ds
 | [],_::_=>False
 | _::_,[]=>False
end
section
variable {H H':Hp}
theorem aG.length:∀{vs:List V} {ds:List PyData},aG H vs ds->vs.length=ds.length
 | [],[],_=>rfl
 | _::_,_::_,h=>by simp only [aG] at h;simp [aG.length h.2]
 | [],_::_,h=>by simp only [aG] at h
 | _::_,[],h=>by simp only [aG] at h
theorem aG.get:∀{vs:List V} {ds:List PyData} {i:Nat} {v:V},aG H vs ds->vs[i]? = some v -> ∃d,ds[i]? = some d/\Dat H v d
 | _::_,_::_,0,_,h,e=>by simp only [aG] at h;simp at e;subst e;exact ⟨_,rfl,h.1⟩
 | _::_,_::_,i+1,_,h,e=>by simp only [aG] at h;simp at e;obtain ⟨d,q,r⟩:=aG.get h.2 e;exact ⟨d,by simpa using q,r⟩
 | [],[],_,_,_,e=>by simp at e
 | [],_::_,_,_,h,_=>by simp only [aG] at h
 | _::_,[],_,_,h,_=>by simp only [aG] at h
theorem aG.getD:∀{vs:List V} {ds:List PyData} {i:Nat} {d:PyData},aG H vs ds->ds[i]? = some d -> ∃v,vs[i]? = some v/\Dat H v d
 | _::_,_::_,0,_,h,e=>by simp only [aG] at h;simp at e;subst e;exact ⟨_,rfl,h.1⟩
 | _::_,_::_,i+1,_,h,e=>by simp only [aG] at h;simp at e;obtain ⟨d,q,r⟩:=aG.getD h.2 e;exact ⟨d,by simpa using q,r⟩
 | [],[],_,_,_,e=>by simp at e
 | [],_::_,_,_,h,_=>by simp only [aG] at h
 | _::_,[],_,_,h,_=>by simp only [aG] at h
theorem aG.append:∀{vs ws:List V} {ds es:List PyData},aG H vs ds->aG H ws es->aG H (vs++ws) (ds++es)
 | [],_,[],_,_,g=>g
 | _::_,_,_::_,_,h,g=>by simp only [aG,List.cons_append] at h ⊢;exact ⟨h.1,aG.append h.2 g⟩
 | [],_,_::_,_,h,_=>by simp only [aG] at h
 | _::_,_,[],_,h,_=>by simp only [aG] at h
theorem aG.take:∀{vs:List V} {ds:List PyData} (n:Nat),aG H vs ds->aG H (vs.take n) (ds.take n)
 | _,_,0,_=>by simp only [List.take_zero,aG]
 | [],[],_+1,_=>by simp only [List.take_nil,aG]
 | _::_,_::_,n+1,h=>by simp only [aG,List.take_succ_cons] at h ⊢;exact ⟨h.1,aG.take n h.2⟩
 | [],_::_,_+1,h=>by simp only [aG] at h
 | _::_,[],_+1,h=>by simp only [aG] at h
theorem aG.drop:∀{vs:List V} {ds:List PyData} (n:Nat),aG H vs ds->aG H (vs.drop n) (ds.drop n)
 | _,_,0,h=>by simpa using h
 | [],[],_+1,_=>by simp only [List.drop_nil,aG]
 | _::_,_::_,n+1,h=>by simp only [aG,List.drop_succ_cons] at h ⊢;exact aG.drop n h.2
 | [],_::_,_+1,h=>by simp only [aG] at h
 | _::_,[],_+1,h=>by simp only [aG] at h
theorem aG.ints (ns:List Int):aG H (ns.map V.int) (ns.map PyData.int):=by
 induction ns with
 | nil=>simp only [List.map_nil,aG]
 | cons n r ih=>simp only [List.map_cons,aG,Dat];exact ⟨trivial,ih⟩
mutual
theorem Dat.mono (hl:∀a xs,H a=some (HO.lst xs)->H' a=some (HO.lst xs)) (ht:∀a xs,H a=some (HO.tup xs)->H' a=some (HO.tup xs)):∀(d:PyData) {v:V},Dat H v d->Dat H' v d
 | .none,_,h=>by simp only [Dat] at h ⊢;exact h
 | .bool _,_,h=>by simp only [Dat] at h ⊢;exact h
 | .int _,_,h=>by simp only [Dat] at h ⊢;exact h
 | .str _,_,h=>by simp only [Dat] at h ⊢;exact h
 | .list ds,_,h=>by simp only [Dat] at h ⊢;obtain ⟨a,vs,e,q,r⟩:=h;exact ⟨a,vs,e,hl _ _ q,aG.mono hl ht ds r⟩
 | .tuple ds,_,h=>by simp only [Dat] at h ⊢;obtain ⟨a,vs,e,q,r⟩:=h;exact ⟨a,vs,e,ht _ _ q,aG.mono hl ht ds r⟩
 | .dict _,_,h=>by simp only [Dat] at h
theorem aG.mono (hl:∀a xs,H a=some (HO.lst xs)->H' a=some (HO.lst xs)) (ht:∀a xs,H a=some (HO.tup xs)->H' a=some (HO.tup xs)):∀(ds:List PyData) {vs:List V},aG H vs ds->aG H' vs ds
 | [],[],_=>by simp only [aG]
 | d::ds,v::vs,h=>by simp only [aG] at h ⊢;exact ⟨Dat.mono hl ht d h.1,aG.mono hl ht ds h.2⟩
 | _::_,[],h=>by simp only [aG] at h
 | [],_::_,h=>by simp only [aG] at h
end
mutual
def LC:PyData->Bool
 | .tuple ds=>yd ds
 | .list _ | .dict _=>false
 | .none | .bool _ | .int _ | .str _=>true
def yd:List PyData->Bool
 | []=>true
 | d::ds=>LC d&&yd ds
end
mutual
theorem Dat.keep (ht:∀a xs,H a=some (HO.tup xs)->H' a=some (HO.tup xs)):∀(d:PyData) {v:V},LC d=true->Dat H v d->Dat H' v d
 | .none,_,_,h=>by simp only [Dat] at h ⊢;exact h
 | .bool _,_,_,h=>by simp only [Dat] at h ⊢;exact h
 | .int _,_,_,h=>by simp only [Dat] at h ⊢;exact h
 | .str _,_,_,h=>by simp only [Dat] at h ⊢;exact h
 | .list ds,_,i,h=>by simp only [LC] at i;cases i
 | .tuple ds,_,i,h=>by simp only [Dat] at h ⊢;simp only [LC] at i;obtain ⟨a,vs,e,q,r⟩:=h;exact ⟨a,vs,e,ht _ _ q,aG.keep ht ds i r⟩
 | .dict _,_,_,h=>by simp only [Dat] at h
theorem aG.keep (ht:∀a xs,H a=some (HO.tup xs)->H' a=some (HO.tup xs)):∀(ds:List PyData) {vs:List V},yd ds=true->aG H vs ds->aG H' vs ds
 | [],[],_,_=>by simp only [aG]
 | d::ds,v::vs,i,h=>by simp only [aG] at h ⊢;simp only [yd,Bool.and_eq_true] at i;exact ⟨Dat.keep ht d i.1 h.1,aG.keep ht ds i.2 h.2⟩
 | _::_,[],_,h=>by simp only [aG] at h
 | [],_::_,_,h=>by simp only [aG] at h
end
theorem bI {α:Type} (f:α->PyData) (h:∀x,LC (f x)=true):∀l:List α,yd (l.map f)=true
 | []=>rfl
 | a::l=>by simp only [List.map_cons,yd,h a,bI f h l,Bool.and_self]
end
section
variable {X:Cx} {pins:List (Addr×Obj)} {σ:St} {H:Hp} {s:Shared}
mutual
theorem Inv.reads (I:Inv X pins σ H s):∀(d:PyData) {v:V} {u:Value},Dat H v d->RelV v u -> ∃as,Reads s.heap u d as
 | .none,v,u,h,r=>by
   simp only [Dat] at h;subst h;cases (show u=Value.none from r);exact ⟨_,.none⟩
 | .bool b,v,u,h,r=>by
   simp only [Dat] at h;subst h;cases (show u=Value.bool b from r);exact ⟨_,.bool b⟩
 | .int i,v,u,h,r=>by
   simp only [Dat] at h;subst h;obtain ⟨t,q⟩:=(show ∃t,u=Value.int i t from r);cases q;exact ⟨_,.int i t⟩
 | .str x,v,u,h,r=>by
   simp only [Dat] at h;subst h;obtain ⟨t,q⟩:=(show ∃t,u=Value.str x t from r);cases q;exact ⟨_,.str x t⟩
 | .list ds,v,u,h,r=>by
   simp only [Dat] at h;obtain ⟨a,vs,rfl,q,g⟩:=h;cases (show u=Value.ref a from r);obtain ⟨its,rv,p,hz⟩:=I.list (aY.of q);obtain ⟨o,ho,hc,n,hd⟩:=p.isList;obtain ⟨as,ra⟩:=Inv.readsAll I ds g rv;exact ⟨_,.list ho hc hd (by simpa using ra)⟩
 | .tuple ds,v,u,h,r=>by
   simp only [Dat] at h;obtain ⟨a,vs,rfl,q,g⟩:=h;cases (show u=Value.ref a from r);obtain ⟨its,rv,p,hz⟩:=I.tuple (cH.of q);obtain ⟨o,ho,hc,n,hd⟩:=p;obtain ⟨as,ra⟩:=Inv.readsAll I ds g rv;exact ⟨_,.tuple ho hc hd (by simpa using ra)⟩
 | .dict _,_,_,h,_=>by simp only [Dat] at h
theorem Inv.readsAll (I:Inv X pins σ H s):∀(ds:List PyData) {vs:List V} {us:List Value},aG H vs ds->Vals vs us -> ∃as,ReadsAll s.heap us ds as
 | [],[],_,_,.nil=>⟨_,.nil⟩
 | d::ds,v::vs,_,h,.cons r rs=>by
   simp only [aG] at h;obtain ⟨as,ra⟩:=Inv.reads I d h.1 r;obtain ⟨bs,rb⟩:=Inv.readsAll I ds h.2 rs;exact ⟨_,.cons ra rb⟩
 | _::_,[],_,h,_=>by simp only [aG] at h
 | [],_::_,_,h,_=>by simp only [aG] at h
end
def KH (neg:Bool):R2:=fun x y H Q=>∃d e,Dat H x d/\Dat H y e/\SeqAt.shaped d=true/\SeqAt.shaped e=true/\Q (.bl (if neg then !PyData.eqv d e else PyData.eqv d e)) H
theorem Py (hu:X.A.units+64<cLine):lV X (compareOp .Eq) (KH false):=by
 intro pins s σ H x y v u Q I rx ry h;obtain ⟨d,e,h1,h2,s1,s2,q⟩:=h;obtain ⟨as,ra⟩:=I.reads d h1 rx;obtain ⟨bs,rb⟩:=I.reads e h2 ry;exact SeqAt.compareEq_shaped ra rb s1 s2 hu ⟨.bl _,H,I,rfl,q⟩
theorem Px (hu:X.A.units+64<cLine):lV X (compareOp .NotEq) (KH true):=by
 intro pins s σ H x y v u Q I rx ry h;obtain ⟨d,e,h1,h2,s1,s2,q⟩:=h;obtain ⟨as,ra⟩:=I.reads d h1 rx;obtain ⟨bs,rb⟩:=I.reads e h2 ry;exact SeqAt.compareNe_shaped ra rb s1 s2 hu ⟨.bl _,H,I,rfl,q⟩
theorem Jw {c:Value} {cv:V} (rc:RelV cv c):gW X (.builtin "isinstance") (fun xs H Q=>∃x t b,xs=[x,cv]/\ni X.K H x t/\PySem.W.kitOne X.K t c=some b/\Q (.bl b) H):=by
 intro pins s σ H xs us Q I r h;obtain ⟨x,t,b,rfl,ty,e,q⟩:=h;obtain ⟨u,w',rfl,r1,r2⟩:=vals2 r
 have:w'=c:=by
  cases cv with
  | non=>exact (show w'=Value.none from r2).trans (show c=Value.none from rc).symm
  | bl b=>exact (show w'=Value.bool b from r2).trans (show c=Value.bool b from rc).symm
  | ref a=>exact (show w'=Value.ref a from r2).trans (show c=Value.ref a from rc).symm
  | ty n=>exact (show w'=Value.type n from r2).trans (show c=Value.type n from rc).symm
  | int i=>obtain ⟨t1,rfl⟩:=(show ∃t,c=Value.int i t from rc);unfold PySem.W.kitOne at e;exact absurd e (by cases ty<;>simp [PySem.W.kitCls])
  | str i=>obtain ⟨t1,rfl⟩:=(show ∃t,c=Value.str i t from rc);unfold PySem.W.kitOne at e;exact absurd e (by cases ty<;>simp [PySem.W.kitCls])
  | CT i=>obtain ⟨t1,rfl⟩:=(show ∃t,c=Value.bytes i t from rc);unfold PySem.W.kitOne at e;exact absurd e (by cases ty<;>simp [PySem.W.kitCls])
  | flt i=>obtain ⟨t1,rfl⟩:=(show ∃t,c=Value.float i t from rc);unfold PySem.W.kitOne at e;exact absurd e (by cases ty<;>simp [PySem.W.kitCls])
 subst this;exact Es I r1 ty e fun tk=>⟨.bl b,H,I.tok _,rfl,q⟩
end
section
variable {prog:Program} {w:World} {A:Around}
theorem iw (hh:A.handled=none) (it a:Addr) (hne:it≠a) (its:List Value):Walks prog w A it [it,a] [it] its.length (fun i v=>its[i]? = some v) (fun i h=>h.IsListIter it a i/\h.IsList a its.toArray) where
 sub:=by simp
 frame:=fun i h h' ⟨s1,o,ho,hc⟩ k=>⟨s1.at fun o e=>k it (by simp) o e,o,k a (by simp) o ho,hc⟩
 item:=fun i s Q E hi ⟨s1,s2⟩ hQ=>wpAny_pyNext_list_item s1 s2 (x:=its[i]) (by simp [hi]) fun h' st' sb=>
  hQ _ h' s.toks (by simp [hi]) ⟨st',s2.extBut sb.extBut hne.symm⟩ fun b o hb e=>(sb.2 b (by simpa using hb)).trans e
 done:=fun s Q E ⟨s1,s2⟩ hQ=>wpAny_pyNext_list_end hh s1 s2 (by simp) fun h' eb=>hQ h' s.toks fun b o hb e=>eb b o (by simpa using hb) e
 self:=fun i s Q E ⟨s1,_⟩ hQ=>wpAny_pyIter_listiter s1 hQ
end
section
variable {X:Cx}
theorem sJ (bs:List Bool):(List.range bs.length).all (fun i=>(bs[i]?).getD false)=bs.all id:=by
 rw [Bool.eq_iff_iff,List.all_eq_true,List.all_eq_true];constructor
 ·intro h b hb
  obtain ⟨i,hi,rfl⟩:=List.getElem_of_mem hb;have:=h i (by simpa using hi);simpa [hi] using this
 ·intro h i hi
  have hi':i<bs.length:=by simpa using hi
  simpa [hi'] using h bs[i] (List.getElem_mem hi')
theorem yW {bs:List Bool}:∀{us:List Value},Vals (bs.map V.bl) us->us=bs.map Value.bool:=by
 induction bs with
 | nil=>intro us r;cases r;rfl
 | cons b bs ih=>
   intro us r;cases r with
   | cons r rs=>cases (show _=Value.bool b from r);rw [ih rs];rfl
theorem rm (hc:X.calm=true):gW X (.builtin "all") (fun xs H Q=>∃(p:Addr) (bs:List Bool),xs=[.ref p]/\aY X.K H p (bs.map V.bl)/\Q (.bl (bs.all id)) H):=by
 intro pins s σ H xs us Q I r h;obtain ⟨p,bs,rfl,hq,q⟩:=h;obtain ⟨u,rfl,rx⟩:=vals1 r;cases rx;obtain ⟨its,rv,pl,hz⟩:=I.list hq;have e:=yW rv;have hlen:its.length=bs.length:=by rw [e,List.length_map]
 refine call_all_walk (wpAny_pyIter_list pl.isList ⟨s.heap.objs.size,[s.heap.objs.size,p],[s.heap.objs.size],its.length,_,_,fun i=>(bs[i]?).getD false,rfl,
  iw (show X.A.in1.handled=none from I.ok.hd hc) s.heap.objs.size p ?_ its,⟨⟨_,Heap.get?_push_size _ rfl,rfl,rfl⟩, ?_⟩, ?_, ?_⟩)
 ·intro z
  obtain ⟨o,ho,_⟩:=pl.isList;have:=Heap.lt_size ho;rw [←z] at this;exact Nat.lt_irrefl _ this
 ·obtain ⟨o,ho,hcl⟩:=pl.isList
  exact ⟨o,Heap.get?_push_of_some _ ho,hcl⟩
 ·intro i v s1 Q1 E1 hP hQ
  rw [e,List.getElem?_map] at hP;cases r:bs[i]? with
  | none=>rw [r] at hP;cases hP
  | some b=>
    rw [r] at hP;cases hP;simp only [r,Option.getD_some] at hQ;exact wpAny_truthy_bool hQ
 ·intro h' tk k
  rw [hlen,sJ];have f:=I.vP (H':=H) (b:=s.heap.objs.size) (Nat.le_refl _) (I.hok.fresh (Nat.le_refl _));have I2:Inv X pins σ H {s with heap:=h',toks:=tk}:=I.turned (h':=h') (t':=tk) (it:=s.heap.objs.size) (fun b o hb e=>k b o (by simpa using hb) (Heap.get?_push_of_some _ e)) f.1 f.2.1 f.2.2.2.1 f.2.2.2.2.1 f.2.2.2.2.2;exact ⟨.bl _,H,I2,rfl,q⟩
end
end L2
set_option Elab.async false
set_option linter.all false
set_option maxRecDepth 100000
set_option maxHeartbeats 4000000
namespace L2
open PySem PySem.Spec PyProof.Rows
def FnAt (P:Program) (w:World) (K:PySem.W.Frag) (mg:Str->Option Value) (base:Heap) (k:Nat) (x:Str) (ps:List Str) (sp:Sp):Prop:=
 ∃f fd,cT P w K mg base jV k f fd ps sp/\mg x=some (.ref f)/\PySem.W.keepIn K (.ref f)=true/\Binds K fd ps []
section
variable {X:Cx} {k j:Nat} {x:Str} {ps:List Str} {sp:Sp} {e:Expr} {es:List Expr} {t:TA} {p pos:Pos}
theorem aZ (F:FnAt X.prog X.w X.K X.mg X.base k x ps sp) (hr:i_ k X.A) (hg:Gl X x) (ha:PA X (e::es) t) (hd:(x==("__debug__" :Str))=false:=by decide)
 (he:starEach (e::es) X.env=(false,eval e X.env)::starEach es X.env:=by rfl) (hpl:(backTo pos (starEach es X.env)).any (·.1)=false:=by rfl):
 PE X (.Call (.Name x p) (e::es) [] pos) (M4 sp [] E0 t):=by
 obtain ⟨f,fd,G,hm,hk,hb⟩:=F;exact K5 G hr hg hm hk hb .nil S_ ha (hdb:=hd) (he:=he) (hpl:=hpl)
end
theorem rA:bootBuiltins "all" = some (.builtin "all"):=by kernel_rfl
theorem bH:bootBuiltins "len" = some (.builtin "len"):=by kernel_rfl
theorem Q9:bootBuiltins "min" = some (.builtin "min"):=by kernel_rfl
theorem Q_:bootBuiltins "max" = some (.builtin "max"):=by kernel_rfl
theorem Jy:bootBuiltins "sum" = some (.builtin "sum"):=by kernel_rfl
theorem Fz:bootBuiltins "sorted" = some (.builtin "sorted"):=by kernel_rfl
theorem cQ:bootBuiltins "isinstance" = some (.builtin "isinstance"):=by kernel_rfl
theorem Jz:bootBuiltins "int" = some (.type "int"):=by kernel_rfl
theorem CV:bootBuiltins "bool" = some (.type "bool"):=by kernel_rfl
theorem iR:bootBuiltins "list" = some (.type "list"):=by kernel_rfl
theorem yE:bootBuiltins "tuple" = some (.type "tuple"):=by kernel_rfl
theorem Mp:bootBuiltins "dict" = some (.type "dict"):=by kernel_rfl
section
variable {X:Cx}
end
def Kp (r:Addr) (H H':Hp):Prop:=∀b o,H b=some o->b≠r->H' b=some o
theorem Kp.of_same {r:Addr} {H H':Hp} (h:Same H H'):Kp r H H':=fun b o e _=>h b o e
theorem Kp.trans {r:Addr} {H H1 H2:Hp} (a:Kp r H H1) (b:Kp r H1 H2):Kp r H H2:=fun c o h n=>b c o (a c o h n) n
theorem Kp.refl (r:Addr) (H:Hp):Kp r H H:=fun _ _ h _=>h
theorem Kp.set {r:Addr} {H:Hp} {o:HO}:Kp r H (upd H r o):=fun b u e n=>by rw [bA n];exact e
theorem aD {H:Hp} {p:Addr} {o:HO} (h:H p=none):Same H (upd H p o):=fun b u e=>by rw [bA (aC e h)];exact e
theorem Same.tups {H H':Hp} (e:Same H H'):∀a xs,H a=some (HO.tup xs)->H' a=some (HO.tup xs):=fun a xs h=>e _ _ h
theorem Same.R0 {K:PySem.W.Frag} {H H':Hp} (e:Same H H'):∀a xs,aY K H a xs->aY K H' a xs:=fun a xs h=>e.seq h
theorem Kp.tups {H H':Hp} {r:Addr} {ys:List V} (e:Kp r H H') (hr:H r=some (.lst ys)):∀a xs,H a=some (HO.tup xs)->H' a=some (HO.tup xs):=fun a xs h=>e _ _ h (lO h hr (by intro z;cases z))
theorem Kp.tups' {H H':Hp} {r:Addr} {kvs:List (Key×V)} (e:Kp r H H') (hr:H r=some (.dK kvs)):∀a xs,H a=some (HO.tup xs)->H' a=some (HO.tup xs):=fun a xs h=>e _ _ h (lO h hr (by intro z;cases z))
end L2
namespace L2
open PySem PySem.Spec PyProof.Rows
section
variable {X:Cx} {K:PySem.W.Frag}
theorem aJ (h:X.K=K):Gg X (O8 K):=by subst h;exact Ci
theorem aO (h:X.K=K):Gg X (O7 K):=by subst h;exact IW
theorem pB (h:X.K=K):Gg X (Yc K):=by subst h;exact Qp
theorem pX (h:X.K=K):Vk X (Ss K):=by subst h;exact Kq
theorem gY (h:X.K=K):Vk X (Sq K):=by subst h;exact Ov
def Yb (K:PySem.W.Frag):List V->Hp->VK->Prop:=fun xs H Q=>∃(p:Addr) (ys:List V),xs=[.ref p]/\(aY K H p ys\/cH K H p ys)/\Q (.int ys.length) H
theorem aH (h:X.K=K):gW X (.builtin "len") (Yb K):=by subst h;exact vX
def KC (K:PySem.W.Frag):List V->Hp->VK->Prop:=fun xs H Q=>∃(p:Addr) (ys:List V),xs=[.ref p]/\(aY K H p ys\/cH K H p ys) /\ ∀l,H l=none->Q (.ref l) (upd H l (.lst ys))
theorem dF (h:X.K=K):gW X (.type "list") (KC K):=by subst h;exact vW
def SN (K:PySem.W.Frag):List V->Hp->VK->Prop:=fun xs H Q=>∃(p:Addr) (bs:List Bool),xs=[.ref p]/\aY K H p (bs.map V.bl)/\Q (.bl (bs.all id)) H
theorem dB (h:X.K=K) (hc:X.calm=true):gW X (.builtin "all") (SN K):=by subst h;exact rm hc
theorem vd (h:X.K=K) (hu:X.A.units+64<cLine):lV X (compareOp .Eq) (KH false):=by subst h;exact Py hu
theorem mX (h:X.K=K) (hu:X.A.units+64<cLine):lV X (compareOp .NotEq) (KH true):=by subst h;exact Px hu
theorem cN {tg l:Expr} {tl:TE} (h:X.K=K) (hl:PE X l tl):PI X tg l (Ni K tl):=by subst h;exact K3 hl
theorem BK {tg l:Expr} {tl:TE} (h:X.K=K) (hl:PE X l tl):PI X tg l (T5 K tl):=by subst h;exact Pj hl
def Yd (K:PySem.W.Frag) (c:Value) (cv:V):List V->Hp->VK->Prop:=fun xs H Q=>∃x t b,xs=[x,cv]/\ni K H x t/\PySem.W.kitOne K t c=some b/\Q (.bl b) H
theorem gD {c:Value} {cv:V} (h:X.K=K) (rc:RelV cv c):gW X (.builtin "isinstance") (Yd K c cv):=by subst h;exact Jw rc
theorem gB {o e:Expr} {to:TE} {t:TA} {apos cpos:Pos} (h:X.K=K) (ho:PE X o to) (ha:PA X [e] t)
 (hbase:attributeBase o "append" X.env (eval o X.env)=eval o X.env:=by rfl)
 (hfew:((backTo cpos (starEach [e] X.env)).all (fun x=> !x.1)&&(backToKw cpos (keywordEach [] X.env)).all (fun x=>x.1.isSome)
   && decide (([e]:List Expr).length+([]:List Keyword).length+(if ([]:List Keyword).isEmpty then 0 else 1)<30))=true:=by rfl)
 (hline:(apos.endLine==cpos.line)=true:=by rfl) (hs:starEach [e] X.env=(false,eval e X.env)::starEach [] X.env:=by rfl) (hplain:(backTo cpos (starEach [] X.env)).any (·.1)=false:=by rfl):
 PE X (.Call (.Attribute o "append" apos) [e] [] cpos) (VF K "list" Bs to t):=by
 subst h;exact M9 PySem.F.plainAttrs_list PySem.F.slot_list_append PySem.F.type_list_append tY ho ha hbase hfew hline hs hplain
end
end L2
namespace L2
open PySem
section
variable {K:PySem.W.Frag} {a D:Addr} {xs:List V} {g:TG} {tc:TT} {te:TE} {Q:VK} {σ0:St} {H1:Hp}
theorem lH (Pv:Nat->St->Hp->Prop) (h0:Pv 0 σ0 (upd H1 D (.lst []))) (hl:∀i σ H,i<=xs.length->Pv i σ H->aY K H a xs)
 (hs:∀i x σ H,xs[i]? = some x->Pv i σ H->g x σ H fun σ2 H2=>tc σ2 H2 fun b H3=>
   if b=true then te σ2 H3 fun y H4=>∃acc,H4 D=some (.lst acc)/\acc.length<sizeLine/\Pv (i+1) σ2 (upd H4 D (.lst (acc++[y]))) else Pv (i+1) σ2 H3)
 (hd:∀σ H,Pv xs.length σ H->Q (.ref D) H):jo (J5 K a) g tc te Q D σ0 H1:=by
 refine ⟨fun i m σ H=>m=xs.length - i/\i<=xs.length/\Pv i σ H,⟨xs.length,by simp,Nat.zero_le _,h0⟩, ?_⟩;rintro i m σ H ⟨rfl,hi,p⟩;have q:=hl i σ H hi p
 by_cases hlt:i<xs.length
 ·refine .inr ⟨⟨xs,xs[i],q,by simp [hlt]⟩,Pv (i+1),fun σ' H' p'=>⟨xs.length - (i+1),by omega,rfl,hlt,p'⟩,fun x H' y=> ?_⟩
  obtain ⟨e,y⟩:=y;subst e;exact hs i x σ _ (y xs q) p
 ·have e:i=xs.length:=by omega
  subst e;exact .inl ⟨⟨xs,q,Nat.le_refl _⟩,hd σ H p⟩
theorem Ju (Pv:Nat->St->Hp->Prop) (h0:Pv 0 σ0 (upd H1 D (.lst []))) (hl:∀i σ H,i<=xs.length->Pv i σ H->cH K H a xs)
 (hs:∀i x σ H,xs[i]? = some x->Pv i σ H->g x σ H fun σ2 H2=>tc σ2 H2 fun b H3=>
   if b=true then te σ2 H3 fun y H4=>∃acc,H4 D=some (.lst acc)/\acc.length<sizeLine/\Pv (i+1) σ2 (upd H4 D (.lst (acc++[y]))) else Pv (i+1) σ2 H3)
 (hd:∀σ H,Pv xs.length σ H->Q (.ref D) H):jo (W_ K a) g tc te Q D σ0 H1:=by
 refine ⟨fun i m σ H=>m=xs.length - i/\i<=xs.length/\Pv i σ H,⟨xs.length,by simp,Nat.zero_le _,h0⟩, ?_⟩;rintro i m σ H ⟨rfl,hi,p⟩;have q:=hl i σ H hi p
 by_cases hlt:i<xs.length
 ·refine .inr ⟨⟨xs,xs[i],q,by simp [hlt]⟩,Pv (i+1),fun σ' H' p'=>⟨xs.length - (i+1),by omega,rfl,hlt,p'⟩,fun x H' y=> ?_⟩
  obtain ⟨e,y⟩:=y;subst e;exact hs i x σ _ (y xs q) p
 ·have e:i=xs.length:=by omega
  subst e;exact .inl ⟨⟨xs,q,Nat.le_refl _⟩,hd σ H p⟩
theorem qX {lo:Int} {n:Nat} (Pv:Nat->St->Hp->Prop) (h0:Pv 0 σ0 (upd H1 D (.lst [])))
 (hs:∀i σ H,i<n->Pv i σ H->g (.int (lo+i)) σ H fun σ2 H2=>tc σ2 H2 fun b H3=>
   if b=true then te σ2 H3 fun y H4=>∃acc,H4 D=some (.lst acc)/\acc.length<sizeLine/\Pv (i+1) σ2 (upd H4 D (.lst (acc++[y]))) else Pv (i+1) σ2 H3)
 (hd:∀σ H,Pv n σ H->Q (.ref D) H):jo (Mw lo n) g tc te Q D σ0 H1:=by
 refine ⟨fun i m σ H=>m=n - i/\i<=n/\Pv i σ H,⟨n,by simp,Nat.zero_le _,h0⟩, ?_⟩;rintro i m σ H ⟨rfl,hi,p⟩
 by_cases hlt:i<n
 ·refine .inr ⟨hlt,Pv (i+1),fun σ' H' p'=>⟨n - (i+1),by omega,rfl,hlt,p'⟩,fun x H' y=> ?_⟩
  obtain ⟨e,y⟩:=y;subst e y;exact hs i σ _ hlt p
 ·have e:i=n:=by omega
  subst e;exact .inl ⟨Nat.le_refl _,hd σ H p⟩
end
end L2
set_option Elab.async false
set_option linter.all false
set_option maxRecDepth 100000
set_option maxHeartbeats 4000000
namespace L2
open PySem PySem.Spec PyProof.Rows
section
variable {α:Type} (f:α->PyData)
theorem q_:∀(l:List α),(∀x∈l,(f x).canLay0=true)->PyData.canLayAll0 (l.map f)=true
 | [],_=>rfl
 | a::l,h=>by
   show (PyData.canLay0 (f a)&&PyData.canLayAll0 (l.map f))=true;rw [h a List.mem_cons_self,q_ l fun x hx=>h x (List.mem_cons_of_mem _ hx)];rfl
theorem ig (k:Nat):∀(l:List α),(∀x∈l,(f x).depth<=k)->PyData.depthAll (l.map f)<=k
 | [],_=>Nat.zero_le _
 | a::l,h=>by
   show max (PyData.depth (f a)) (PyData.depthAll (l.map f))<=k;exact Nat.max_le.mpr ⟨h a List.mem_cons_self,ig k l fun x hx=>h x (List.mem_cons_of_mem _ hx)⟩
theorem oN {l:List α} (k:Nat) (hk:k<64) (h1:∀x∈l,(f x).canLay0=true) (h2:∀x∈l,(f x).depth<=k):SeqAt.shaped (.list (l.map f))=true:=by
 unfold SeqAt.shaped;have e1:PyData.canLay0 (.list (l.map f))=true:=q_ f l h1
 have e2:PyData.depth (.list (l.map f))<=64:=by
  show PyData.depthAll (l.map f)+1<=64;have:=ig f k l h2;omega
 rw [e1,decide_eq_true e2];rfl
theorem qQ [DecidableEq α] (h:∀x y,PyData.eqv (f x) (f y)=decide (x=y)):∀(l m:List α),PyData.eqvAll (l.map f) (m.map f)=decide (l=m)
 | [],[]=>rfl
 | [],_::_=>by simp only [List.map_nil,List.map_cons,PyData.eqvAll];exact (decide_eq_false (by intro z;cases z)).symm
 | _::_,[]=>by simp only [List.map_nil,List.map_cons,PyData.eqvAll];exact (decide_eq_false (by intro z;cases z)).symm
 | a::l,b::m=>by
   simp only [List.map_cons,PyData.eqvAll];rw [h a b,qQ h l m]
   by_cases e1:a=b
   ·subst e1
    by_cases e2:l=m
    ·subst e2;simp
    ·simp [e2]
   ·simp [e1]
theorem fY [DecidableEq α] (h:∀x y,PyData.eqv (f x) (f y)=decide (x=y)) (l m:List α):PyData.eqv (.list (l.map f)) (.list (m.map f))=decide (l=m):=by
 simp only [PyData.eqv];exact qQ f h l m
end
theorem dz {H:Hp} {a:Addr} {vs:List V} {ds:List PyData} (h:H a=some (.lst vs)) (d:aG H vs ds):Dat H (.ref a) (.list ds):=by
 simp only [Dat];exact ⟨a,vs,rfl,h,d⟩
theorem xZ (K:PySem.W.Frag):PySem.W.kitOne K (.type "int") (.type "int")=some true:=rfl
theorem m6 (K:PySem.W.Frag):PySem.W.kitOne K (.type "int") (.type "bool")=some false:=by kernel_rfl
theorem lQ (K:PySem.W.Frag):PySem.W.kitOne K (.type "list") (.type "list")=some true:=rfl
theorem jQ (K:PySem.W.Frag):PySem.W.kitOne K (.type "tuple") (.type "tuple")=some true:=rfl
end L2
namespace L2
open PySem
theorem yw (xs:List V) (k:Nat):iH xs none (some (k:Int))=xs.take k:=by
 unfold iH;rw [HT.wO,HT.Bj,List.drop_zero,Nat.sub_zero]
 by_cases h:k<=xs.length
 ·rw [Nat.min_eq_left h]
 ·rw [Nat.min_eq_right (by omega),List.take_of_length_le (Nat.le_refl _),List.take_of_length_le (by omega)]
theorem qW (xs:List V) (k:Nat):iH xs (some (k:Int)) none=xs.drop k:=by
 unfold iH;rw [HT.wO,HT.Bj]
 by_cases h:k<=xs.length
 ·rw [Nat.min_eq_left h,List.take_of_length_le (by rw [List.length_drop];exact Nat.le_refl _)]
 ·rw [Nat.min_eq_right (by omega),Nat.sub_self,List.take_zero,List.drop_of_length_le (by omega)]
end L2
set_option Elab.async false
set_option linter.all false
set_option maxRecDepth 100000
set_option maxHeartbeats 4000000
namespace PySem.W
open PySem PySem.Spec PySem.Calls PyProof.Rows
section
variable {prog:Program} {w:World} {A:Around} {E:Value->Shared->Prop} {s:Shared} {K:Frag} {x D:Addr} {ox:Obj} {odo:Option Obj} {name:Str}
end
end PySem.W
set_option Elab.async false
set_option linter.all false
set_option maxRecDepth 100000
set_option maxHeartbeats 4000000
namespace L2
open PySem PySem.Spec PyProof.Rows
section
variable {M:Model} {A:Around} {E:Value->Shared->Prop} {s:Shared} {base:Heap} {env:Env} {outer:List Env} {L e:Addr}
end
section
variable {X:Cx} {pins:List (Addr×Obj)} {σ:St} {H:Hp} {s:Shared} {e:Addr}
end
end L2
set_option Elab.async false
set_option linter.all false
set_option maxRecDepth 100000
set_option maxHeartbeats 4000000
namespace L2
open PySem PySem.Spec PyProof.Rows
section
variable {X:Cx} {k:Nat} {x:Str} {ps:List Str} {sp:Sp} {e:Expr} {es:List Expr} {t:TA} {p pos:Pos} {E:St->XK}
end
section
variable {P:Program} {w:World} {K:PySem.W.Frag} {mg:Str->Option Value} {base:Heap}
end
section
variable {X:Cx} {E:St->XK} {x:Str} {C:Addr} {B newId initId:String} {bmB:List Value} {e0:Expr} {rest:List Expr} {ta:TA} {np cpos pos:Pos}
end
section
variable {X:Cx} {pins:List (Addr×Obj)} {σ:St} {H:Hp} {s:Shared}
end
section
variable {M:Model} {A:Around} {Er:Value->Shared->Prop} {s:Shared} {K:PySem.W.Frag} {e C D:Addr}
end
end L2
set_option Elab.async false
set_option linter.all false
set_option maxRecDepth 100000
set_option maxHeartbeats 4000000
namespace L2
open PySem PySem.Spec PyProof.Rows
section
variable {X:Cx} {pins:List (Addr×Obj)} {σ:St} {H:Hp} {s:Shared}
end
section
variable {X:Cx} {body suite:List Stmt} {b0:Stmt} {n cn:Str} {i:Nat} {Dc:Addr} {tb:(St->XK)->TS} {th:TS} {cp hpos pos:Pos}
end
section
variable {X:Cx} {K:PySem.W.Frag}
end
end L2
set_option Elab.async false
set_option linter.all false
set_option maxRecDepth 100000
set_option maxHeartbeats 4000000
namespace L2
open PySem PySem.Spec PyProof.Rows
section
variable {X:Cx} {K:PySem.W.Frag}
end
end L2
namespace L2
open PySem
end L2
set_option Elab.async false
set_option linter.all false
set_option maxRecDepth 100000
set_option maxHeartbeats 4000000
namespace L2
open PySem PySem.Spec PyProof.Rows
section
variable {X:Cx} {pins:List (Addr×Obj)} {σ:St} {H:Hp} {s:Shared} {h':Heap}
theorem Inv.Ba {t':Nat} {fp:List Addr} (I:Inv X pins σ H s) (hf:∀b∈fp,mJ X pins H b) (k:∀b o,b∉fp->s.heap.get? b=some o->h'.get? b=some o):Inv X pins σ H {s with heap:=h',toks:=t'}:=by
 have Qe:∀b u,H b=some u->b∉fp:=fun b u e z=>by rw [(hf b z).1] at e;cases e
 refine I.step (g':=s.gens) (d':=s.drawn) (ch:=fp) (fun b hb=> ?_) (fun b o _ _ hc e _=>k b o hc e) (fun b o _ _ hc e _=>⟨o.slots,k b o hc e⟩) (fun _ _ _ _ n=>n)
  (fun b o hc e=>⟨o,k b o hc e⟩) (fun _ _ e=>e) (fun _ _ _ e=>e) (fun b ps e=>⟨#[],by rw [e];simp⟩) (fun m hm=> ?_) (fun b u e=> ?_) I.bare
 ·obtain ⟨f0,f1,f2,f3,f4,f5⟩:=hf b hb
  exact ⟨f3,f1,f4,f5⟩
 ·obtain ⟨o,es,ep,ho,r⟩:=hm
  exact ⟨o,es,ep,k _ o (fun z=>(hf _ z).2.1 rfl) ho,r⟩
 ·refine (I.hok b u e).stay (fun c v hc q=>k c v ?_ q) (fun _ q=>q) fun _ _ q=>q
  rcases hc with z|z
  ·rw [z];exact Qe b u e
  ·exact Qe c _ z
theorem mJ.upd {b p:Addr} {o:HO} (h:mJ X pins H b) (n:b≠p):mJ X pins (upd H p o) b:=by
 obtain ⟨f0,r⟩:=h;exact ⟨by rw [bA n];exact f0,r⟩
theorem Jj {h:Heap} {o u:Obj} {b:Addr} (ho:o.isFreed=false) (e:(h.push o).get? b=some u):(b=h.objs.size/\u=o)\/h.get? b=some u:=by
 by_cases hb:b=h.objs.size
 ·subst hb
  rw [Heap.get?_push_size _ ho] at e;exact .inl ⟨rfl,(Option.some.inj e).symm⟩
 ·refine .inr ?_
  have lt:=Heap.lt_size e
  have V5:b<h.objs.size:=by
   have:(h.push o).objs.size=h.objs.size+1:=by simp [Heap.push]
   rw [this] at lt;exact Nat.lt_of_le_of_ne (Nat.le_of_lt_succ lt) hb
  have:(h.push o).get? b=h.get? b:=by
   simp only [Heap.get?,Heap.push];rw [Array.getElem?_push_lt V5,Array.getElem?_eq_getElem V5]
  rw [←this];exact e
end
section
variable {X:Cx}
end
def W9 (K:PySem.W.Frag) (l1 l2:Addr):It:=
 ⟨fun i H=>∃xs ys x y,aY K H l1 xs/\aY K H l2 ys/\xs[i]? = some x/\ys[i]? = some y,
  fun i H x H'=>∃(p:Addr) (y z:V),x = .ref p/\H p=none/\(∀xs,aY K H l1 xs->xs[i]? = some y)/\(∀ys,aY K H l2 ys->ys[i]? = some z)/\H'=upd H p (.tup [y,z]),
  fun i H=>∃xs ys,aY K H l1 xs/\aY K H l2 ys/\(xs.length<=i\/ys.length<=i)⟩
theorem Gw {P:Program} {w:World} {K:PySem.W.Frag} {elts:List Expr} {x1:Nat} {pos:Pos} (z TI TO i1 i2 l1 l2:Addr) (ap:ZipApart z TI TO i1 i2 l1 l2):Turn P w K (.Tuple elts x1 pos) (W9 K l1 l2) [z,TI,TO,i1,i2] z
 (fun i h=>IsZip h z TI TO .none/\IsPair h TI (.ref i1) (.ref i2)/\(∃a b,IsPair h TO a b)/\h.IsListIter i1 l1 i/\h.IsListIter i2 l2 i) where
 mem:=by simp
 obj:=fun i h st b hb=>by
  obtain ⟨hz,hTI,⟨a,c,hTO⟩,⟨o1,h1,c1,d1⟩,⟨o2,h2,c2,d2⟩⟩:=st;have hb':b=z\/b=TI\/b=TO\/b=i1\/b=i2:=by simpa using hb
  rcases hb' with rfl|rfl|rfl|rfl|rfl
  ·exact ⟨_,hz,fun v z=>by cases z⟩
  ·exact ⟨_,hTI,fun v z=>by cases z⟩
  ·exact ⟨_,hTO,fun v z=>by cases z⟩
  ·exact ⟨_,h1,fun v z=>by rw [d1] at z;cases z⟩
  ·exact ⟨_,h2,fun v z=>by rw [d2] at z;cases z⟩
 keep:=fun i h h' st k=>by
  obtain ⟨hz,hTI,⟨a,c,hTO⟩,⟨o1,h1,c1,d1⟩,⟨o2,h2,c2,d2⟩⟩:=st;exact ⟨k z (by simp) _ hz,k TI (by simp) _ hTI,⟨a,c,k TO (by simp) _ hTO⟩,⟨o1,k i1 (by simp) _ h1,c1,d1⟩,⟨o2,k i2 (by simp) _ h2,c2,d2⟩⟩
 item:=by
  intro X hP hw hK hc i pins s σ H E I hf st hg;subst hP hw hK;obtain ⟨xs,ys,x,y,hq1,hq2,hx,hy⟩:=hg;obtain ⟨TX,VL,p1,hz1⟩:=I.list hq1;obtain ⟨its2,VJ,p2,hz2⟩:=I.list hq2;obtain ⟨u1,hu1,ru1⟩:=VL.get hx;obtain ⟨u2,hu2,X7⟩:=VJ.get hy;obtain ⟨hz,hTI,⟨a,c,hTO⟩,hi1,hi2⟩:=st;have zlt:=Heap.lt_size hz;have acH:=Heap.lt_size hTI;have acG:=Heap.lt_size hTO;have aaJ:i1<s.heap.objs.size:=by obtain ⟨o,ho,_⟩:=id hi1;exact Heap.lt_size ho
  have aaI:i2<s.heap.objs.size:=by obtain ⟨o,ho,_⟩:=id hi2;exact Heap.lt_size ho
  refine wpAny_pyNext_zip_item ap hz hTI hTO hi1 hi2 p1.isList p2.isList (x:=u1) (y:=u2) (by simpa using hu1) (by simpa using hu2) fun h' hz' aaV aaS hi2' hnew hsz hk=> ?_;refine ⟨_,rfl, ?_⟩;refine wpAny_letOwnedTupleGo_zip hz' fun h2 aaK sb=> ?_;have hfr:H s.heap.objs.size=none:=I.hok.fresh (Nat.le_refl _)
  have I0:Inv X pins σ (upd H s.heap.objs.size (.tup [x,y])) {s with heap:=s.heap.push {cls:= .type "tuple",data:= .seq #[u1,u2]}}:=
   I.laid (t':=s.toks) (fun b u e=>Heap.get?_push_of_some _ e) (Nat.le_refl _) ⟨by show 2<=sizeLine;decide,[u1,u2],.cons ru1 (.cons X7 .nil),⟨_,Heap.get?_push_size _ rfl,rfl,_,rfl⟩⟩
  have hf0:∀b∈[z,TI,TO,i1,i2],mJ X pins (upd H s.heap.objs.size (.tup [x,y])) b:=fun b hb=>by
   refine (hf b hb).upd ?_;have hb':b=z\/b=TI\/b=TO\/b=i1\/b=i2:=by simpa using hb
   rcases hb' with rfl|rfl|rfl|rfl|rfl
   ·exact Nat.ne_of_lt zlt
   ·exact Nat.ne_of_lt acH
   ·exact Nat.ne_of_lt acG
   ·exact Nat.ne_of_lt aaJ
   ·exact Nat.ne_of_lt aaI
  have I1:=I0.Ba (h':=h2) (t':=s.toks) hf0 (fun b o hb eb=>by
   have b1:b≠z:=fun e=>hb (by simp [e]);have b2:b≠TO:=fun e=>hb (by simp [e]);have b3:b≠i1:=fun e=>hb (by simp [e]);have b4:b≠i2:=fun e=>hb (by simp [e]);rw [sb.2 b b1];rcases Jj rfl eb with ⟨rfl,rfl⟩|eb
   ·exact hnew
   ·exact hk b o b1 b2 b3 b4 eb)
  refine ⟨.ref s.heap.objs.size,_,I1,rfl,⟨s.heap.objs.size,x,y,rfl,hfr,fun ys hy=>by rw [I.qJ hy hq1];exact hx,fun ys' hy'=>by rw [I.qJ hy' hq2];exact hy,rfl⟩, ?_,fun b hb=>(hf0 b hb).1⟩;obtain ⟨o1,ho1,c1,d1⟩:=aaS;obtain ⟨o2,ho2,c2,d2⟩:=hi2';exact ⟨aaK,(sb.2 TI ap.TIz).trans (hk TI _ ap.TIz ap.TITO ap.TIi1 ap.TIi2 hTI),⟨_,_,(sb.2 TO ap.TOz).trans aaV⟩,⟨o1,(sb.2 i1 ap.i1z).trans ho1,c1,d1⟩,⟨o2,(sb.2 i2 ap.i2z).trans ho2,c2,d2⟩⟩
 done:=by
  intro X hP hw hK hc i pins s σ H E I hf st hg;subst hP hw hK;obtain ⟨xs,ys,hq1,hq2,hx⟩:=hg;obtain ⟨TX,VL,p1,hz1⟩:=I.list hq1;obtain ⟨its2,VJ,p2,hz2⟩:=I.list hq2;obtain ⟨hz,hTI,⟨a,c,hTO⟩,hi1,hi2⟩:=st;have hl1:=VL.length;have hl2:=VJ.length;refine wpAny_pyNext_zip_end (I.ok.hd hc) ap hz hTI hTO hi1 hi2 p1.isList p2.isList ?_ fun h' eb=>⟨rfl,I.Ba (t':=s.toks) hf (fun b o hb e=>eb b o (fun z=>hb (by simp [z])) (fun z=>hb (by simp [z])) (fun z=>hb (by simp [z])) (fun z=>hb (by simp [z])) e)⟩;rcases hx with hx|hx
  ·exact .inl (by simp;omega)
  ·exact .inr (by simp;omega)
 self:=fun _ _ _ _ _ st h=>wpAny_pyIter_zip st.1 h
section
variable {X:Cx}
def aaH (K:PySem.W.Frag) (ta:TA):TI:=fun σ H R=>ta σ H fun vs H1=>∃l1 l2 xs ys,vs=[.ref l1,.ref l2]/\aY K H1 l1 xs/\aY K H1 l2 ys/\R (W9 K l1 l2) H1
theorem K1 {K:PySem.W.Frag} {a b:Expr} {ta:TA} {p pos:Pos} {elts:List Expr} {x1:Nat} {tpos:Pos} (hK:X.K=K) (hg:Gl X "zip") (hm:X.mg "zip" = none) (ha:PA X [a,b] ta) (hs:starEach [a,b] X.env=[(false,eval a X.env),(false,eval b X.env)]:=by rfl) (hs2:starEach [b] X.env=[(false,eval b X.env)]:=by rfl):PI X (.Tuple elts x1 tpos) (.Call (.Name "zip" p) [a,b] [] pos) (aaH K ta):=by
 subst hK;intro pins s σ H R I h;refine Call_ (nY I hg hm boot_zip (PyProof.Rows.callWith_type1 (cC (ha pos pins s σ H _ I h) fun us s1 ⟨vs,H1,I1,r1,q1⟩=> ?_) (by rw [hs,hs2]) (by rw [hs2];rfl)));obtain ⟨l1,l2,xs,ys,e,hq1,hq2,q⟩:=q1;subst e;cases r1 with
 | cons r rr=>
   cases rr with
   | cons r' rr=>
     cases rr;cases r;cases r';obtain ⟨TX,VL,Bw,hz1⟩:=I1.list hq1;obtain ⟨its2,VJ,pl2,hz2⟩:=I1.list hq2;have lt1:l1<s1.heap.objs.size:=by obtain ⟨o,ho,_⟩:=Bw.isList;exact Heap.lt_size ho
     have V5:l2<s1.heap.objs.size:=by obtain ⟨o,ho,_⟩:=pl2.isList;exact Heap.lt_size ho
     refine call_zip_2 Bw.isList pl2.isList fun h' hZ hTI hTO hi1 hi2 hsz hk=> ?_;refine wpAny_pyIter_zip hZ ?_;have I2:Inv X pins σ H1 {s1 with heap:=h'}:=I1.kept (t':=s1.toks) hk;refine ⟨s1.heap.objs.size+4,[s1.heap.objs.size+4,s1.heap.objs.size+2,s1.heap.objs.size+3,s1.heap.objs.size,s1.heap.objs.size+1],_,_,H1,rfl,I2,Gw _ _ _ _ _ l1 l2 (zipApart_new lt1 V5),⟨hZ,hTI,⟨_,_,hTO⟩,hi1,hi2⟩,fun b hb=> ?_,q⟩
     have hb':s1.heap.objs.size<=b:=by
      have:b=s1.heap.objs.size+4\/b=s1.heap.objs.size+2\/b=s1.heap.objs.size+3\/b=s1.heap.objs.size\/b=s1.heap.objs.size+1:=by simpa using hb
      rcases this with rfl|rfl|rfl|rfl|rfl
      ·exact Nat.le_add_right _ _
      ·exact Nat.le_add_right _ _
      ·exact Nat.le_add_right _ _
      ·exact Nat.le_refl _
      ·exact Nat.le_add_right _ _
     exact I1.vP hb' (I1.hok.fresh hb')
end
end L2
set_option Elab.async false
set_option linter.all false
set_option maxRecDepth 100000
set_option maxHeartbeats 4000000
namespace L2
open PySem PySem.Spec PyProof.Rows
section
variable {K:PySem.W.Frag} {a l1 l2 D:Addr} {xs ys:List V} {g:TG} {tc:TT} {te:TE} {Q:VK} {σ0:St} {H1:Hp}
theorem Jt {n:Nat} (hn1:xs.length=n) (hn2:ys.length=n) (Pv:Nat->St->Hp->Prop) (h0:Pv 0 σ0 (upd H1 D (.lst []))) (hl:∀i σ H,i<=n->Pv i σ H->aY K H l1 xs/\aY K H l2 ys)
 (hs:∀i x y σ H p,xs[i]? = some x->ys[i]? = some y->Pv i σ H->H p=none->g (.ref p) σ (upd H p (.tup [x,y])) fun σ2 H2=>tc σ2 H2 fun b H3=>
   if b=true then te σ2 H3 fun y H4=>∃acc,H4 D=some (.lst acc)/\acc.length<sizeLine/\Pv (i+1) σ2 (upd H4 D (.lst (acc++[y]))) else Pv (i+1) σ2 H3)
 (hd:∀σ H,Pv n σ H->Q (.ref D) H):jo (W9 K l1 l2) g tc te Q D σ0 H1:=by
 refine ⟨fun i m σ H=>m=n - i/\i<=n/\Pv i σ H,⟨n,by simp,Nat.zero_le _,h0⟩, ?_⟩;rintro i m σ H ⟨rfl,hi,p⟩;obtain ⟨q1,q2⟩:=hl i σ H hi p
 by_cases hlt:i<n
 ·refine .inr ⟨⟨xs,ys,xs[i],ys[i],q1,q2,by simp [hn1,hlt],by simp [hn2,hlt]⟩,Pv (i+1),fun σ' H' p'=>⟨n - (i+1),by omega,rfl,hlt,p'⟩,fun x H' y=> ?_⟩
  obtain ⟨t,z,u,rfl,ht,hz,hu,rfl⟩:=y;exact hs i z u σ _ t (hz xs q1) (hu ys q2) p ht
 ·have e:i=n:=by omega
  subst e;exact .inl ⟨⟨xs,ys,q1,q2,.inl (by omega)⟩,hd σ H p⟩
end
section
variable {K:PySem.W.Frag} {a l1 l2:Addr} {xs ys:List V} {g:TG} {tb:TS} {D:Ends} {σ:St} {H:Hp}
end
section
variable {X:Cx}
def KD:V->List V->Hp->VK->Prop:=fun x vs H Q=>∃l xs i y,x = .ref l/\vs=[.int i,y]/\H l=some (.lst xs)/\0<=i/\i<=xs.length/\xs.length<sizeLine/\Q .non (upd H l (.lst (xs.take i.toNat++y::xs.drop i.toNat)))
theorem nU:W8 X "list.insert" KD:=by
 intro pins s σ H x vs v us Q I rx rv h;obtain ⟨l,xs,i,y,rfl,rfl,hH,i0,i1,hz,q⟩:=h;cases rx;obtain ⟨u,u2,rfl,ru,X7⟩:=rv.two;obtain ⟨t,rfl⟩:=ru;obtain ⟨z,its,n,r,hl,e⟩:=I.Ej hH;have l63:=j_
 refine call_meets F.slot_list_insert ⟨_,e,rfl⟩ F.entry_list_insert (F.args_list_insert_3 _ _ _)
  (AutoSeq1.list_insert_list_int_val_1 l its.toArray n i t u2 (by rw [show Builtin.List.listFitsIndex i=true from fitsIndex_both (by omega) (by omega)];decide) (by rw [List.size_toArray];omega)) ⟨e, ?_⟩
 refine ⟨.non,_,I.Li (its':=its.take i.toNat++u2::its.drop i.toNat) hH e ?_ ((r.take _).append (.cons X7 (r.drop _))) ?_,rfl,q⟩
 ·have hi:¬i<0:=by omega
  simp only [hi,if_false];have hm:min i.toNat its.toArray.size=i.toNat:=by rw [List.size_toArray];omega
  simp only [hm];apply Array.ext';simp [List.extract_eq_drop_take,List.take_of_length_le]
 ·simp only [List.length_append,List.length_cons,List.length_take,List.length_drop]
  omega
theorem pN:∀{ns:List Int} {us:List Value},Vals (ns.map V.int) us->IntsAre us ns
 | [],us,r=>by cases r;exact .nil
 | n::ns,us,r=>by
   cases r with
   | cons r rs=>
     obtain ⟨t,rfl⟩:=r;exact .cons n t (pN rs)
def KJ:V->List V->Hp->VK->Prop:=fun x vs H Q=>∃(l:Addr) (ns:List Int) (i:Int),x = .ref l/\vs=[.int i]/\aY X.K H l (ns.map V.int)/\Q (.int (ns.count i)) H
theorem Ig:Rz X "list.count" (KJ (X:=X)):=by
 intro pins s σ H x vs v us Q I rx rv h;obtain ⟨l,ns,i,rfl,rfl,hq,q⟩:=h;cases rx;obtain ⟨u,rfl,ru⟩:=rv.one;obtain ⟨t,rfl⟩:=ru;obtain ⟨its,r',pl,hz⟩:=I.list hq;exact count_list_ints pl.isList (pN r') ⟨.int _,H,I.tok _,⟨_,rfl⟩,q⟩
theorem ql (ns:List Int):∀n,n<=ns.length->preSum (fun i=>(ns[i]?).getD 0) n=(ns.take n).sum
 | 0,_=>by simp [preSum]
 | n+1,h=>by
   have ih:=ql ns n (by omega);have hn:n<ns.length:=h;rw [List.take_succ,List.sum_append,←ih];simp [preSum,hn]
def X_ (K:PySem.W.Frag):List V->Hp->VK->Prop:=fun xs H Q=>∃(p:Addr) (ns:List Int),xs=[.ref p]/\aY K H p (ns.map V.int)/\Q (.int ns.sum) H
theorem uF {K:PySem.W.Frag} (hK:X.K=K) (hc:X.calm=true):gW X (.builtin "sum") (X_ K):=by
 subst hK;intro pins s σ H xs us Q I r h;obtain ⟨p,ns,rfl,hq,q⟩:=h;obtain ⟨u,rfl,rx⟩:=vals1 r;cases rx;obtain ⟨its,rv,pl,hz⟩:=I.list hq;have e:=pN rv;have hlen:its.length=ns.length:=by rw [←rv.length,List.length_map]
 refine call_sum_walkG (wpAny_pyIter_list pl.isList ⟨s.heap.objs.size,[s.heap.objs.size,p],[s.heap.objs.size],its.length,_,_,fun i=>(ns[i]?).getD 0,rfl,
  iw (show X.A.in1.handled=none from I.ok.hd hc) s.heap.objs.size p ?_ its,⟨⟨_,Heap.get?_push_size _ rfl,rfl,rfl⟩, ?_⟩, ?_, ?_, ?_⟩)
 ·intro z
  obtain ⟨o,ho,_⟩:=pl.isList;have:=Heap.lt_size ho;rw [←z] at this;exact Nat.lt_irrefl _ this
 ·obtain ⟨o,ho,hcl⟩:=pl.isList
  exact ⟨o,Heap.get?_push_of_some _ ho,hcl⟩
 ·intro b hb
  have hsz:(s.heap.push {cls:= .type "list_iterator",data:= .fields #[.ref p,.int 0 0]}).objs.size=s.heap.objs.size+1:=by simp [Heap.push]
  have hb':b=s.heap.objs.size\/b=p:=by simpa using hb
  show b<(s.heap.push _).objs.size;rw [hsz];rcases hb' with rfl|rfl
  ·exact Nat.lt_succ_self _
  ·obtain ⟨o,ho,_⟩:=pl.isList
   exact Nat.lt_succ_of_lt (Heap.lt_size ho)
 ·intro i v hP
  obtain ⟨j,hj,rj⟩:∃j,ns[i]? = some j /\ ∃t,v = .int j t:=by
   have hi:i<its.length:=(List.getElem?_eq_some_iff.mp hP).1;have hv:=(rv.get (i:=i) (x:=V.int (ns[i]'(by omega))) (by simp [show i<ns.length by omega]));obtain ⟨u,hu,ru⟩:=hv;rw [hP] at hu;cases hu;obtain ⟨t,ht⟩:=ru;exact ⟨ns[i]'(by omega),by simp [show i<ns.length by omega],t,ht⟩
  obtain ⟨t,rfl⟩:=rj;exact ⟨t,by simp [hj]⟩
 ·intro h' tk t' k
  rw [ql ns its.length (by omega),List.take_of_length_le (by omega)];have f:=I.vP (H':=H) (b:=s.heap.objs.size) (Nat.le_refl _) (I.hok.fresh (Nat.le_refl _));have I2:Inv X pins σ H {s with heap:=h',toks:=tk}:=I.turned (h':=h') (t':=tk) (it:=s.heap.objs.size) (fun b o hb e=>k b o (by simpa using hb) (Heap.get?_push_of_some _ e)) f.1 f.2.1 f.2.2.2.1 f.2.2.2.2.1 f.2.2.2.2.2;exact ⟨.int _,H,I2,⟨_,rfl⟩,q⟩
theorem qu {K:PySem.W.Frag} {T name id:String} {r:V->List V->Hp->VK->Prop} {o e:Expr} {es:List Expr} {to:TE} {t:TA} {apos cpos:Pos} (h:X.K=K) (pa:PlainAttrs T) (slot:Slot T name id) (hty:typeOf (.builtin id)=pure (.type "method_descriptor")) (hm:Rz X id r) (ho:PE X o to) (ha:PA X (e::es) t)
 (hbase:attributeBase o name X.env (eval o X.env)=eval o X.env:=by rfl)
 (hfew:((backTo cpos (starEach (e::es) X.env)).all (fun x=> !x.1)&&(backToKw cpos (keywordEach [] X.env)).all (fun x=>x.1.isSome)
   && decide ((e::es).length+([]:List Keyword).length+(if ([]:List Keyword).isEmpty then 0 else 1)<30))=true:=by rfl)
 (hline:(apos.endLine==cpos.line)=true:=by rfl) (hs:starEach (e::es) X.env=(false,eval e X.env)::starEach es X.env:=by rfl) (hplain:(backTo cpos (starEach es X.env)).any (·.1)=false:=by rfl):
 PE X (.Call (.Attribute o name apos) (e::es) [] cpos) (VF K T r to t):=by
 subst h;exact M9 pa slot hty hm ho ha hbase hfew hline hs hplain
def Pa (K:PySem.W.Frag):V->List V->Hp->VK->Prop:=fun x vs H Q=>∃(l:Addr) (ns:List Int) (i:Int),x = .ref l/\vs=[.int i]/\aY K H l (ns.map V.int)/\Q (.int (ns.count i)) H
theorem Ed {K:PySem.W.Frag} (h:X.K=K):Rz X "list.count" (Pa K):=by subst h;exact Ig
theorem BP {K:PySem.W.Frag} {es:List Expr} {k:Nat} {t:NK} {n:Nat} {pos:Pos} (hK:X.K=K) (hc:X.calm=true) (h:Vn X es t)
 (hn:(assignEach es X.env).length=n:=by rfl) (hst:(assignEach es X.env).findIdx? (·.1)=none:=by rfl):PG X (.Tuple es k pos) (QJ K n t):=by subst hK;exact Pk hc h hn hst
end
end L2
set_option Elab.async false
set_option linter.all false
set_option maxRecDepth 100000
set_option maxHeartbeats 4000000
namespace L2
open PySem
section
variable {K:PySem.W.Frag} {a D:Addr} {xs:List V} {tc:TT} {te:TE} {Q:VK} {rest:St} {H1:Hp}
theorem fB {α:Type} (f:Nat->Option α) (n:Nat):(List.range (n+1)).filterMap f=(List.range n).filterMap f++(f n).toList:=by
 rw [List.range_succ,List.filterMap_append];cases h:f n<;>simp [h]
theorem oh {α:Type} (f:Nat->Option α) (n:Nat):((List.range n).filterMap f).length<=n:=by
 have:=List.length_filterMap_le f (List.range n);simpa using this
theorem Same.newly {H H1:Hp} {D:Addr} {o:HO} (h:Same H H1) (n:H D=none):Same H (upd H1 D o):=fun b u e=>by rw [bA (aC e n)];exact h b u e
theorem ji (f:Nat->Option V) (hD:H1 D=none) (hq:aY K H1 a xs) (hx:xs.length<=100000)
 (hs:∀i x H (G:Hp->Prop) (F:VK),xs[i]? = some x->Same H1 H->(∀H',Same H H'->f i=none->G H')->(∀y H',Same H H'->f i=some y->F y H')->tc (some x::rest) H fun b H3=>if b=true then te (some x::rest) H3 F else G H3)
 (hd:∀H,Same H1 H->H D=some (.lst ((List.range xs.length).filterMap f))->Q (.ref D) H):jo (J5 K a) (jR 0) tc te Q D (none::rest) H1:=by
 refine lH (K:=K) (xs:=xs) (fun i σ H=>(∃v,σ=v::rest)/\Same H1 H/\H D=some (.lst ((List.range i).filterMap f))) ⟨⟨none,rfl⟩,aD hD,aA⟩ (fun i σ H _ ⟨_,sm,_⟩=>sm.R0 _ _ hq) ?_ (fun σ H ⟨_,sm,e⟩=>hd H sm e);rintro i x σ H hi ⟨⟨v,rfl⟩,sm,e⟩;have hil:i<xs.length:=(List.getElem?_eq_some_iff.mp hi).1;refine hs i x H _ _ hi sm (fun H3 s3 ef=>⟨⟨_,rfl⟩,sm.trans s3,by rw [s3 _ _ e,fB,ef];simp⟩) (fun y H4 s4 ef=> ?_);refine ⟨_,s4 _ _ e, ?_,⟨_,rfl⟩,(sm.trans s4).newly hD, ?_⟩
 ·have:=oh f i
  rw [sizeLine_eq];omega
 ·rw [aA,fB,ef];rfl
theorem uE (f:Nat->Option V) (hD:H1 D=none) (hq:H1 a=some (.tup xs)) (hx:xs.length<=100000)
 (hs:∀i x H (G:Hp->Prop) (F:VK),xs[i]? = some x->Same H1 H->(∀H',Same H H'->f i=none->G H')->(∀y H',Same H H'->f i=some y->F y H')->tc (some x::rest) H fun b H3=>if b=true then te (some x::rest) H3 F else G H3)
 (hd:∀H,Same H1 H->H D=some (.lst ((List.range xs.length).filterMap f))->Q (.ref D) H):jo (W_ K a) (jR 0) tc te Q D (none::rest) H1:=by
 refine Ju (K:=K) (xs:=xs) (fun i σ H=>(∃v,σ=v::rest)/\Same H1 H/\H D=some (.lst ((List.range i).filterMap f))) ⟨⟨none,rfl⟩,aD hD,aA⟩ (fun i σ H _ ⟨_,sm,_⟩=>cH.of (sm.tups _ _ hq)) ?_ (fun σ H ⟨_,sm,e⟩=>hd H sm e);rintro i x σ H hi ⟨⟨v,rfl⟩,sm,e⟩;have hil:i<xs.length:=(List.getElem?_eq_some_iff.mp hi).1;refine hs i x H _ _ hi sm (fun H3 s3 ef=>⟨⟨_,rfl⟩,sm.trans s3,by rw [s3 _ _ e,fB,ef];simp⟩) (fun y H4 s4 ef=> ?_);refine ⟨_,s4 _ _ e, ?_,⟨_,rfl⟩,(sm.trans s4).newly hD, ?_⟩
 ·have:=oh f i
  rw [sizeLine_eq];omega
 ·rw [aA,fB,ef];rfl
theorem jh {n:Nat} (f:Nat->Option V) (hD:H1 D=none) (hx:n<=100000)
 (hs:∀i H (G:Hp->Prop) (F:VK),i<n->Same H1 H->(∀H',Same H H'->f i=none->G H')->(∀y H',Same H H'->f i=some y->F y H')->tc (some (.int (0+i))::rest) H fun b H3=>if b=true then te (some (.int (0+i))::rest) H3 F else G H3)
 (hd:∀H,Same H1 H->H D=some (.lst ((List.range n).filterMap f))->Q (.ref D) H):jo (Mw 0 n) (jR 0) tc te Q D (none::rest) H1:=by
 refine qX (lo:=0) (n:=n) (fun i σ H=>(∃v,σ=v::rest)/\Same H1 H/\H D=some (.lst ((List.range i).filterMap f))) ⟨⟨none,rfl⟩,aD hD,aA⟩ ?_ (fun σ H ⟨_,sm,e⟩=>hd H sm e);rintro i σ H hi ⟨⟨v,rfl⟩,sm,e⟩;refine hs i H _ _ hi sm (fun H3 s3 ef=>⟨⟨_,rfl⟩,sm.trans s3,by rw [s3 _ _ e,fB,ef];simp⟩) (fun y H4 s4 ef=> ?_);refine ⟨_,s4 _ _ e, ?_,⟨_,rfl⟩,(sm.trans s4).newly hD, ?_⟩
 ·have:=oh f i
  rw [sizeLine_eq];omega
 ·rw [aA,fB,ef];rfl
theorem Fq {l1 l2:Addr} {ys:List V} {n:Nat} (hn1:xs.length=n) (hn2:ys.length=n) (f:Nat->Option V) (hD:H1 D=none) (hq1:aY K H1 l1 xs) (hq2:aY K H1 l2 ys) (hx:n<=100000)
 (hs:∀i x y H (G:Hp->Prop) (F:VK),xs[i]? = some x->ys[i]? = some y->Same H1 H->(∀H',Same H H'->f i=none->G H')->(∀y H',Same H H'->f i=some y->F y H')->tc (some x::some y::rest) H fun b H3=>if b=true then te (some x::some y::rest) H3 F else G H3)
 (hd:∀H,Same H1 H->H D=some (.lst ((List.range n).filterMap f))->Q (.ref D) H):jo (W9 K l1 l2) (QJ K 2 (Jk (jR 0) (Jk (jR 1) Uk))) tc te Q D (none::none::rest) H1:=by
 refine Jt (K:=K) (xs:=xs) (ys:=ys) hn1 hn2 (fun i σ H=>(∃u v,σ=u::v::rest)/\Same H1 H/\H D=some (.lst ((List.range i).filterMap f))) ⟨⟨none,none,rfl⟩,aD hD,aA⟩ (fun i σ H _ ⟨_,sm,_⟩=>⟨sm.R0 _ _ hq1,sm.R0 _ _ hq2⟩) ?_ (fun σ H ⟨_,sm,e⟩=>hd H sm e);rintro i x y σ H p hix hiy ⟨⟨u,v,rfl⟩,sm,e⟩ hp;have sp:=aD (o:=HO.tup [x,y]) hp;refine ⟨p,[x,y],rfl,cH.of aA,rfl,_,_,rfl,_,_,rfl,rfl, ?_⟩;have hil:i<xs.length:=(List.getElem?_eq_some_iff.mp hix).1;refine hs i x y _ _ _ hix hiy (sm.trans sp) (fun H3 s3 ef=>⟨⟨_,_,rfl⟩,(sm.trans sp).trans s3,by rw [s3 _ _ (sp _ _ e),fB,ef];simp⟩) (fun y H4 s4 ef=> ?_);refine ⟨_,s4 _ _ (sp _ _ e), ?_,⟨_,_,rfl⟩,((sm.trans sp).trans s4).newly hD, ?_⟩
 ·have:=oh f i
  rw [sizeLine_eq];omega
 ·rw [aA,fB,ef];rfl
theorem kj {α β:Type} {f g:α->Option β}:∀(l:List α) (_:True) (h:∀x∈l,f x=g x),l.filterMap f=l.filterMap g
 | [],_,_=>rfl
 | x::l,_,h=>by
   rw [List.filterMap_cons,List.filterMap_cons,h x (by simp),kj l trivial fun y hy=>h y (by simp [hy])]
theorem snocInd {α:Type} {P:List α->Prop} (h0:P []) (hs:∀xs x,P xs->P (xs++[x])) (xs:List α):P xs:=by
 rw [←List.reverse_reverse xs]
 induction xs.reverse with
 | nil=>exact h0
 | cons x l ih=>rw [List.reverse_cons];exact hs _ _ ih
theorem pG {α β:Type} (xs:List α) (g:α->β):(List.range xs.length).filterMap (fun i=>(xs[i]?).map g)=xs.map g:=by
 refine snocInd (P:=fun xs=>(List.range xs.length).filterMap (fun i=>(xs[i]?).map g)=xs.map g) rfl (fun xs x ih=> ?_) xs
 ·show (List.range (xs++[x]).length).filterMap (fun i=>((xs++[x])[i]?).map g)=(xs++[x]).map g
  rw [List.length_append,List.length_singleton,fB,List.map_append];congr 1
  ·rw [←ih]
   refine kj _ trivial fun i hi=> ?_;have:i<xs.length:=by simpa using hi
   rw [List.getElem?_append_left this]
  ·simp
end
end L2
namespace L2
open PySem
section
variable {X:Cx} {K:PySem.W.Frag}
theorem HD (h:X.K=K):lV X (binaryOp .Add) (M8 K):=by subst h;exact K9
end
end L2
namespace L2
open PySem
theorem jw {a b:TS} {D:Ends} {σ:St} {H:Hp} (P:St->Hp->Prop) (h1:∀D':Ends,(∀σ' H',P σ' H'->D'.nx σ' H')->D'.rt=D.rt->a D' σ H) (h2:∀σ' H',P σ' H'->b D σ' H'):RL a b D σ H:=h1 _ h2 rfl
end L2
namespace L2
open PySem PySem.Spec PyProof.Rows
section
variable {X:Cx} {K:PySem.W.Frag} {a:Expr} {ta:TE} {pos:Pos}
def Xe (K:PySem.W.Frag) (ta:TE):TT:=fun σ H Q=>ta σ H fun x H'=>∃k,Rg K x H' k/\Q k H'
theorem tR (h:X.K=K) (ha:PE X a ta) (he:∀whole,isTrue a X.env whole=(do let v ←whole;standAt a.pos;holding [v] (truthy v)):=by intro _;rfl):PT X a (Xe K ta):=by
 subst h;exact Hi ha he
end
end L2
set_option Elab.async false
set_option linter.all false
set_option maxRecDepth 100000
set_option maxHeartbeats 4000000
namespace L2
open PySem PySem.Spec PyProof.Rows
section
variable {X:Cx} {K:PySem.W.Frag}
def Sx:R2:=fun x y H Q=>∃a b,x = .bl a/\y = .bl b/\Q (.bl (!(a==b))) H
theorem BW:lV X (compareOp .IsNot) Sx:=by
 intro pins s σ H x y v u Q I rx ry h;obtain ⟨a,b,rfl,rfl,q⟩:=h;cases rx;cases ry;exact isnot_bool (bG I q rfl)
theorem K6 {T name id:String} {r:V->List V->Hp->VK->Prop} {o:Expr} {to:TE} {apos cpos:Pos} (h:X.K=K) (pa:PlainAttrs T) (slot:Slot T name id) (hty:typeOf (.builtin id)=pure (.type "method_descriptor")) (hm:Rz X id r) (ho:PE X o to)
 (hbase:attributeBase o name X.env (eval o X.env)=eval o X.env:=by rfl) (hline:(apos.endLine==cpos.line)=true:=by rfl):PE X (.Call (.Attribute o name apos) [] [] cpos) (RW K T r to):=by
 subst h;exact Pr pa slot hty hm ho hbase hline
end
section
variable {K:PySem.W.Frag} {a D:Addr} {xs:List V} {te:TE} {Q:VK} {rest:St} {H1:Hp}
theorem lG {H:Hp} {vs:List V} {ds:List PyData} {v:V} {d:PyData} (h:aG H vs ds) (hd:Dat H v d):aG H (vs++[v]) (ds++[d]):=aG.append h (by simp only [aG,and_true];exact hd)
end
end L2
set_option Elab.async false
set_option linter.all false
namespace L2
open PySem
end L2
set_option Elab.async false
set_option linter.all false
set_option maxRecDepth 100000
set_option maxHeartbeats 4000000
namespace L2
open PySem PySem.Spec PyProof.Rows
section
variable {prog:Program} {w:World} {K:Type} [DecidableEq K] {knd:HeapKind prog w K}
theorem Ak {xs:List (K×Addr×Value)} {k:K} (h:∀(j:Nat) (p:Addr×Value),xs[j]? ≠ some (k,p)):atKey xs k=none:=by
 unfold atKey;rw [Option.map_eq_none_iff,List.find?_eq_none];intro x hx e;obtain ⟨j,hj⟩:=List.getElem?_of_mem hx;have e':x.1=k:=of_decide_eq_true e;exact h j x.2 (by rw [hj,←e'])
theorem Aj {xs:List (K×Addr×Value)} {k:K} {j:Nat} {p:Addr×Value} (hn:(xs.map (·.1)).Nodup) (h:xs[j]? = some (k,p)):atKey xs k=some p:=by
 unfold atKey
 induction xs generalizing j with
 | nil=>cases h
 | cons x xs ih=>
   rw [List.find?_cons];cases j with
   | zero=>
     have:x=(k,p):=by simpa using h
     subst this;simp
   | succ j=>
     have hj:xs[j]? = some (k,p):=by simpa using h
     have hn':=List.nodup_cons.mp (by simpa using hn:(x.1::xs.map (·.1)).Nodup);have ne:¬x.1=k:=fun z=>hn'.1 (by rw [z];exact List.mem_map.mpr ⟨(k,p),List.mem_of_getElem? hj,rfl⟩);rw [decide_eq_false ne];exact ih hn'.2 hj
theorem lJ {A:Around} {E:Value->Shared->Prop} {s:Shared} {d a:Addr} {xs:List (K×Addr×Value)} {k:K} {dflt:Value} {Q:Value->Shared->Prop}
 (hr:knd.room A) (hk:knd.is s.heap k a) (dd:Heap.DictOfH knd s.heap d xs) (hz:xs.length<=sizeLine)
 (h1:∀p,atKey xs k=some p->Q p.2 {s with toks:=s.toks+knd.draws k})
 (h2:atKey xs k=none -> ∀h',Heap.DictOfH knd h' d (xs++[(k,a,dflt)])->Heap.SameBut d s.heap h'->Q dflt {s with heap:=h',toks:=s.toks+knd.draws k}):
 wpAny (model prog w) A (dictSetDefault d (.ref a) dflt) Q E s:=by
 unfold dictSetDefault;refine wpAny_holding (wpAny_bind (knd.pyHash hr hk ?_));obtain ⟨o,es,ep,ho,hx,hd,he,hi,hn⟩:=id dd;have hl:es.size=xs.length:=by rw [←Array.length_toList,he,List.length_map]
 refine wpAny_bind (wpAny_dictFind_heap (s:={s with toks:=s.toks+knd.draws k}) hr hk ho hd he hi hn (fun hno=> ?_) (fun j p hj=> ?_))
 ·refine wpAny_bind (wpAny_rule ?_)
  have an:=Ak hno;refine wpAny_bind (wpAny_updateDictKeys (s:={s with toks:=s.toks+knd.draws k}) ho hd ?_ (by omega) (by simp));refine wpAny_pure ?_;have sb:=Heap.SameBut.update s.heap d (Obj.mapDictKeys fun x=>x.push {hash:=knd.hash k,key:= .ref a,val:=dflt});refine h2 an _ ?_ sb;obtain ⟨oc,od,aeO,osl⟩:=o;simp only at hd;subst hd;refine ⟨_,es.push {hash:=knd.hash k,key:= .ref a,val:=dflt},ep+1,Heap.get?_update_self _ ho ?_,hx,rfl, ?_, ?_, ?_⟩
  ·obtain ⟨c1,c2,c3⟩:=hx
   simp only at c1;subst c1;rfl
  ·rw [Array.toList_push,he,List.map_append];rfl
  ·intro x T7
   rcases List.mem_append.mp T7 with T7|T7
   ·exact knd.keeps (hi x T7) ho rfl sb
   ·have:x=(k,a,dflt):=by simpa using T7
    subst this;exact knd.keeps hk ho rfl sb
  ·rw [List.map_append]
   refine List.nodup_append.mpr ⟨hn,by simp, ?_⟩;intro y hy z hz' e;have:z=k:=by simpa using hz'
   subst this;subst e;obtain ⟨x,hx',rfl⟩:=List.mem_map.mp hy;obtain ⟨j,hj⟩:=List.getElem?_of_mem hx';exact hno j x.2 hj
 ·refine wpAny_bind (wpAny_dictEntries (s:={s with toks:=s.toks+knd.draws k}) ho hd ?_)
  have ej:es[j]? = some (entryOfKey knd (k,p)):=by
   rw [←Array.getElem?_toList,he,List.getElem?_map,hj];rfl
  rw [ej];exact wpAny_bind (wpAny_rule (wpAny_pure (h1 p (Aj hn hj))))
theorem mY (knd:HeapKind prog w K) (d a:Addr) (hd:(d==sysModules)=false) (dflt:Value):MeetsIn prog w (Builtin.«dict.setdefault» {pos:=[.ref d,.ref a,dflt]}) fun A R s=>
 knd.room A.in1 /\ ∃k xs,knd.is s.heap k a/\Heap.DictOfH knd s.heap d xs/\xs.length<=sizeLine/\(∀p,atKey xs k=some p->R (.ok (.ret p.2)) {s with toks:=s.toks+knd.draws k}) /\
  (atKey xs k=none -> ∀h',Heap.DictOfH knd h' d (xs++[(k,a,dflt)])->Heap.SameBut d s.heap h'->R (.ok (.ret dflt)) {s with heap:=h',toks:=s.toks+knd.draws k}):=by
 rintro A R s ⟨hr,k,xs,hk,dd,hz,h1,h2⟩;obtain ⟨o,es,ep,ho,hx,hdat,_⟩:=id dd;unfold Builtin.«dict.setdefault»;have ht:s.TypeIs (.ref d) "dict" :=⟨o,ho,hx.1⟩;refine wpAny_bind ?_;unfold Builtin.Dict.keyAndDefault;refine wpAny_bind ?_;unfold Builtin.Dict.notOrdered;rw [if_pos (by decide)];refine wpAny_bind (wpAny_typeOf ht ?_);rw [if_neg (by decide)];refine wpAny_pure ?_;refine wpAny_bind ?_;unfold Builtin.Dict.nameIsSure;rw [if_neg (by show ¬(false=true);decide)];refine wpAny_pure ?_;refine wpAny_bind ?_;unfold selfAndSome noKeywords;refine wpAny_bind ?_;rw [if_pos (by rfl)];refine wpAny_pure ?_;show wpAny (model prog w) A.in1 (checkCount "setdefault" 1 2 2 >>= fun _=>pure (Value.ref d,[Value.ref a,dflt])) _ _ s;refine wpAny_bind ?_;have ck:checkCount "setdefault" 1 2 2=pure ():=rfl;rw [ck];refine wpAny_pure (wpAny_pure ?_);show wpAny (model prog w) A.in1 (Builtin.Dict.addrOf (.ref d) >>= fun x=>pure (x,Value.ref a,some dflt)) _ _ s;refine wpAny_bind (wpAny_pure (wpAny_pure ?_));show wpAny (model prog w) A.in1 (if (d==sysModules)=true then _ else (dictSetDefault d (.ref a) dflt >>= fun v=>ret v)) _ _ s;rw [if_neg (by rw [hd];decide)];refine wpAny_bind (lJ hr hk dd hz (fun p hp=>wpAny_pure (h1 p hp)) (fun hn h' Nr sb=>wpAny_pure (h2 hn h' Nr sb)))
end
section
variable {X:Cx} {o e f:Expr} {td ty tx:TE} {apos cpos:Pos}
def Oe (td ty tx:TE):TE:=fun σ H Q=>td σ H fun x H1=>∃a,x = .ref a/\Xa H1 a/\ty σ H1 fun y H2=>tx σ H2 fun z H3=>∃kvs k b,H3 a=some (.dT kvs)/\y = .ref b/\H3 b=some (.tup (k.map kV))/\kvs.length<sizeLine /\
 (∀v,bW kvs k=some v->Q v H3)/\(bW kvs k=none->Q z (upd H3 a (.dT (putK kvs k z))))
theorem Hu (hu:X.A.units+1<cLine) (ho:PE X o td) (he:PE X e ty) (hf:PE X f tx) (m:M2 X o "setdefault" apos e f cpos):PE X (.Call (.Attribute o "setdefault" apos) [e,f] [] cpos) (Oe td ty tx):=by
 intro pins s σ H Q I h;refine wpAny_Call_method m.base m.few m.line PySem.F.plainAttrs_dict PySem.F.slot_dict_setdefault PySem.F.type_dict_setdefault (cC (ho pins s σ H _ I h) fun u s1 ⟨x,H1,I1,rx,a,ex,d,q1⟩=> ?_);subst ex;obtain rfl:u=Value.ref a:=rx;obtain ⟨t1,t2,_⟩:=z8 I1 d;refine ⟨t1,t2, ?_⟩;rw [m.trees]
 refine Calls.callWith_builtin rfl (Calls.evalArgs_plain (Calls.spliced_cons (cC (he pins s1 σ H1 _ I1 q1) fun iv s2 ⟨y,H2,I2,ry,q2⟩=>
  Calls.spliced_cons (cC (hf pins s2 σ H2 _ I2 q2) fun fv s3 ⟨z,H3,I3,rz,kvs,k,b,ea,ey,eb,hl,q3,q4⟩=>Calls.spliced_nil ?_))))
 subst ey;cases (show iv=Value.ref b from ry);obtain ⟨hz,hd,xs,rel,dd⟩:=Jp I3.hok ea;have hz':xs.length<=sizeLine:=by rw [←Paired.length rel];exact hz
 have rv:=rel.val k;refine call_meetsIn PySem.F.slot_dict_setdefault dd.typeIs PySem.F.entry_dict_setdefault (PySem.F.args_dict_setdefault_3 _ _ _) (mY (tupleKind (bB X.prog X.w)) a b hd fv) ⟨tupleKind_room_in1 hu,k,xs,iY I3.hok eb,dd,hz',fun p hp=> ?_,fun hn h' Nr sb=> ?_⟩
 ·rw [hp] at rv
  cases lv:bW kvs k with
  | none=>rw [lv] at rv;exact absurd rv (by simp [mH])
  | some v=>
    rw [lv] at rv;exact ⟨v,H3,I3.tok _,rv,q3 v lv⟩
 ·rw [hn] at rv
  have lv:bW kvs k=none:=by
   cases lv:bW kvs k with
   | none=>rfl
   | some v=>rw [lv] at rv;exact absurd rv (by simp [mH])
  have hl':(putK kvs k z).length<=sizeLine:=by have:=dW kvs k z;omega
  obtain ⟨q,es,ep,hq,h2,h3,h4,_,h5⟩:=Nr;have est:storedH xs k b fv=xs++[(k,b,fv)]:=by unfold storedH;rw [hn];rfl
  have rp:=rel.put k eb rz;rw [est] at rp;refine ⟨z,upd H3 a (.dT (putK kvs k z)),m_ (ob:= .dT (putK kvs k z)) I3 (by rw [ea];exact True.intro) sb ⟨q,hq⟩ ⟨hl',hd,_,rp.keeps fun c ys ec=> ?_,q,es,ep,hq,h2,h3,h4,h5⟩,rz,q4 lv⟩;rw [bA (lO ec ea (fun z=>nomatch z))];exact ec
end
end L2
namespace L2
open PySem PySem.Spec PyProof.Rows
section
variable {X:Cx} {K:PySem.W.Frag}
def SM (K:PySem.W.Frag):V->V->Hp->VK->Prop:=fun x y H Q=>∃p xs i v,x = .ref p/\y = .int i/\aY K H p xs/\0<=i/\xs[i.toNat]? = some v/\Q v H
theorem zT (h:X.K=K):Vo X (SM K):=by
 subst h;intro pins s σ H o i ov iv Q I ro ri h;obtain ⟨p,xs,k,v,rfl,rfl,hq,k0,he,q⟩:=h;cases ro;obtain ⟨t,rfl⟩:=ri;obtain ⟨its,r,pl,hz⟩:=I.list hq;obtain ⟨w,ew,rw'⟩:=r.get he;have hl:=r.length;have hn:=j_;have:k.toNat<xs.length:=(List.getElem?_eq_some_iff.mp he).1;exact getItem_listL pl.isList k0 (by omega) ew ⟨v,H,I,rw',q⟩
end
end L2
namespace L2
open PySem
theorem yp {K:PySem.W.Frag} {T:String} {r:V->List V->Hp->VK->Prop} {to:TE} {t:TA} {D:Ends} {σ:St} {H:Hp} (P:V->Hp->Prop) (h1:∀Q':VK,(∀v H',P v H'->Q' v H')->to σ H Q') (h2:∀v H',P v H'->Vy K T v H'/\t σ H' fun xs H2=>r v xs H2 fun _ H3=>D.nx σ H3):MP (VF K T r to t) D σ H:=h1 _ h2
end L2
set_option Elab.async false
set_option linter.all false
set_option maxRecDepth 100000
set_option maxHeartbeats 4000000
namespace L2
open PySem PySem.Spec PyProof.Rows
section
variable {X:Cx} {K:PySem.W.Frag}
end
def cat:List Str->Str
 | []=>Str.empty
 | x::xs=>x++cat xs
end L2
set_option Elab.async false
set_option linter.all false
set_option maxRecDepth 100000
set_option maxHeartbeats 4000000
namespace L2
open PySem PySem.Spec PyProof.Rows
section
variable {X:Cx} {body suite:List Stmt} {b0:Stmt} {cn:Str} {Dc:Addr} {tb:(St->XK)->TS} {th:TS} {cp hpos pos:Pos}
end
end L2
namespace L2
open PySem PySem.Spec PyProof.Rows
section
variable {X:Cx}
def Vx (i j:Int):Prop:=0<j/\j<1329227995784915872903807060280344576
theorem HB:lV X (binaryOp .FloorDiv) (rI Vx fun i j=> .int (i / j)):=Te fun i j _ _ _ _ _ hc q=>by
 have h1:(0:Int)<j:=hc.1;have h2:j<1329227995784915872903807060280344576:=hc.2;refine floordiv_int (by omega) (by rw [Int.fdiv_eq_ediv_of_nonneg i (by omega)];exact q) (.inl ?_);unfold Builtin.divisionGoesByPylong;have hn:j.natAbs<2 ^ 120:=by omega
 have hl:j.natAbs.log2<120:=(Nat.log2_lt (by omega)).mpr hn
 have hz:(j==0)=false:=by
  rw [beq_eq_false_iff_ne];omega
 simp only [hz,Bool.false_eq_true,if_false];have:¬j.natAbs.log2 / 30+1>300:=by omega
 rw [decide_eq_false this,Bool.false_and]
end
end L2
set_option Elab.async false
set_option linter.all false
set_option maxRecDepth 100000
set_option maxHeartbeats 4000000
namespace L2
open PySem PySem.Spec PyProof.Rows
section
variable {X:Cx} {pins:List (Addr×Obj)} {σ:St} {H:Hp} {s:Shared} {d:Addr} {u u':HO}
theorem Inv.M6 (I:Inv X pins σ H s) (e:H d=some u) (h1:∀xs,u ≠ .tup xs) (h2:∀a,u ≠ .own a) (h3:∀ps,u ≠ .MN ps) (hz:∀o v,X.H₀ d≠some (.kh o v)) (ok:bO X.prog X.w (upd H d u') s.heap d u'):Inv X pins σ (upd H d u') s:=by
 have nd:∀{b:Addr},H b=none->b≠d:=fun q z=>by rw [z,e] at q;cases q
 have ht:∀b xs,H b=some (HO.tup xs)->(upd H d u') b=some (HO.tup xs):=fun b xs q=>by
  have:b≠d:=fun z=>by rw [z,e] at q;exact h1 xs (Option.some.inj q)
  rw [bA this];exact q
 refine ⟨I.ok,I.os,I.bare,⟨I.base.keep,I.base.slot,fun b o q n hx=> ?_,I.base.there,fun b xs q=>ht b xs (I.base.tups b xs q),fun b o v q=> ?_,fun b ps q=> ?_⟩,I.loc,I.cell, ?_,fun x c q=> ?_,fun p hp=> ?_,fun b v q=> ?_,I.len⟩
 ·have:=I.base.free b o q n hx
  rw [bA (nd this)];exact this
 ·have:=I.base.oY b o v q
  have nb:b≠d:=fun z=>by rw [z] at q;exact hz o v q
  rw [bA nb];exact this
 ·obtain ⟨more,r⟩:=I.base.rZ b ps q
  have nb:b≠d:=fun z=>by rw [z,e] at r;exact h3 _ (Option.some.inj r)
  exact ⟨more,by rw [bA nb];exact r⟩
 ·rw [bA (nd I.free)];exact I.free
 ·rw [bA (nd (I.jT x c q))];exact I.jT x c q
 ·obtain ⟨q1,q2,q3⟩:=I.pin p hp
  exact ⟨q1,by rw [bA (nd q2)];exact q2,q3⟩
 ·by_cases hb:b=d
  ·subst hb
   rw [aA] at q;cases q;exact ok
  ·rw [bA hb] at q
   refine (I.hok b v q).stay (fun _ _ _ r=>r) (fun c r=> ?_) ht;have:c≠d:=fun z=>by rw [z,e] at r;exact h2 _ (Option.some.inj r)
   rw [bA this];exact r
end
section
variable {X:Cx} {tg:Expr}
end
section
variable {d D:Addr} {o:Obj} {kvs:List (Key×V)} {tc:TT} {te:TE} {Q:VK} {rest:St} {H1:Hp}
end
end L2
set_option Elab.async false
set_option linter.all false
set_option maxRecDepth 100000
set_option maxHeartbeats 4000000
namespace L2
open PySem PySem.Spec PyProof.Rows
section
variable {X:Cx} {tg:Expr}
end
end L2
set_option Elab.async false
set_option linter.all false
set_option maxRecDepth 100000
set_option maxHeartbeats 4000000
namespace L2
open PySem PySem.Spec PyProof.Rows
section
variable {X:Cx} {tg:Expr}
end
end L2
set_option Elab.async false
set_option linter.all false
set_option maxRecDepth 100000
set_option maxHeartbeats 4000000
namespace L2
open PySem PySem.Spec PyProof.Rows
def SJ (K:PySem.W.Frag) (neg:Bool):R2:=fun x y H Q=>∃(p:Addr) (vs:List V) (d:PyData) (ds:List PyData),y = .ref p/\aY K H p vs/\aG H vs ds/\Dat H x d/\SeqAt.shaped d=true/\(∀e∈ds,SeqAt.shaped e=true)/\Q (.bl (if neg then !(ds.any fun e=>PyData.eqv e d) else ds.any fun e=>PyData.eqv e d)) H
section
variable {X:Cx}
theorem uO {H:Hp} {pins:List (Addr×Obj)} {σ:St} {s:Shared} (I:Inv X pins σ H s):∀{vs:List V} {us:List Value} {ds:List PyData},Vals vs us->aG H vs ds -> ∀u∈us,∃e∈ds,∃as,Reads s.heap u e as
 | [],_,_,.nil,_=>fun u hu=>by cases hu
 | v::vs,_,d::ds,.cons r rs,h=>fun u hu=>by
   simp only [aG] at h;rcases List.mem_cons.mp hu with rfl|hu
   ·obtain ⟨as,ra⟩:=I.reads d h.1 r
    exact ⟨d,by simp,as,ra⟩
   ·obtain ⟨e,he,q⟩:=uO I rs h.2 u hu
    exact ⟨e,by simp [he],q⟩
 | _::_,_,[],.cons _ _,h=>by simp only [aG] at h
theorem A_ {H:Hp} {pins:List (Addr×Obj)} {σ:St} {s:Shared} (I:Inv X pins σ H s):∀{vs:List V} {us:List Value} {ds:List PyData},Vals vs us->aG H vs ds -> ∀e∈ds,∃u∈us,∃as,Reads s.heap u e as
 | [],_,[],.nil,_=>fun e he=>by cases he
 | [],_,_::_,.nil,h=>by simp only [aG] at h
 | v::vs,_,d::ds,.cons r rs,h=>fun e he=>by
   simp only [aG] at h;rcases List.mem_cons.mp he with rfl|he
   ·obtain ⟨as,ra⟩:=I.reads e h.1 r
    exact ⟨_,by simp,as,ra⟩
   ·obtain ⟨u,hu,q⟩:=A_ I rs h.2 e he
    exact ⟨u,by simp [hu],q⟩
 | _::_,_,[],.cons _ _,h=>by simp only [aG] at h
open Classical in
noncomputable def Jb (s:Shared) (ds:List PyData) (d:PyData) (u:Value):Bool:=decide (∃e∈ds,(∃as,Reads s.heap u e as)/\PyData.eqv e d=true)
open Classical in
theorem pC {s:Shared} {ds:List PyData} {d:PyData} {u:Value}:Jb s ds d u=true ↔ ∃e∈ds,(∃as,Reads s.heap u e as)/\PyData.eqv e d=true:=by unfold Jb;exact decide_eq_true_iff
theorem Ja {A:Around} {s:Shared} {ds:List PyData} {d:PyData} {u v:Value} {bs:List Addr} (hd:SeqAt.shaped d=true) (hds:∀e∈ds,SeqAt.shaped e=true) (hu:A.units+64<cLine) (rv:Reads s.heap v d bs) (h:∃e∈ds,∃as,Reads s.heap u e as):SeqAt.EqAt A s u v (Jb s ds d u):=by
 by_cases q:∃e∈ds,(∃as,Reads s.heap u e as)/\PyData.eqv e d=true
 ·have:Jb s ds d u=true:=pC.mpr q
  rw [this];obtain ⟨e,he,⟨as,ra⟩,ee⟩:=q;have:=SeqAt.eqAt_reads e d A s u v as bs ra rv (SeqAt.canLay_of_shaped (hds e he)) (SeqAt.canLay_of_shaped hd) (SeqAt.room_of_shaped (hds e he) hu);rwa [ee] at this
 ·have:Jb s ds d u=false:=by
   cases z:Jb s ds d u with
   | false=>rfl
   | true=>exact absurd (pC.mp z) q
  rw [this];obtain ⟨e,he,as,ra⟩:=h
  have ee:PyData.eqv e d=false:=by
   cases z:PyData.eqv e d with
   | false=>rfl
   | true=>exact absurd ⟨e,he,⟨as,ra⟩,z⟩ q
  have:=SeqAt.eqAt_reads e d A s u v as bs ra rv (SeqAt.canLay_of_shaped (hds e he)) (SeqAt.canLay_of_shaped hd) (SeqAt.room_of_shaped (hds e he) hu);rwa [ee] at this
theorem Cq {H:Hp} {pins:List (Addr×Obj)} {σ:St} {s:Shared} (I:Inv X pins σ H s) {vs:List V} {us:List Value} {ds:List PyData} {d:PyData} (r:Vals vs us) (h:aG H vs ds):us.toArray.any (Jb s ds d)=ds.any fun e=>PyData.eqv e d:=by
 rw [show us.toArray.any (Jb s ds d)=us.any (Jb s ds d) by simp,Bool.eq_iff_iff,List.any_eq_true,List.any_eq_true];constructor
 ·rintro ⟨u,hu,e⟩
  obtain ⟨e,he,_,ee⟩:=pC.mp e;exact ⟨e,he,ee⟩
 ·rintro ⟨e,he,ee⟩
  obtain ⟨u,hu,q⟩:=A_ I r h e he;exact ⟨u,hu,pC.mpr ⟨e,he,q,ee⟩⟩
theorem K8 {K:PySem.W.Frag} (hK:X.K=K) (hu:X.A.in1.units+64<cLine):lV X (compareOp .In) (SJ K false):=by
 subst hK;intro pins s σ H x y v u Q I rx ry h;obtain ⟨p,vs,d,ds,rfl,hq,hds,hd,s1,s2,q⟩:=h;cases ry;obtain ⟨its,r,pl,hz⟩:=I.list hq;obtain ⟨bs,rv⟩:=I.reads d hd rx;refine SeqAt.in_listAt (Jb s ds d) pl.isList (fun w hw=>Ja s1 s2 hu rv (uO I r hds w (by simpa using hw))) ⟨.bl _,H,I,rfl, ?_⟩;rw [Cq I r hds];exact q
theorem zU {K:PySem.W.Frag} (hK:X.K=K) (hu:X.A.in1.units+64<cLine):lV X (compareOp .NotIn) (SJ K true):=by
 subst hK;intro pins s σ H x y v u Q I rx ry h;obtain ⟨p,vs,d,ds,rfl,hq,hds,hd,s1,s2,q⟩:=h;cases ry;obtain ⟨its,r,pl,hz⟩:=I.list hq;obtain ⟨bs,rv⟩:=I.reads d hd rx;refine SeqAt.notIn_listAt (Jb s ds d) pl.isList (fun w hw=>Ja s1 s2 hu rv (uO I r hds w (by simpa using hw))) ⟨.bl _,H,I,rfl, ?_⟩;rw [Cq I r hds];exact q
end
end L2
set_option Elab.async false
set_option linter.all false
set_option maxRecDepth 100000
set_option maxHeartbeats 4000000
namespace L2
open PySem PySem.Spec PyProof.Rows
section
variable {H H':Hp}
mutual
theorem Dat.same (k:Same H H'):∀(d:PyData) {v:V},Dat H v d->Dat H' v d
 | .none,_,h=>by simp only [Dat] at h ⊢;exact h
 | .bool _,_,h=>by simp only [Dat] at h ⊢;exact h
 | .int _,_,h=>by simp only [Dat] at h ⊢;exact h
 | .str _,_,h=>by simp only [Dat] at h ⊢;exact h
 | .list ds,_,h=>by simp only [Dat] at h ⊢;obtain ⟨a,vs,e,q,r⟩:=h;exact ⟨a,vs,e,k _ _ q,aG.same k ds r⟩
 | .tuple ds,_,h=>by simp only [Dat] at h ⊢;obtain ⟨a,vs,e,q,r⟩:=h;exact ⟨a,vs,e,k _ _ q,aG.same k ds r⟩
 | .dict _,_,h=>by simp only [Dat] at h
theorem aG.same (k:Same H H'):∀(ds:List PyData) {vs:List V},aG H vs ds->aG H' vs ds
 | [],[],_=>by simp only [aG]
 | d::ds,v::vs,h=>by simp only [aG] at h ⊢;exact ⟨Dat.same k d h.1,aG.same k ds h.2⟩
 | _::_,[],h=>by simp only [aG] at h
 | [],_::_,h=>by simp only [aG] at h
end
end
section
variable {X:Cx} {K:PySem.W.Frag}
end
section
variable {K:PySem.W.Frag} {a D:Addr} {xs:List V} {tc:TT} {te:TE} {Q:VK} {rest:St} {H1:Hp}
theorem vK {f:Nat->Option PyData} (hf:∀i d,f i=some d->LC d=true):∀l:List Nat,yd (l.filterMap f)=true
 | []=>rfl
 | i::l=>by
   rw [List.filterMap_cons];cases e:f i with
   | none=>exact vK hf l
   | some d=>simp only [yd,hf i d e,vK hf l,Bool.and_self]
theorem Ft (f:Nat->Option PyData) (hf:∀i d,f i=some d->LC d=true) (hD:H1 D=none) (hq:aY K H1 a xs) (hx:xs.length<=100000)
 (hs:∀i x H (G:Hp->Prop) (F:VK),xs[i]? = some x->Same H1 H->(∀H',Same H H'->f i=none->G H')->(∀y d H',Same H H'->f i=some d->Dat H' y d->F y H')->tc (some x::rest) H fun b H3=>if b=true then te (some x::rest) H3 F else G H3)
 (hd:∀H vs,Same H1 H->H D=some (.lst vs)->aG H vs ((List.range xs.length).filterMap f)->Q (.ref D) H):jo (J5 K a) (jR 0) tc te Q D (none::rest) H1:=by
 refine lH (K:=K) (xs:=xs) (fun i σ H=>(∃v,σ=v::rest)/\Same H1 H /\ ∃vs,H D=some (.lst vs)/\aG H vs ((List.range i).filterMap f)) ⟨⟨none,rfl⟩,aD hD,[],aA,by simp [aG]⟩ (fun i σ H _ ⟨_,sm,_⟩=>sm.R0 _ _ hq) ?_ (fun σ H ⟨_,sm,vs,e,d⟩=>hd H vs sm e d);rintro i x σ H hi ⟨⟨v,rfl⟩,sm,vs,e,d⟩;have hil:i<xs.length:=(List.getElem?_eq_some_iff.mp hi).1;have im:=vK hf (List.range i);refine hs i x H _ _ hi sm (fun H3 s3 ef=>⟨⟨_,rfl⟩,sm.trans s3,vs,s3 _ _ e, ?_⟩) (fun y dd H4 s4 ef dy=> ?_)
 ·rw [fB,ef]
  simpa using aG.keep s3.tups _ im d
 ·have hl:vs.length<=i:=by rw [d.length];exact oh f i
  have kp:Kp D H4 (upd H4 D (.lst (vs++[y]))):=Kp.set;have tp:=kp.tups (s4 _ _ e);refine ⟨vs,s4 _ _ e, ?_,⟨_,rfl⟩,(sm.trans s4).newly hD,vs++[y],aA, ?_⟩
  ·rw [sizeLine_eq];omega
  ·rw [fB,ef]
   exact lG (aG.keep (fun a xs h=>tp _ _ (s4.tups _ _ h)) _ im d) (Dat.keep tp _ (hf i dd ef) dy)
end
section
variable {X:Cx}
end
end L2
set_option Elab.async false
set_option linter.all false
set_option maxRecDepth 100000
set_option maxHeartbeats 4000000
namespace L2
open PySem PySem.Spec PyProof.Rows
theorem i_.uP {k:Nat} {A:Around} (r:i_ k A):A.in1.units+64<cLine:=by have:=r.un;show A.units+1+64<_;omega
section
variable {X:Cx} {K:PySem.W.Frag} {e st:Expr} {te tk:TE} {pos p2:Pos}
end
end L2
set_option Elab.async false
set_option linter.all false
set_option maxRecDepth 100000
set_option maxHeartbeats 4000000
namespace L2
open PySem PySem.Spec PyProof.Rows
section
variable {H:Hp}
mutual
theorem Dat.fn:∀(d e:PyData) {v:V},Dat H v d->Dat H v e->d=e
 | .none,e,v,h,g=>by cases e<;>simp only [Dat] at h g<;>first |rfl|(subst h;first |(obtain ⟨_,_,z,_⟩:=g;cases z;done)|(cases g;done))
 | .bool _,e,v,h,g=>by cases e<;>simp only [Dat] at h g<;>first |(subst h;first |(injection g with g;rw [g];done)|(obtain ⟨_,_,z,_⟩:=g;cases z;done)|(cases g;done))
 | .int _,e,v,h,g=>by cases e<;>simp only [Dat] at h g<;>first |(subst h;first |(injection g with g;rw [g];done)|(obtain ⟨_,_,z,_⟩:=g;cases z;done)|(cases g;done))
 | .str _,e,v,h,g=>by cases e<;>simp only [Dat] at h g<;>first |(subst h;first |(injection g with g;rw [g];done)|(obtain ⟨_,_,z,_⟩:=g;cases z;done)|(cases g;done))
 | .list ds,.list es,v,h,g=>by
   simp only [Dat] at h g;obtain ⟨a,vs,rfl,ha,da⟩:=h;obtain ⟨b,ws,e,hb,db⟩:=g;injection e with e
   subst e;rw [ha] at hb;injection hb with hb
   injection hb with hb
   subst hb;rw [aG.fn ds es da db]
 | .tuple ds,.tuple es,v,h,g=>by
   simp only [Dat] at h g;obtain ⟨a,vs,rfl,ha,da⟩:=h;obtain ⟨b,ws,e,hb,db⟩:=g;injection e with e
   subst e;rw [ha] at hb;injection hb with hb
   injection hb with hb
   subst hb;rw [aG.fn ds es da db]
 | .list ds,.tuple es,v,h,g=>by
   simp only [Dat] at h g;obtain ⟨a,vs,rfl,ha,da⟩:=h;obtain ⟨b,ws,e,hb,db⟩:=g;injection e with e
   subst e;rw [ha] at hb;injection hb with hb
   cases hb
 | .tuple ds,.list es,v,h,g=>by
   simp only [Dat] at h g;obtain ⟨a,vs,rfl,ha,da⟩:=h;obtain ⟨b,ws,e,hb,db⟩:=g;injection e with e
   subst e;rw [ha] at hb;injection hb with hb
   cases hb
 | .list ds,.none,v,h,g=>by simp only [Dat] at h g;obtain ⟨a,vs,rfl,_⟩:=h;cases g
 | .list ds,.bool _,v,h,g=>by simp only [Dat] at h g;obtain ⟨a,vs,rfl,_⟩:=h;cases g
 | .list ds,.int _,v,h,g=>by simp only [Dat] at h g;obtain ⟨a,vs,rfl,_⟩:=h;cases g
 | .list ds,.str _,v,h,g=>by simp only [Dat] at h g;obtain ⟨a,vs,rfl,_⟩:=h;cases g
 | .tuple ds,.none,v,h,g=>by simp only [Dat] at h g;obtain ⟨a,vs,rfl,_⟩:=h;cases g
 | .tuple ds,.bool _,v,h,g=>by simp only [Dat] at h g;obtain ⟨a,vs,rfl,_⟩:=h;cases g
 | .tuple ds,.int _,v,h,g=>by simp only [Dat] at h g;obtain ⟨a,vs,rfl,_⟩:=h;cases g
 | .tuple ds,.str _,v,h,g=>by simp only [Dat] at h g;obtain ⟨a,vs,rfl,_⟩:=h;cases g
 | .list ds,.dict _,v,h,g=>by simp only [Dat] at g
 | .tuple ds,.dict _,v,h,g=>by simp only [Dat] at g
 | .dict _,_,v,h,g=>by simp only [Dat] at h
theorem aG.fn:∀(ds es:List PyData) {vs:List V},aG H vs ds->aG H vs es->ds=es
 | [],[],_,_,_=>rfl
 | d::ds,e::es,v::vs,h,g=>by
   simp only [aG] at h g;rw [Dat.fn d e h.1 g.1,aG.fn ds es h.2 g.2]
 | [],_::_,[],_,g=>by simp only [aG] at g
 | [],_::_,_::_,h,_=>by simp only [aG] at h
 | _::_,[],[],h,_=>by simp only [aG] at h
 | _::_,[],_::_,_,g=>by simp only [aG] at g
 | _::_,_::_,[],h,_=>by simp only [aG] at h
end
end
section
variable {X:Cx}
end
end L2
set_option Elab.async false
set_option linter.all false
set_option maxRecDepth 100000
set_option maxHeartbeats 4000000
namespace L2
open PySem PySem.Spec PyProof.Rows
section
variable {X:Cx} {K:PySem.W.Frag} {e e1 e2 l:Expr} {te t1 t2 tl:TE} {pos:Pos} {tg:Expr}
end
section
variable {X:Cx}
end
end L2
set_option Elab.async false
set_option linter.all false
set_option maxRecDepth 100000
set_option maxHeartbeats 4000000
namespace L2
open PySem PySem.Spec PyProof.Rows PySem.Builtin PySem.Builtin.Str
section
variable {X:Cx} {K:PySem.W.Frag}
end
section
variable {K:PySem.W.Frag} {D:Addr} {tc:TT} {te:TE} {Q:VK} {rest:St} {H1:Hp}
end
section
variable {X:Cx}
end
end L2
set_option Elab.async false
set_option linter.all false
set_option maxRecDepth 100000
set_option maxHeartbeats 4000000
namespace L2
open PySem PySem.Spec PyProof.Rows PySem.Builtin PySem.Builtin.Str
end L2
set_option Elab.async false
set_option linter.all false
set_option maxRecDepth 100000
set_option maxHeartbeats 4000000
namespace L2
open PySem PySem.Spec PyProof.Rows
section
variable (P:Program) (w:World) (K:PySem.W.Frag) (mg:Str->Option Value) (base:Heap)
end
section
variable {P:Program} {w:World} {K:PySem.W.Frag} {mg:Str->Option Value} {base:Heap} {k:Nat} {C:Addr} {m x:Str} {ps:List Str} {sp:Sp} {Jo:List V}
end
section
variable {X:Cx} {k:Nat} {C:Addr} {x m:Str} {ps:List Str} {sp:Sp} {Jo:List V} {e o:Expr} {es:List Expr} {ta:TE} {t:TA} {p pos apos:Pos} {E:St->XK}
end
end L2
namespace L2
open PySem PySem.Spec PyProof.Rows PySem.Builtin PySem.Builtin.Str
section
variable {X:Cx} {K:PySem.W.Frag} {o e value:Expr} {f:Str} {pos pos' tpos:Pos} {ta tv:TE}
end
section
variable {P:Program} {w:World} {K:PySem.W.Frag} {mg:Str->Option Value} {base:Heap}
end
section
variable {X:Cx} {k:Nat} {C:Addr} {x kn:Str} {ps:List Str} {sp:Sp} {e ke:Expr} {es:List Expr} {te:TE} {t:TA} {p pos kpos:Pos} {E:St->XK}
end
end L2
set_option Elab.async false
set_option linter.all false
set_option maxRecDepth 100000
set_option maxHeartbeats 4000000
namespace Tim
open PySem PyProof.Rows
def iM:Bool->Keyed->Array Keyed->Nat->Nat->Nat->StateT SortSt Sem (Option Nat):=sortPriv% PySem.Builtin.gallop
def jM (left:Bool) (key:Keyed) (arr:Array Keyed) (base i:Nat):StateT SortSt Sem (Option Bool):=do
 let x ←elem' arr (base+i)
 if left then lt' x key else return (←lt' key x).map (!·)
theorem z9 (left:Bool) (key:Keyed) (arr:Array Keyed) (base n hint:Nat):iM left key arr base n hint=(do
 let mut lastofs:=0
 let mut ofs:=1
 let mut lo:=0
 let mut hi:=0
 let some right ←jM left key arr base hint|return none
 if right then
  let maxofs:=n - hint
  for _ in [0:n] do
   if ofs≥maxofs then break
   let some more ←jM left key arr base (hint+ofs)|return none
   if !more then break
   lastofs:=ofs
   ofs:=2*ofs+1
  lo:=hint+lastofs+1
  hi:=hint+min ofs maxofs
 else
  let maxofs:=hint+1
  for _ in [0:n] do
   if ofs≥maxofs then break
   let some found ←jM left key arr base (hint - ofs)|return none
   if found then break
   lastofs:=ofs
   ofs:=2*ofs+1
  lo:=hint+1 - min ofs maxofs
  hi:=hint - lastofs
 for _ in [0:n] do
  if lo≥hi then break
  let m:=lo+(hi - lo) / 2
  let some more ←jM left key arr base m|return none
  if more then lo:=m+1 else hi:=m
 return some hi):=rfl
section
variable {prog:Program} {w:World} {A:Around} {E:Value->Shared->Prop} {s:Shared} {κ:SortKind} {a₀:Array Keyed} {rk:Value->Nat}
structure Ax (prog:Program) (w:World) (A:Around) (s:Shared) (κ:SortKind) (a₀:Array Keyed) (rk:Value->Nat):Prop where
 ask:∀p∈a₀.toList,∀q∈a₀.toList,∀(E:Value->Shared->Prop) (Q:Bool->Shared->Prop),Q (decide (rk p.1<rk q.1)) s->wpAny (model prog w) A (keyLt' κ p.1 q.1) Q E s
def R (rk:Value->Nat) (xs:Array Keyed) (i:Nat):Nat:=match xs[i]? with
 | some p=>rk p.1
 | none=>0
theorem rK {xs:Array Keyed} {i:Nat} {p:Keyed} (h:xs[i]? = some p):R rk xs i=rk p.1:=by unfold R;rw [h]
theorem eN {xs ys:Array Keyed} {i j:Nat} (h:xs[i]? = ys[j]?):R rk xs i=R rk ys j:=by unfold R;rw [h]
theorem pL {st:SortSt} {p q:Keyed} {Q:Option Bool->SortSt->Prop} (C:Ax prog w A s κ a₀ rk) (hk:kindOf st=κ) (hp:p∈a₀.toList) (hq:q∈a₀.toList) (h:Q (some (decide (rk p.1<rk q.1))) st):
 wpS (model prog w) A E s (lt' p q) Q st:=by
 rw [lt'_eq];refine wpS_bind (wpS_get ?_);rw [hk];refine wpS_bind (wpS_lift (wpAny_attempt (C.ask p hp q hq _ _ ⟨rfl, ?_⟩)));exact wpS_pure h
theorem bF {st:SortSt} {arr:Array Keyed} {i:Nat} {p:Keyed} {Q:Keyed->SortSt->Prop} (hi:arr[i]? = some p) (h:Q p st):wpS (model prog w) A E s (elem' arr i) Q st:=by
 rw [elem'_eq,hi];exact wpS_pure h
def By (left:Bool) (k r:Nat):Bool:=if left then decide (r<k) else !decide (k<r)
theorem jt {st:SortSt} {left:Bool} {key:Keyed} {arr:Array Keyed} {base i:Nat} {Q:Option Bool->SortSt->Prop} (C:Ax prog w A s κ a₀ rk) (hk:kindOf st=κ) (hkey:key∈a₀.toList) (m7:∀p∈arr.toList,p∈a₀.toList)
 (hi:base+i<arr.size) (h:Q (some (By left (rk key.1) (R rk arr (base+i)))) st):wpS (model prog w) A E s (jM left key arr base i) Q st:=by
 unfold jM;have e:arr[base+i]? = some arr[base+i]:=getElem?_pos arr (base+i) hi;have hm:arr[base+i]∈a₀.toList:=m7 _ (by simp);rw [rK e] at h;refine wpS_bind (bF e ?_);cases left with
 | true=>exact pL C hk hm hkey h
 | false=>exact wpS_bind (pL C hk hkey hm (wpS_pure h))
theorem wk {left:Bool} {k r r':Nat} (h:By left k r=true) (le:r'<=r):By left k r'=true:=by
 unfold By at *;cases left<;>simp at * <;> omega
theorem rR {left:Bool} {k r r':Nat} (h:By left k r=false) (le:r<=r'):By left k r'=false:=by
 unfold By at *;cases left<;>simp at * <;> omega
def Seg (rk:Value->Nat) (xs:Array Keyed) (lo hi:Nat):Prop:=∀i j,lo<=i->i<=j->j<hi->R rk xs i<=R rk xs j
abbrev GSt:=Option (Option Nat)×Nat×Nat
theorem oK {st:SortSt} {left:Bool} {key:Keyed} {arr:Array Keyed} {base n lo hi:Nat} {Q:GSt->SortSt->Prop} (C:Ax prog w A s κ a₀ rk) (hk:kindOf st=κ) (hkey:key∈a₀.toList) (m7:∀p∈arr.toList,p∈a₀.toList)
 (hn:base+n<=arr.size) (hs:Seg rk arr base (base+n)) (hlh:lo<=hi) (hhn:hi<=n)
 (h1:∀i,i<lo->By left (rk key.1) (R rk arr (base+i))=true) (h2:∀i,hi<=i->i<n->By left (rk key.1) (R rk arr (base+i))=false)
 (h:∀k l,k<=n->(∀i,i<k->By left (rk key.1) (R rk arr (base+i))=true)->(∀i,k<=i->i<n->By left (rk key.1) (R rk arr (base+i))=false)->Q (none,l,k) st):
 wpS (model prog w) A E s (forIn [0:n] ((none,lo,hi):GSt) fun _ __s=>
       if __s.snd.fst≥__s.snd.snd then pure (ForInStep.done (none,__s.snd.fst,__s.snd.snd))
       else do
        let __x ←jM left key arr base (__s.snd.fst+(__s.snd.snd - __s.snd.fst) / 2)
        match __x with
         | some more=>
           if more=true then
            pure (ForInStep.yield (none,__s.snd.fst+(__s.snd.snd - __s.snd.fst) / 2+1,__s.snd.snd))
           else pure (ForInStep.yield (none,__s.snd.fst,__s.snd.fst+(__s.snd.snd - __s.snd.fst) / 2))
         | _=>pure (ForInStep.done (some none,__s.snd.fst,__s.snd.snd))) Q st:=by
 refine wpS_forRange (I:=fun x c st'=>st'=st /\ ∃lo hi,c=(none,lo,hi)/\lo<=hi/\hi<=n/\hi - lo<=n - x/\(∀i,i<lo->By left (rk key.1) (R rk arr (base+i))=true)/\(∀i,hi<=i->i<n->By left (rk key.1) (R rk arr (base+i))=false)) ?step ?fin ⟨rfl,lo,hi,rfl,hlh,hhn,by omega,h1,h2⟩
 case fin=>
  rintro c st' ⟨rfl,lo,hi,rfl,a1,a2,a3,a4,a5⟩;have:lo=hi:=by omega
  subst this;exact h _ _ a2 a4 a5
 case step=>
  rintro x c st' _ hx ⟨rfl,lo,hi,rfl,a1,a2,a3,a4,a5⟩;dsimp only
  by_cases hge:lo≥hi
  ·rw [if_pos hge]
   have:lo=hi:=by omega
   subst this;exact wpS_pure (h _ _ a2 a4 a5)
  ·rw [if_neg hge]
   refine wpS_bind (jt C hk hkey m7 (by omega) ?_);dsimp only;cases hb:By left (rk key.1) (R rk arr (base+(lo+(hi - lo) / 2))) with
   | true=>
     simp only [if_true];refine wpS_pure ⟨rfl,_,_,rfl,by omega,a2,by omega,fun i hi'=> ?_,a5⟩;exact wk hb (hs _ _ (by omega) (by omega) (by omega))
   | false=>
     simp only [Bool.false_eq_true,if_false];refine wpS_pure ⟨rfl,_,_,rfl,by omega,by omega,by omega,a4,fun i hi' hin=> ?_⟩;exact rR hb (hs _ _ (by omega) (by omega) (by omega))
theorem gn {st:SortSt} {left:Bool} {key:Keyed} {arr:Array Keyed} {base n hint:Nat} {Q:Option Nat->SortSt->Prop} (C:Ax prog w A s κ a₀ rk) (hk:kindOf st=κ) (hkey:key∈a₀.toList) (m7:∀p∈arr.toList,p∈a₀.toList)
 (hn:base+n<=arr.size) (hh:hint<n) (hs:Seg rk arr base (base+n))
 (h:∀k,k<=n->(∀i,i<k->By left (rk key.1) (R rk arr (base+i))=true)->(∀i,k<=i->i<n->By left (rk key.1) (R rk arr (base+i))=false)->Q (some k) st):
 wpS (model prog w) A E s (iM left key arr base n hint) Q st:=by
 rw [z9];refine wpS_bind (jt C hk hkey m7 (by omega) ?_);dsimp only;cases hr:By left (rk key.1) (R rk arr (base+hint)) with
 | true=>
   simp only [if_true]
   refine wpS_bind (wpS_mono (wpS_forRange (I:=fun x c st'=>st'=st /\ ∃l o,c=(none,l,o)/\l<o/\x<o/\hint+l<n/\By left (rk key.1) (R rk arr (base+(hint+l)))=true)
    (Q:=fun c st'=>st'=st /\ ∃l o,c=(none,l,o)/\l<o/\hint+l<n/\By left (rk key.1) (R rk arr (base+(hint+l)))=true/\(o<n - hint->By left (rk key.1) (R rk arr (base+(hint+o)))=false)) ?step ?fin ⟨rfl,0,1,rfl,by omega,by omega,by omega,hr⟩) ?post)
   case fin=>
    rintro c st' ⟨rfl,l,o,rfl,a1,a2,a3,a4⟩;exact ⟨rfl,l,o,rfl,a1,a3,a4,fun z=>by omega⟩
   case step=>
    rintro x c st' _ hx ⟨rfl,l,o,rfl,a1,a2,a3,a4⟩;dsimp only
    by_cases hge:o≥n - hint
    ·rw [if_pos hge]
     exact wpS_pure ⟨rfl,l,o,rfl,a1,a3,a4,fun z=>by omega⟩
    ·rw [if_neg hge]
     refine wpS_bind (jt C hk hkey m7 (by omega) ?_);dsimp only;cases hb:By left (rk key.1) (R rk arr (base+(hint+o))) with
     | true=>
       simp only [Bool.not_true,Bool.false_eq_true,if_false];exact wpS_pure ⟨rfl,o,2*o+1,rfl,by omega,by omega,by omega,hb⟩
     | false=>
       simp only [Bool.not_false,if_true];exact wpS_pure ⟨rfl,l,o,rfl,a1,a3,a4,fun _=>hb⟩
   case post=>
    rintro c st' ⟨rfl,l,o,rfl,a1,a2,a3,a4⟩;dsimp only;refine wpS_bind (oK C hk hkey m7 hn hs (by omega) (by omega) (fun i hi=> ?_) (fun i hi hin=> ?_) fun k l' b1 b2 b3=>wpS_pure (h k b1 b2 b3))
    ·exact wk a3 (hs _ _ (by omega) (by omega) (by omega))
    ·exact rR (a4 (by omega)) (hs _ _ (by omega) (by omega) (by omega))
 | false=>
   simp only [Bool.false_eq_true,if_false]
   refine wpS_bind (wpS_mono (wpS_forRange (I:=fun x c st'=>st'=st /\ ∃l o,c=(none,l,o)/\l<o/\x<o/\l<=hint/\By left (rk key.1) (R rk arr (base+(hint - l)))=false)
    (Q:=fun c st'=>st'=st /\ ∃l o,c=(none,l,o)/\l<o/\l<=hint/\By left (rk key.1) (R rk arr (base+(hint - l)))=false/\(o<hint+1->By left (rk key.1) (R rk arr (base+(hint - o)))=true)) ?step ?fin ⟨rfl,0,1,rfl,by omega,by omega,by omega,hr⟩) ?post)
   case fin=>
    rintro c st' ⟨rfl,l,o,rfl,a1,a2,a3,a4⟩;exact ⟨rfl,l,o,rfl,a1,a3,a4,fun z=>by omega⟩
   case step=>
    rintro x c st' _ hx ⟨rfl,l,o,rfl,a1,a2,a3,a4⟩;dsimp only
    by_cases hge:o≥hint+1
    ·rw [if_pos hge]
     exact wpS_pure ⟨rfl,l,o,rfl,a1,a3,a4,fun z=>by omega⟩
    ·rw [if_neg hge]
     refine wpS_bind (jt C hk hkey m7 (by omega) ?_);dsimp only;cases hb:By left (rk key.1) (R rk arr (base+(hint - o))) with
     | true=>
       simp only [if_true];exact wpS_pure ⟨rfl,l,o,rfl,a1,a3,a4,fun _=>hb⟩
     | false=>
       simp only [Bool.false_eq_true,if_false];exact wpS_pure ⟨rfl,o,2*o+1,rfl,by omega,by omega,by omega,hb⟩
   case post=>
    rintro c st' ⟨rfl,l,o,rfl,a1,a2,a3,a4⟩;dsimp only;refine wpS_bind (oK C hk hkey m7 hn hs (by omega) (by omega) (fun i hi=> ?_) (fun i hi hin=> ?_) fun k l' b1 b2 b3=>wpS_pure (h k b1 b2 b3))
    ·exact wk (a4 (by omega)) (hs _ _ (by omega) (by omega) (by omega))
    ·exact rR a3 (hs _ _ (by omega) (by omega) (by omega))
end
end Tim
set_option Elab.async false
set_option linter.all false
set_option maxRecDepth 100000
set_option maxHeartbeats 4000000
namespace Tim
open PySem PyProof.Rows
def dD:Nat->StateT SortSt Sem Unit:=sortPriv% PySem.Builtin.setMinGallop
theorem nP (g:Nat):dD g=modify fun s=>SortSt.mk' (kindOf s) (arrOf s) (pendingOf s) g (failedOf s):=rfl
def qF:Array Keyed->Array Keyed->StateT SortSt Sem (Array Keyed):=sortPriv% PySem.Builtin.mergeLo
def qG:Array Keyed->Array Keyed->StateT SortSt Sem (Array Keyed):=sortPriv% PySem.Builtin.mergeHi
abbrev eO (a b out:Array Keyed) (ia ib:Nat):Array Keyed:=out++a.extract ia a.size++b.extract ib b.size
abbrev mz (a b out:Array Keyed) (ia ib:Nat):Array Keyed:=out++b.extract ib b.size++a.extract ia a.size
theorem xK (a b:Array Keyed):qF a b=(do
 rule "list.sort.merge-lo"
 let total:=a.size+b.size
 let mut out:Array Keyed:= #[←elem' b 0]
 let mut ia:=0
 let mut ib:=1
 if ib==b.size then return eO a b out ia ib
 if ia+1==a.size then return mz a b out ia ib
 let mut minGallop:=gallopOf (←get)
 for _ in [0:total] do
  let mut acount:=0
  let mut bcount:=0
  for _ in [0:total] do
   let some bWins ←lt' (←elem' b ib) (←elem' a ia)|return eO a b out ia ib
   if bWins then
    out:=out.push (←elem' b ib);ib:=ib+1;bcount:=bcount+1;acount:=0
    if ib==b.size then return eO a b out ia ib
    if bcount≥minGallop then break
   else
    out:=out.push (←elem' a ia);ia:=ia+1;acount:=acount+1;bcount:=0
    if ia+1==a.size then return mz a b out ia ib
    if acount≥minGallop then break
  rule "list.sort.gallop"
  minGallop:=minGallop+1
  for _ in [0:total] do
   if minGallop>1 then minGallop:=minGallop - 1
   dD minGallop
   let some k ←iM false (←elem' b ib) a ia (a.size - ia) 0|return eO a b out ia ib
   acount:=k
   if k>0 then
    out:=out++a.extract ia (ia+k);ia:=ia+k
    if ia+1==a.size then return mz a b out ia ib
    if ia==a.size then return eO a b out ia ib
   out:=out.push (←elem' b ib);ib:=ib+1
   if ib==b.size then return eO a b out ia ib
   let some k ←iM true (←elem' a ia) b ib (b.size - ib) 0|return eO a b out ia ib
   bcount:=k
   if k>0 then
    out:=out++b.extract ib (ib+k);ib:=ib+k
    if ib==b.size then return eO a b out ia ib
   out:=out.push (←elem' a ia);ia:=ia+1
   if ia+1==a.size then return mz a b out ia ib
   if acount<7&&bcount<7 then break
  minGallop:=minGallop+1
  dD minGallop
 unsupported "internal:list.sort.merge-bound"):=rfl
section
variable {rk:Value->Nat} {a b out:Array Keyed} {ia ib k:Nat}
def Le (rk:Value->Nat) (x y:Keyed):Prop:=rk x.1<=rk y.1
def Gf (rk:Value->Nat) (l:List Keyed):Prop:=l.Pairwise (Le rk)
structure MI (rk:Value->Nat) (a b out:Array Keyed) (ia ib:Nat):Prop where
 perm:(out.toList++(a.toList.drop ia++b.toList.drop ib)).Perm (a.toList++b.toList)
 sa:Gf rk (out.toList++a.toList.drop ia)
 sb:Gf rk (out.toList++b.toList.drop ib)
structure Mg (rk:Value->Nat) (a b r:Array Keyed):Prop where
 perm:r.toList.Perm (a.toList++b.toList)
 srt:Gf rk r.toList
theorem bY (a:Array Keyed) (i j:Nat):(a.extract i j).toList=(a.toList.drop i).take (j - i):=by
 rw [Array.toList_extract,List.extract_eq_take_drop]
theorem qT (l:List Keyed) (i k:Nat):l.drop i=(l.drop i).take k++l.drop (i+k):=by
 rw [←List.drop_drop,List.take_append_drop]
theorem fZ {a:Array Keyed} {i:Nat} (h:i<a.size):R rk a i=rk (a[i]).1:=rK (getElem?_pos a i h)
theorem Ii {a:Array Keyed} {x:Keyed} (h:x∈a.toList.drop ia):∃j,ia<=j/\j<a.size/\R rk a j=rk x.1:=by
 obtain ⟨j,hj,e⟩:=List.getElem_of_mem h;rw [List.length_drop,Array.length_toList] at hj;rw [List.getElem_drop,Array.getElem_toList] at e;exact ⟨ia+j,by (clear e hj;omega),by (clear e;omega),by rw [fZ (by (clear e;omega)),e]⟩
theorem gG {a:Array Keyed} {x:Keyed} (h:x∈(a.toList.drop ia).take k):∃j,j<k/\ia+j<a.size/\R rk a (ia+j)=rk x.1:=by
 obtain ⟨j,hj,e⟩:=List.getElem_of_mem h;rw [List.length_take,List.length_drop,Array.length_toList] at hj;rw [List.getElem_take,List.getElem_drop,Array.getElem_toList] at e;exact ⟨j,by (clear e;omega),by (clear e;omega),by rw [fZ (by (clear e;omega)),e]⟩
theorem gF {x y:List Keyed}:Gf rk (x++y)↔Gf rk x/\Gf rk y /\ ∀p∈x,∀q∈y,rk p.1<=rk q.1:=List.pairwise_append
theorem MI.oA (m:MI rk a b out ia ib) (hle:∀i,i<k->ib+i<b.size -> ∀j,ia<=j->j<a.size->R rk b (ib+i)<=R rk a j):MI rk a b (out++b.extract ib (ib+k)) ia (ib+k):=by
 have e:(out++b.extract ib (ib+k)).toList=out.toList++(b.toList.drop ib).take k:=by rw [Array.toList_append,bY];congr 2;omega
 have sp:=qT b.toList ib k;refine ⟨?_, ?_, ?_⟩
 ·rw [e]
  refine List.Perm.trans ?_ m.perm;rw [List.append_assoc];refine List.Perm.append_left _ ?_;refine List.Perm.trans ?_ (List.Perm.of_eq (congrArg (a.toList.drop ia ++ ·) sp.symm));rw [←List.append_assoc];refine List.Perm.trans (List.Perm.append_right _ (List.perm_append_comm)) (List.Perm.of_eq (List.append_assoc _ _ _))
 ·rw [e,List.append_assoc]
  have h1:=gF.mp m.sa;have h2:=m.sb;rw [sp] at h2;have h3:=gF.mp h2;have h4:=gF.mp h3.2.1;refine gF.mpr ⟨h1.1,gF.mpr ⟨h4.1,h1.2.1,fun p hp q hq=> ?_⟩,fun p hp q hq=> ?_⟩
  ·obtain ⟨i,i1,i2,i3⟩:=gG (rk:=rk) hp
   obtain ⟨j,j1,j2,j3⟩:=Ii (rk:=rk) hq;rw [←i3,←j3];exact hle i i1 i2 j j1 j2
  ·rcases List.mem_append.mp hq with hq|hq
   ·exact h3.2.2 p hp q (List.mem_append_left _ hq)
   ·exact h1.2.2 p hp q hq
 ·rw [e,List.append_assoc,←sp]
  exact m.sb
theorem MI.swap (m:MI rk a b out ia ib):MI rk b a out ib ia:=⟨(List.Perm.append_left _ List.perm_append_comm).trans (m.perm.trans List.perm_append_comm),m.sb,m.sa⟩
theorem MI.oE (m:MI rk a b out ia ib) (hle:∀i,i<k->ia+i<a.size -> ∀j,ib<=j->j<b.size->R rk a (ia+i)<=R rk b j):MI rk a b (out++a.extract ia (ia+k)) (ia+k) ib:=(m.swap.oA hle).swap
theorem wU (h:ib<b.size):out.push b[ib]=out++b.extract ib (ib+1):=by
 apply Array.toList_inj.mp;rw [Array.toList_push,Array.toList_append,bY];congr 1;rw [show ib+1 - ib=1 by (clear h;omega),List.drop_eq_getElem_cons (by rw [Array.length_toList];exact h)];rfl
theorem MI.qg (m:MI rk a b out ia ib) (h:ib<b.size) (hle:∀j,ia<=j->j<a.size->R rk b ib<=R rk a j):MI rk a b (out.push b[ib]) ia (ib+1):=by
 rw [wU h];refine m.oA (k:=1) fun i hi hb j j1 j2=> ?_;have:i=0:=by (clear j2 j1 hb h;omega)
 subst this;exact hle j j1 j2
theorem MI.qj (m:MI rk a b out ia ib) (h:ia<a.size) (hle:∀j,ib<=j->j<b.size->R rk a ia<=R rk b j):MI rk a b (out.push a[ia]) (ia+1) ib:=(m.swap.qg h hle).swap
theorem MI.done (m:MI rk a b out ia ib) (h:ia=a.size\/ib=b.size):Mg rk a b (eO a b out ia ib):=by
 have e:(eO a b out ia ib).toList=out.toList++(a.toList.drop ia++b.toList.drop ib):=by
  unfold eO;rw [Array.toList_append,Array.toList_append,bY,bY,List.append_assoc];congr 2
  ·rw [List.take_of_length_le];rw [List.length_drop,Array.length_toList];exact Nat.le_refl _
  ·rw [List.take_of_length_le];rw [List.length_drop,Array.length_toList];exact Nat.le_refl _
 refine ⟨by rw [e];exact m.perm, ?_⟩;rw [e];rcases h with h|h
 ·rw [h,show a.toList.drop a.size=[] by rw [List.drop_eq_nil_of_le];rw [Array.length_toList];exact Nat.le_refl _,List.nil_append]
  exact m.sb
 ·rw [h,show b.toList.drop b.size=[] by rw [List.drop_eq_nil_of_le];rw [Array.length_toList];exact Nat.le_refl _,List.append_nil]
  exact m.sa
theorem MI.last (m:MI rk a b out ia ib) (h:∀i j,ib<=i->i<b.size->ia<=j->j<a.size->R rk b i<=R rk a j):Mg rk a b (mz a b out ia ib):=by
 have m2:=m.oA (k:=b.size - ib) fun i hi hb j j1 j2=>h _ _ (by (clear j2 j1 hb hi;omega)) hb j1 j2
 have e:(mz a b out ia ib)=eO a b (out++b.extract ib (ib+(b.size - ib))) ia (ib+(b.size - ib)):=by
  unfold eO mz;apply Array.toList_inj.mp;simp only [Array.toList_append,bY]
  have e1:(b.toList.drop (ib+(b.size - ib))).take (b.size - (ib+(b.size - ib)))=[]:=by
   rw [List.take_eq_nil_iff];left;omega
  rw [e1,List.append_nil];congr 3
  (clear e1;omega)
 rw [e]
 by_cases hb:ib<=b.size
 ·exact m2.done (.inr (by (clear e;omega)))
 ·refine ⟨?_, ?_⟩
  ·have:=m2.perm
   have e2:(eO a b (out++b.extract ib (ib+(b.size - ib))) ia (ib+(b.size - ib))).toList=(out++b.extract ib (ib+(b.size - ib))).toList++(a.toList.drop ia++b.toList.drop (ib+(b.size - ib))):=by
    unfold eO;rw [Array.toList_append,Array.toList_append,bY,bY,List.append_assoc];congr 2
    ·rw [List.take_of_length_le];rw [List.length_drop,Array.length_toList];exact Nat.le_refl _
    ·rw [List.take_of_length_le];rw [List.length_drop,Array.length_toList];exact Nat.le_refl _
   rw [e2];exact this
  ·unfold eO
   rw [Array.toList_append,Array.toList_append,bY (a:=b) (i:=ib+(b.size - ib)),show b.size - (ib+(b.size - ib))=0 by (clear hb e;omega),List.take_zero,List.append_nil,bY (a:=a)];rw [List.take_of_length_le (by rw [List.length_drop,Array.length_toList];exact Nat.le_refl _)];exact m2.sa
end
end Tim
set_option Elab.async false
set_option linter.all false
set_option maxRecDepth 100000
set_option maxHeartbeats 4000000
namespace Tim
open PySem PyProof.Rows
section
variable {prog:Program} {w:World} {A:Around} {E:Value->Shared->Prop} {s:Shared} {κ:SortKind} {a₀:Array Keyed} {rk:Value->Nat}
structure wz (st st':SortSt):Prop where
 k:kindOf st'=kindOf st
 a:arrOf st'=arrOf st
 p:pendingOf st'=pendingOf st
 f:failedOf st'=failedOf st
theorem wz.refl (st:SortSt):wz st st:=⟨rfl,rfl,rfl,rfl⟩
theorem wz.trans {a b c:SortSt} (h:wz a b) (g:wz b c):wz a c:=⟨g.k.trans h.k,g.a.trans h.a,g.p.trans h.p,g.f.trans h.f⟩
theorem kY {st:SortSt} {g:Nat} {Q:Unit->SortSt->Prop} (h:∀st',wz st st'->Q () st'):wpS (model prog w) A E s (dD g) Q st:=by
 rw [nP];exact wpS_modify (h _ ⟨rfl,rfl,rfl,rfl⟩)
theorem aP {α:Type} {c:Prop} [Decidable c] {x y:StateT SortSt Sem α} {Q:α->SortSt->Prop} {st:SortSt} (h1:c->wpS (model prog w) A E s x Q st) (h2:¬c->wpS (model prog w) A E s y Q st):wpS (model prog w) A E s (if c then x else y) Q st:=by
 by_cases hc:c
 ·rw [if_pos hc];exact h1 hc
 ·rw [if_neg hc];exact h2 hc
theorem Rp {k r:Nat} (h:By true k r=true):r<k:=by simpa [By] using h
theorem MK {k r:Nat} (h:By false k r=true):r<=k:=by simpa [By] using h
theorem yR {k r:Nat} (h:By true k r=false):k<=r:=by simpa [By] using h
theorem JZ {k r:Nat} (h:By false k r=false):k<r:=by simpa [By] using h
theorem wA {st:SortSt} {a b:Array Keyed} {Q:Array Keyed->SortSt->Prop} (C:Ax prog w A s κ a₀ rk) (hk:kindOf st=κ) (ha:∀p∈a.toList,p∈a₀.toList) (hb:∀p∈b.toList,p∈a₀.toList)
 (ha1:1<=a.size) (hb1:1<=b.size) (sa:Seg rk a 0 a.size) (sb:Seg rk b 0 b.size) (h0:R rk b 0<=R rk a 0) (hl:R rk b (b.size - 1)<=R rk a (a.size - 1))
 (h:∀r st',wz st st'->Mg rk a b r->Q r st'):wpS (model prog w) A E s (qF a b) Q st:=by
 have T4:∀i,i<b.size -> ∃p,b[i]? = some p/\p∈a₀.toList/\R rk b i=rk p.1:=fun i hi=>⟨b[i],getElem?_pos b i hi,hb _ (by simp),fZ hi⟩;have Nh:∀i,i<a.size -> ∃p,a[i]? = some p/\p∈a₀.toList/\R rk a i=rk p.1:=fun i hi=>⟨a[i],getElem?_pos a i hi,ha _ (by simp),fZ hi⟩
 have mid:∀i j,i<b.size->j+1=a.size->R rk b i<=R rk a j:=fun i j hi hj=>by
  have:=sb i (b.size - 1) (by (clear hj hi hl h0 hb1 ha1 hk;lia)) (by (clear hj hl h0 hb1 ha1 hk;lia)) (by (clear hj hi hl h0 ha1 hk;lia));have e:a.size - 1=j:=by (clear this hi hl h0 hb1 ha1 hk;lia)
  rw [e] at hl
  (clear e hj hi h0 hb1 ha1 hk;lia)
 have m0:MI rk a b #[b[0]] 0 1:=by
  have m:MI rk a b #[] 0 0:=by
   refine ⟨by simp, ?_, ?_⟩
   ·show Gf rk ([]++a.toList.drop 0)
    rw [List.nil_append,List.drop_zero];refine List.pairwise_iff_getElem.mpr fun i j hi hj hij=> ?_;rw [Array.length_toList] at hi hj;have:=sa i j (by (clear hij hj hi hl h0 hb1 ha1 hk;lia)) (by (clear hj hi hl h0 hb1 ha1 hk;lia)) hj;rw [fZ hi,fZ hj] at this;simpa [Le] using this
   ·show Gf rk ([]++b.toList.drop 0)
    rw [List.nil_append,List.drop_zero];refine List.pairwise_iff_getElem.mpr fun i j hi hj hij=> ?_;rw [Array.length_toList] at hi hj;have:=sb i j (by (clear hij hj hi hl h0 hb1 ha1 hk;lia)) (by (clear hj hi hl h0 hb1 ha1 hk;lia)) hj;rw [fZ hi,fZ hj] at this;simpa [Le] using this
  exact m.qg (by (clear hl h0 ha1 hk;lia)) fun j _ j2=>Nat.le_trans h0 (sa 0 j (by (clear j2 hl h0 hb1 ha1 hk;lia)) (by (clear j2 hl h0 hb1 ha1 hk;lia)) j2)
 rw [xK];refine wpS_bind (wpS_lift (wpAny_rule ⟨rfl, ?_⟩));refine wpS_bind (bF (p:=b[0]) (getElem?_pos b 0 (by (clear hl h0 ha1 hk;lia))) ?_);dsimp only;refine aP (fun e=> ?_) (fun e=> ?_)
 ·have e:1=b.size:=by simpa using e
  exact wpS_pure (h _ _ (.refl _) (m0.done (.inr e)))
 have eb:¬1=b.size:=by simpa using e
 refine aP (fun e=> ?_) (fun e=> ?_)
 ·have e:1=a.size:=by simpa using e
  exact wpS_pure (h _ _ (.refl _) (m0.last fun i j _ hi _ hj=>mid i j hi (by (clear hi eb hl h0 ha1 hk;lia))))
 have ea:¬1=a.size:=by simpa using e
 refine wpS_bind (wpS_get ?_)
 refine wpS_bind (wpS_mono (wpS_forRange (I:=fun x c st'=>wz st st' /\ ∃out ia ib mg,c=(none,out,ia,ib,mg)/\MI rk a b out ia ib/\ia+2<=a.size/\ib+1<=b.size/\(a.size - ia)+(b.size - ib)+x<=a.size+b.size)
  (Q:=fun c st'=>wz st st' /\ ∃r cc,c=(some r,cc)/\Mg rk a b r) ?step ?fin ⟨.refl _,_,_,_,_,rfl,m0,by (clear e eb hl h0 hk;lia),by (clear ea e hl h0 ha1 hk;lia),by (clear ea e eb hl h0 ha1 hk;lia)⟩) ?post)
 case post=>
  rintro c st' ⟨kp,r,cc,rfl,m⟩;exact wpS_pure (h _ _ kp m)
 case fin=>
  rintro c st' ⟨kp,out,ia,ib,mg,rfl,m,a1,b1,le⟩
  (clear b1 ea e eb hl h0 ha1 hk;lia)
 case step=>
  rintro x c st' _ hx ⟨kp,out,ia,ib,mg,rfl,m,a1,b1,le⟩;dsimp only
  refine wpS_bind (wpS_mono (wpS_forRange (I:=fun y c st2=>st2=st' /\ ∃out ia ib ac bc,c=(none,out,ia,ib,ac,bc)/\MI rk a b out ia ib/\ia+2<=a.size/\ib+1<=b.size/\(a.size - ia)+(b.size - ib)+x+y<=a.size+b.size)
   (Q:=fun c st2=>st2=st'/\((∃r cc,c=(some r,cc)/\Mg rk a b r) \/ ∃out ia ib ac bc,c=(none,out,ia,ib,ac,bc)/\MI rk a b out ia ib/\ia+2<=a.size/\ib+1<=b.size/\(a.size - ia)+(b.size - ib)+x+1<=a.size+b.size)) ?step1 ?QS ⟨rfl,_,_,_,_,_,rfl,m,a1,b1,by (clear b1 a1 hx ea e eb hl h0 ha1 hk;lia)⟩) ?Hq)
  case QS=>
   rintro c st2 ⟨rfl,out,ia,ib,ac,bc,rfl,m,a1,b1,le⟩
   (clear b1 hx ea e eb hl h0 ha1 hk;lia)
  case step1=>
   rintro y c st2 _ hy ⟨rfl,out,ia,ib,ac,bc,rfl,m,a1,b1,le⟩;dsimp only;obtain ⟨p,ep,mp,rp⟩:=T4 ib (by (clear le a1 hy hx ea e eb hl h0 ha1 hk;lia));obtain ⟨q,eq,mq,rq⟩:=Nh ia (by (clear rp ep le b1 hy hx ea e eb hl h0 ha1 hk;lia));refine wpS_bind (bF ep (wpS_bind (bF eq (wpS_bind (pL C (kp.k.trans hk) mp mq ?_)))));dsimp only;have bL:p=b[ib]:=by rw [getElem?_pos b ib (by (clear rq eq rp ep le a1 hy hx ea e eb hl h0 ha1 hk;lia))] at ep;exact (Option.some.inj ep).symm
   have fJ:q=a[ia]:=by rw [getElem?_pos a ia (by (clear bL rq eq rp ep le b1 hy hx ea e eb hl h0 ha1 hk;lia))] at eq;exact (Option.some.inj eq).symm
   refine aP (fun lt=> ?_) (fun lt=> ?_)
   ·have lt:R rk b ib<R rk a ia:=by rw [rp,rq];simpa using lt
    have m2:MI rk a b (out.push p) ia (ib+1):=by
     rw [bL];exact m.qg (by (clear lt fJ bL rq eq rp ep le a1 hy hx ea e eb hl h0 ha1 hk;lia)) fun j j1 j2=>by have:=sa ia j (by (clear j2 j1 lt fJ bL rq eq rp ep le b1 a1 hy hx ea e eb hl h0 ha1 hk;lia)) j1 j2;(clear j2 j1 fJ bL rq eq rp ep le b1 a1 hy hx ea e eb hl h0 ha1 hk;lia)
    refine wpS_bind (bF ep ?_);refine aP (fun e=> ?_) (fun e=> ?_)
    ·exact wpS_pure ⟨rfl,.inl ⟨_,_,rfl,m2.done (.inr (by simpa using e))⟩⟩
    have e:¬ib+1=b.size:=by simpa using e
    refine aP (fun _=> ?_) (fun _=> ?_)
    ·exact wpS_pure ⟨rfl,.inr ⟨_,_,_,_,_,rfl,m2,a1,by (clear lt fJ bL rq eq rp ep le a1 hy hx ea eb hl h0 ha1 hk;lia),by (clear e lt fJ bL rq eq rp ep a1 hy hx ea eb hl h0 ha1 hk;lia)⟩⟩
    ·exact wpS_pure ⟨rfl,_,_,_,_,_,rfl,m2,a1,by (clear lt fJ bL rq eq rp ep le a1 hy hx ea eb hl h0 ha1 hk;lia),by (clear e lt fJ bL rq eq rp ep a1 hy hx ea eb hl h0 ha1 hk;lia)⟩
   ·have lt:R rk a ia<=R rk b ib:=by rw [rp,rq];simpa using lt
    have m2:MI rk a b (out.push q) (ia+1) ib:=by
     rw [fJ];exact m.qj (by (clear lt fJ bL rq eq rp ep le b1 hy hx ea e eb hl h0 ha1 hk;lia)) fun j j1 j2=>by have:=sb ib j (by (clear j2 j1 lt fJ bL rq eq rp ep le b1 a1 hy hx ea e eb hl h0 ha1 hk;lia)) j1 j2;(clear j2 j1 fJ bL rq eq rp ep le b1 a1 hy hx ea e eb hl h0 ha1 hk;lia)
    refine wpS_bind (bF eq ?_);refine aP (fun e=> ?_) (fun e=> ?_)
    ·have e:ia+1+1=a.size:=by simpa using e
     exact wpS_pure ⟨rfl,.inl ⟨_,_,rfl,m2.last fun i j _ hi _ hj=>mid i j hi (by (clear hi lt fJ bL rq eq rp ep le b1 a1 hy hx ea eb hl h0 ha1 hk;lia))⟩⟩
    have e:¬ia+1+1=a.size:=by simpa using e
    refine aP (fun _=> ?_) (fun _=> ?_)
    ·exact wpS_pure ⟨rfl,.inr ⟨_,_,_,_,_,rfl,m2,by (clear lt fJ bL rq eq rp ep le b1 hy hx ea eb hl h0 ha1 hk;lia),b1,by (clear e lt fJ bL rq eq rp ep b1 hy hx ea eb hl h0 ha1 hk;lia)⟩⟩
    ·exact wpS_pure ⟨rfl,_,_,_,_,_,rfl,m2,by (clear lt fJ bL rq eq rp ep le b1 hy hx ea eb hl h0 ha1 hk;lia),b1,by (clear e lt fJ bL rq eq rp ep b1 hy hx ea eb hl h0 ha1 hk;lia)⟩
  case Hq=>
   rintro c st2 ⟨rfl,(⟨r,cc,rfl,mr⟩|⟨out,ia,ib,ac,bc,rfl,m,a1,b1,le⟩)⟩
   ·exact wpS_pure ⟨kp,r,_,rfl,mr⟩
   dsimp only;refine wpS_bind (wpS_lift (wpAny_rule ⟨rfl, ?_⟩))
   refine wpS_bind (wpS_mono (wpS_forRange (I:=fun y c st3=>wz st st3 /\ ∃out ia ib mg ac bc,c=(none,out,ia,ib,mg,ac,bc)/\MI rk a b out ia ib/\ia+2<=a.size/\ib+1<=b.size/\(a.size - ia)+(b.size - ib)+x+1+y<=a.size+b.size)
    (Q:=fun c st3=>wz st st3/\((∃r cc,c=(some r,cc)/\Mg rk a b r) \/ ∃out ia ib mg ac bc,c=(none,out,ia,ib,mg,ac,bc)/\MI rk a b out ia ib/\ia+2<=a.size/\ib+1<=b.size/\(a.size - ia)+(b.size - ib)+x+1<=a.size+b.size)) ?GC ?fin2 ⟨kp,_,_,_,_,_,_,rfl,m,a1,b1,by (clear b1 a1 hx ea e eb hl h0 ha1 hk;lia)⟩) ?post2)
   case fin2=>
    rintro c st3 ⟨Iu,out,ia,ib,mg,ac,bc,rfl,m,a1,b1,le⟩
    (clear b1 a1 hx ea e eb hl h0 ha1 hk;lia)
   case post2=>
    rintro c st3 ⟨Iu,(⟨r,cc,rfl,mr⟩|⟨out,ia,ib,mg,ac,bc,rfl,m,a1,b1,le⟩)⟩
    ·exact wpS_pure ⟨Iu,r,_,rfl,mr⟩
    dsimp only;refine wpS_bind (kY fun jZ k4=>wpS_pure ⟨Iu.trans k4,_,_,_,_,rfl,m,a1,b1,by (clear b1 a1 hx ea e eb hl h0 ha1 hk;lia)⟩)
   case GC=>
    rintro y c st3 _ hy ⟨Iu,out,ia,ib,mg,ac,bc,rfl,m,a1,b1,le⟩;dsimp only;refine aP (fun _=> ?_) (fun _=> ?_)
    all_goals
     refine wpS_bind (kY fun jZ k4=> ?_);have vC:=Iu.trans k4;obtain ⟨p,ep,mp,rp⟩:=T4 ib (by (clear le a1 hy hx ea e eb hl h0 ha1 hk;lia));have bL:p=b[ib]:=by rw [getElem?_pos b ib (by (clear rp ep le a1 hy hx ea e eb hl h0 ha1 hk;lia))] at ep;exact (Option.some.inj ep).symm
     refine wpS_bind (bF ep (wpS_bind (gn C (vC.k.trans hk) mp ha (by (clear bL rp ep le b1 hy hx ea e eb hl h0 ha1 hk;lia)) (by (clear bL rp ep le b1 hy hx ea e eb hl h0 ha1 hk;lia)) (fun i j h1 h2 h3=>sa i j (by (clear h3 h2 h1 bL rp ep le b1 a1 hy hx ea e eb hl h0 ha1 hk;lia)) h2 (by (clear h2 h1 bL rp ep le b1 hy hx ea e eb hl h0 ha1 hk;lia))) fun k k1 k2 k3=> ?_)));dsimp only
     have mA:MI rk a b (out++a.extract ia (ia+k)) (ia+k) ib:=m.oE (k:=k) fun i hi hs j j1 j2=>by
      have e1:=MK (k2 i hi);have e2:=sb ib j (by (clear e1 j2 j1 hs hi k1 bL rp ep le b1 a1 hy hx ea e eb hl h0 ha1 hk;lia)) j1 j2;rw [rp] at e2
      (clear j2 j1 hs hi k1 bL rp ep le b1 a1 hy hx ea e eb hl h0 ha1 hk;lia)
     have nxt:∀j,ia+k<=j->j<a.size->R rk b ib<=R rk a j:=fun j j1 j2=>by
      have:=JZ (k3 (j - ia) (by (clear j2 k1 bL rp ep le b1 a1 hy hx ea e eb hl h0 ha1 hk;lia)) (by (clear j1 k1 bL rp ep le b1 hy hx ea e eb hl h0 ha1 hk;lia)));rw [show ia+(j - ia)=j by (clear this j2 k1 bL rp ep le b1 a1 hy hx ea e eb hl h0 ha1 hk;lia)] at this;rw [rp];(clear j2 j1 k1 bL rp ep le b1 a1 hy hx ea e eb hl h0 ha1 hk;lia)
     apply aP
     case' h1=>
      intro kpos;refine aP (fun e=> ?_) (fun e=> ?_)
      ·have e:ia+k+1=a.size:=by simpa using e
       exact wpS_pure ⟨vC,.inl ⟨_,_,rfl,mA.last fun i j _ hi _ hj=>mid i j hi (by (clear hi kpos k1 bL rp ep le b1 a1 hy hx ea eb hl h0 ha1 hk;lia))⟩⟩
      have e1:¬ia+k+1=a.size:=by simpa using e
      refine aP (fun e=> ?_) (fun e=> ?_)
      ·exact wpS_pure ⟨vC,.inl ⟨_,_,rfl,mA.done (.inl (by simpa using e))⟩⟩
      have e2:¬ia+k=a.size:=by simpa using e
      have a3:ia+k+2<=a.size:=by (clear e kpos bL rp ep le b1 hy hx ea eb hl h0 ha1 hk;lia)
      have fG:(a.size - (ia+k))+(b.size - ib)+x+1+y<=a.size+b.size:=by (clear a3 e2 e e1 kpos k1 bL rp ep b1 a1 hy hx ea eb hl h0 ha1 hk;lia)
      generalize out++a.extract ia (ia+k)=aeL at mA ⊢;generalize ia+k=ia3 at mA nxt a3 fG ⊢
     case' h2=>
      intro kpos;have k0:k=0:=by (clear k1 bL rp ep le b1 a1 hy hx ea e eb hl h0 ha1 hk;lia)
      have a3:ia+2<=a.size:=by (clear k0 kpos k1 bL rp ep le b1 hy hx ea e eb hl h0 ha1 hk;lia)
      have fG:(a.size - ia)+(b.size - ib)+x+1+y<=a.size+b.size:=by (clear a3 k0 kpos k1 bL rp ep b1 a1 hy hx ea e eb hl h0 ha1 hk;lia)
      subst k0
      replace nxt:∀j,ia<=j->j<a.size->R rk b ib<=R rk a j:=nxt
      replace mA:=m
     all_goals
      have mB:=mA.qg (by (clear kpos k1 fG a3 bL rp ep le a1 hy hx ea e eb hl h0 ha1 hk;lia)) nxt;rw [←bL] at mB;refine wpS_bind (bF ep ?_);refine aP (fun e=> ?_) (fun e=> ?_)
      ·exact wpS_pure ⟨vC,.inl ⟨_,_,rfl,mB.done (.inr (by simpa using e))⟩⟩
      have e3:¬ib+1=b.size:=by simpa using e
      obtain ⟨q,eq,mq,rq⟩:=Nh _ (show _<a.size from Nat.lt_of_lt_of_le (Nat.lt_succ_of_lt (Nat.lt_succ_self _)) a3);refine wpS_bind (bF eq (wpS_bind (gn C (vC.k.trans hk) mq hb (by (clear rq eq e3 e kpos k1 fG a3 bL rp ep le a1 hy hx ea eb hl h0 ha1 hk;lia)) (by (clear rq eq e kpos k1 fG a3 bL rp ep le a1 hy hx ea eb hl h0 ha1 hk;lia)) (fun i j h1 h2 h3=>sb i j (by (clear h3 h2 h1 rq eq e3 e kpos k1 fG a3 bL rp ep le b1 a1 hy hx ea eb hl h0 ha1 hk;lia)) h2 (by (clear h2 h1 rq eq e3 e kpos k1 fG a3 bL rp ep le a1 hy hx ea eb hl h0 ha1 hk;lia))) fun k' l1 l2 l3=> ?_)));dsimp only
      have mC:=mB.oA (k:=k') fun i hi hs j j1 j2=>by
       have e1:=Rp (l2 i hi);have e2:=sa _ j (by (clear e1 j2 j1 hs hi l1 rq eq e3 e kpos k1 fG a3 bL rp ep le b1 a1 hy hx ea eb hl h0 ha1 hk;lia)) j1 j2;rw [rq] at e2
       (clear j2 j1 hs hi l1 rq eq e3 e kpos k1 fG a3 bL rp ep le b1 a1 hy hx ea eb hl h0 ha1 hk;lia)
      apply aP
      case' h1=>
       intro kpos;refine aP (fun e=> ?_) (fun e=> ?_)
       ·exact wpS_pure ⟨vC,.inl ⟨_,_,rfl,mC.done (.inr (by simpa using e))⟩⟩
       have e5:¬ib+1+k'=b.size:=by simpa using e
       have nx:∀j,ib+1+k'<=j->j<b.size->rk q.1<=R rk b j:=fun j j1 j2=>by
        have:=yR (l3 (j - (ib+1)) (by (clear j2 e5 e kpos l1 rq eq e3 k1 fG a3 bL rp ep le b1 a1 hy hx ea eb hl h0 ha1 hk;lia)) (by (clear j1 e5 e kpos l1 rq eq k1 fG a3 bL rp ep le a1 hy hx ea eb hl h0 ha1 hk;lia)));rw [show ib+1+(j - (ib+1))=j by (clear this j2 e5 e kpos l1 rq eq e3 k1 fG a3 bL rp ep le b1 a1 hy hx ea eb hl h0 ha1 hk;lia)] at this
        (clear j2 j1 e5 e kpos l1 rq eq e3 k1 fG a3 bL rp ep le b1 a1 hy hx ea eb hl h0 ha1 hk;lia)
       have b3:ib+1+k'+1<=b.size:=by (clear e kpos rq eq e3 k1 fG a3 bL rp ep le a1 hy hx ea eb hl h0 ha1 hk;lia)
      case' h2=>
       intro kpos;have k0:k'=0:=by (clear l1 rq eq e3 e k1 fG a3 bL rp ep le b1 a1 hy hx ea eb hl h0 ha1 hk;lia)
       have nx:∀j,ib+1<=j->j<b.size->rk q.1<=R rk b j:=fun j j1 j2=>by
        have:=yR (l3 (j - (ib+1)) (by (clear j2 j1 k0 l1 rq eq e3 e k1 fG a3 bL rp ep le b1 a1 hy hx ea eb hl h0 ha1 hk;lia)) (by (clear j1 k0 kpos l1 rq eq e k1 fG a3 bL rp ep le a1 hy hx ea eb hl h0 ha1 hk;lia)));rw [show ib+1+(j - (ib+1))=j by (clear this j2 k0 kpos l1 rq eq e3 e k1 fG a3 bL rp ep le b1 a1 hy hx ea eb hl h0 ha1 hk;lia)] at this
        (clear j2 j1 k0 kpos l1 rq eq e3 e k1 fG a3 bL rp ep le b1 a1 hy hx ea eb hl h0 ha1 hk;lia)
       have b3:ib+1+1<=b.size:=by (clear k0 kpos l1 rq eq e k1 fG a3 bL rp ep le a1 hy hx ea eb hl h0 ha1 hk;lia)
       replace mC:=mB
      all_goals
       have mD:=mC.qj (by (clear b3 kpos l1 rq eq e3 e k1 fG bL rp ep le b1 hy hx ea eb hl h0 ha1 hk;lia)) (fun j j1 j2=>by rw [rq];exact nx j j1 j2);have fJ:=Option.some.inj ((getElem?_pos a _ (by (clear b3 kpos l1 rq eq e3 e k1 fG bL rp ep le b1 hy hx ea eb hl h0 ha1 hk;lia))).symm.trans eq);rw [fJ] at mD;refine wpS_bind (bF eq ?_);refine aP (fun e=> ?_) (fun e=> ?_)
       ·exact wpS_pure ⟨vC,.inl ⟨_,_,rfl,mD.last fun i j _ hi _ hj=>mid i j hi (by have e:=eq_of_beq e;(clear hi fJ b3 kpos l1 rq eq e3 k1 fG a3 bL rp ep le b1 a1 hy hx ea eb hl h0 ha1 hk;lia))⟩⟩
       have e6:¬_=a.size:=fun z=>e (beq_iff_eq.mpr z);refine aP (fun _=> ?_) (fun _=> ?_)
       ·exact wpS_pure ⟨vC,.inr ⟨_,_,_,_,_,_,rfl,mD,by (clear e fJ b3 kpos l1 rq eq e3 k1 fG bL rp ep le b1 hy hx ea eb hl h0 ha1 hk;lia),by (clear e6 e fJ b3 kpos rq eq k1 fG a3 bL rp ep le a1 hy hx ea eb hl h0 ha1 hk;lia),by (clear e6 e fJ b3 kpos l1 rq eq e3 k1 a3 bL rp ep b1 a1 hy hx ea eb hl h0 ha1 hk;lia)⟩⟩
       ·exact wpS_pure ⟨vC,_,_,_,_,_,_,rfl,mD,by (clear e fJ b3 kpos l1 rq eq e3 k1 fG bL rp ep le b1 hy hx ea eb hl h0 ha1 hk;lia),by (clear e6 e fJ b3 kpos rq eq k1 fG a3 bL rp ep le a1 hy hx ea eb hl h0 ha1 hk;lia),by (clear e6 e fJ b3 kpos l1 rq eq e3 k1 a3 bL rp ep hy hx ea eb hl h0 ha1 hk;lia)⟩
end
end Tim
set_option Elab.async false
set_option linter.all false
set_option maxRecDepth 100000
set_option maxHeartbeats 4000000
namespace Tim
open PySem PyProof.Rows
abbrev gQ (a b out:Array Keyed) (na nb:Nat):Array Keyed:=a.extract 0 na++b.extract 0 nb++out.reverse
abbrev lF (a b out:Array Keyed) (na nb:Nat):Array Keyed:=b.extract 0 nb++a.extract 0 na++out.reverse
theorem xM (a b:Array Keyed):qG a b=(do
 rule "list.sort.merge-hi"
 let total:=a.size+b.size
 let mut na:=a.size - 1
 let mut nb:=b.size
 let mut out:Array Keyed:= #[←elem' a na]
 if na==0 then return gQ a b out na nb
 if nb==1 then return lF a b out na nb
 let mut minGallop:=gallopOf (←get)
 for _ in [0:total] do
  let mut acount:=0
  let mut bcount:=0
  for _ in [0:total] do
   let some aWins ←lt' (←elem' b (nb - 1)) (←elem' a (na - 1))|return gQ a b out na nb
   if aWins then
    na:=na - 1;out:=out.push (←elem' a na);acount:=acount+1;bcount:=0
    if na==0 then return gQ a b out na nb
    if acount≥minGallop then break
   else
    nb:=nb - 1;out:=out.push (←elem' b nb);bcount:=bcount+1;acount:=0
    if nb==1 then return lF a b out na nb
    if bcount≥minGallop then break
  rule "list.sort.gallop"
  minGallop:=minGallop+1
  for _ in [0:total] do
   if minGallop>1 then minGallop:=minGallop - 1
   dD minGallop
   let some at_ ←iM false (←elem' b (nb - 1)) a 0 na (na - 1)|return gQ a b out na nb
   let k:=na - at_
   acount:=k
   if k>0 then
    out:=out++(a.extract at_ na).reverse;na:=at_
    if na==0 then return gQ a b out na nb
   nb:=nb - 1;out:=out.push (←elem' b nb)
   if nb==1 then return lF a b out na nb
   let some at_ ←iM true (←elem' a (na - 1)) b 0 nb (nb - 1)|return gQ a b out na nb
   let k:=nb - at_
   bcount:=k
   if k>0 then
    out:=out++(b.extract at_ nb).reverse;nb:=at_
    if nb==1 then return lF a b out na nb
    if nb==0 then return gQ a b out na nb
   na:=na - 1;out:=out.push (←elem' a na)
   if na==0 then return gQ a b out na nb
   if acount<7&&bcount<7 then break
  minGallop:=minGallop+1
  dD minGallop
 unsupported "internal:list.sort.merge-bound"):=rfl
section
variable {rk:Value->Nat} {a b out:Array Keyed} {na nb k:Nat}
structure MH (rk:Value->Nat) (a b out:Array Keyed) (na nb:Nat):Prop where
 perm:(a.toList.take na++(b.toList.take nb++out.toList.reverse)).Perm (a.toList++b.toList)
 sa:Gf rk (a.toList.take na++out.toList.reverse)
 sb:Gf rk (b.toList.take nb++out.toList.reverse)
theorem zj (l:List Keyed) {i j:Nat} (h:i<=j):l.take j=l.take i++(l.drop i).take (j - i):=by
 rw [List.take_drop,show i+(j - i)=j by lia];have:=(List.take_append_drop i (l.take j)).symm;rwa [List.take_take,Nat.min_eq_left h] at this
theorem Ei {a:Array Keyed} {x:Keyed} (h:x∈a.toList.take na):∃j,j<na/\j<a.size/\R rk a j=rk x.1:=by
 have h':x∈(a.toList.drop 0).take na:=by rw [List.drop_zero];exact h
 obtain ⟨j,j1,j2,j3⟩:=gG (rk:=rk) h';rw [Nat.zero_add] at j2 j3;exact ⟨j,j1,j2,j3⟩
theorem MH.oE (m:MH rk a b out na nb) {at_:Nat} (hat:at_<=na) (hle:∀i,at_<=i->i<na->i<a.size -> ∀j,j<nb->j<b.size->R rk b j<=R rk a i):MH rk a b (out++(a.extract at_ na).reverse) at_ nb:=by
 have e:(out++(a.extract at_ na).reverse).toList.reverse=(a.toList.drop at_).take (na - at_)++out.toList.reverse:=by
  rw [Array.toList_append,List.reverse_append,Array.toList_reverse,List.reverse_reverse,bY]
 have sp:=zj a.toList hat;refine ⟨?_, ?_, ?_⟩
 ·rw [e]
  refine List.Perm.trans ?_ m.perm;rw [sp,List.append_assoc];refine List.Perm.append_left _ ?_;rw [←List.append_assoc,←List.append_assoc];exact List.Perm.append_right _ List.perm_append_comm
 ·rw [e,←List.append_assoc,←sp]
  exact m.sa
 ·rw [e]
  have h1:=m.sa;rw [sp,List.append_assoc] at h1;have h2:=gF.mp (gF.mp h1).2.1;have h3:=gF.mp m.sb;refine gF.mpr ⟨h3.1,gF.mpr ⟨h2.1,h3.2.1,h2.2.2⟩,fun p hp q hq=> ?_⟩;rcases List.mem_append.mp hq with hq|hq
  ·obtain ⟨i,i1,i2,i3⟩:=Ei (rk:=rk) hp
   obtain ⟨j,j1,j2,j3⟩:=gG (rk:=rk) hq;rw [←i3,←j3];exact hle _ (by (clear j3 j2 j1 i3 i2 i1 h3 h2 sp e hat;lia)) (by (clear j3 j2 i3 i2 i1 h3 h2 sp e hat;lia)) j2 i i1 i2
  ·exact h3.2.2 p hp q hq
theorem MH.swap (m:MH rk a b out na nb):MH rk b a out nb na:=by
 refine ⟨?_,m.sb,m.sa⟩;refine List.Perm.trans ?_ (m.perm.trans List.perm_append_comm);rw [←List.append_assoc,←List.append_assoc];exact List.Perm.append_right _ List.perm_append_comm
theorem MH.oA (m:MH rk a b out na nb) {at_:Nat} (hat:at_<=nb) (hle:∀i,at_<=i->i<nb->i<b.size -> ∀j,j<na->j<a.size->R rk a j<=R rk b i):MH rk a b (out++(b.extract at_ nb).reverse) na at_:=(m.swap.oE hat hle).swap
theorem Hh (h1:1<=na) (h:na<=a.size):out.push (a[na - 1]'(by lia))=out++(a.extract (na - 1) na).reverse:=by
 have e:=wU (out:= #[]) (b:=a) (ib:=na - 1) (by lia);rw [show na - 1+1=na by (clear e h;lia)] at e
 have e2:a.extract (na - 1) na = #[a[na - 1]'(by (clear e;lia))]:=by
  apply Array.toList_inj.mp;have:=congrArg Array.toList e;rw [Array.toList_append] at this;simpa using this.symm
 rw [e2];apply Array.toList_inj.mp;simp
theorem MH.qj (m:MH rk a b out na nb) (h1:1<=na) (h:na<=a.size) (hle:∀j,j<nb->j<b.size->R rk b j<=R rk a (na - 1)):MH rk a b (out.push (a[na - 1]'(by lia))) (na - 1) nb:=by
 rw [Hh h1 h];refine m.oE (by (clear h h1;lia)) fun i i1 i2 i3 j j1 j2=> ?_;have:i=na - 1:=by (clear j2 j1 i3 h h1;lia)
 subst this;exact hle j j1 j2
theorem MH.qg (m:MH rk a b out na nb) (h1:1<=nb) (h:nb<=b.size) (hle:∀j,j<na->j<a.size->R rk a j<=R rk b (nb - 1)):MH rk a b (out.push (b[nb - 1]'(by lia))) na (nb - 1):=(m.swap.qj h1 h hle).swap
theorem pF:(gQ a b out na nb).toList=a.toList.take na++(b.toList.take nb++out.toList.reverse):=by
 unfold gQ;rw [Array.toList_append,Array.toList_append,bY,bY,Array.toList_reverse,List.append_assoc];rfl
theorem MH.done (m:MH rk a b out na nb) (h:na=0\/nb=0):Mg rk a b (gQ a b out na nb):=by
 refine ⟨by rw [pF];exact m.perm, ?_⟩;rw [pF];rcases h with h|h
 ·subst h
  exact m.sb
 ·subst h
  exact m.sa
theorem MH.first (m:MH rk a b out na nb) (h:∀i j,i<nb->i<b.size->j<na->j<a.size->R rk b i<=R rk a j):Mg rk a b (lF a b out na nb):=by
 have m2:=m.oE (at_:=0) (by lia) fun i _ i2 i3 j j1 j2=>h j i j1 j2 i2 i3
 have e:lF a b out na nb=gQ a b (out++(a.extract 0 na).reverse) 0 nb:=by
  apply Array.toList_inj.mp;rw [pF,pF,Array.toList_append,List.reverse_append,Array.toList_reverse,List.reverse_reverse,bY];simp
 rw [e];exact m2.done (.inl rfl)
end
section
variable {prog:Program} {w:World} {A:Around} {E:Value->Shared->Prop} {s:Shared} {κ:SortKind} {a₀:Array Keyed} {rk:Value->Nat}
theorem wB {st:SortSt} {a b:Array Keyed} {Q:Array Keyed->SortSt->Prop} (C:Ax prog w A s κ a₀ rk) (hk:kindOf st=κ) (ha:∀p∈a.toList,p∈a₀.toList) (hb:∀p∈b.toList,p∈a₀.toList)
 (ha1:1<=a.size) (hb1:1<=b.size) (sa:Seg rk a 0 a.size) (sb:Seg rk b 0 b.size) (h0:R rk b 0<=R rk a 0) (hl:R rk b (b.size - 1)<=R rk a (a.size - 1))
 (h:∀r st',wz st st'->Mg rk a b r->Q r st'):wpS (model prog w) A E s (qG a b) Q st:=by
 have T4:∀i,i<b.size -> ∃p,b[i]? = some p/\p∈a₀.toList/\R rk b i=rk p.1:=fun i hi=>⟨b[i],getElem?_pos b i hi,hb _ (by simp),fZ hi⟩;have Nh:∀i,i<a.size -> ∃p,a[i]? = some p/\p∈a₀.toList/\R rk a i=rk p.1:=fun i hi=>⟨a[i],getElem?_pos a i hi,ha _ (by simp),fZ hi⟩
 have mid:∀i j nb,i<nb->nb=1->j<a.size->R rk b i<=R rk a j:=fun i j nb hi hn hj=>by
  have:=sa 0 j (by (clear hj hn hi hl h0 hb1 ha1 hk;lia)) (by (clear hj hn hi hl h0 hb1 ha1 hk;lia)) hj;have e:i=0:=by (clear this hj hl h0 hb1 ha1 hk;lia)
  subst e
  (clear hi hj hn hl hb1 ha1 hk;lia)
 have m0:MH rk a b #[a[a.size - 1]] (a.size - 1) b.size:=by
  have m:MH rk a b #[] a.size b.size:=by
   refine ⟨?_, ?_, ?_⟩
   ·rw [←Array.length_toList,←Array.length_toList,List.take_length,List.take_length];simp
   ·rw [←Array.length_toList,List.take_length]
    show Gf rk (a.toList++[]);rw [List.append_nil];refine List.pairwise_iff_getElem.mpr fun i j hi hj hij=> ?_;rw [Array.length_toList] at hi hj;have:=sa i j (by (clear hij hj hi hl h0 hb1 ha1 hk;lia)) (by (clear hj hi hl h0 hb1 ha1 hk;lia)) hj;rw [fZ hi,fZ hj] at this;simpa [Le] using this
   ·rw [←Array.length_toList,List.take_length]
    show Gf rk (b.toList++[]);rw [List.append_nil];refine List.pairwise_iff_getElem.mpr fun i j hi hj hij=> ?_;rw [Array.length_toList] at hi hj;have:=sb i j (by (clear hij hj hi hl h0 hb1 ha1 hk;lia)) (by (clear hj hi hl h0 hb1 ha1 hk;lia)) hj;rw [fZ hi,fZ hj] at this;simpa [Le] using this
  exact m.qj ha1 (Nat.le_refl _) fun j j1 j2=>Nat.le_trans (sb j (b.size - 1) (by (clear j2 j1 hl h0 hb1 ha1 hk;lia)) (by (clear j2 hl h0 hb1 ha1 hk;lia)) (by (clear j2 j1 hl h0 ha1 hk;lia))) hl
 rw [xM];refine wpS_bind (wpS_lift (wpAny_rule ⟨rfl, ?_⟩));refine wpS_bind (bF (p:=a[a.size - 1]) (getElem?_pos a _ (by (clear hl h0 hb1 hk;lia))) ?_);dsimp only;refine aP (fun e=> ?_) (fun e=> ?_)
 ·exact wpS_pure (h _ _ (.refl _) (m0.done (.inl (by simpa using e))))
 have ea:¬a.size - 1=0:=fun z=>e (beq_iff_eq.mpr z);refine aP (fun e=> ?_) (fun e=> ?_)
 ·exact wpS_pure (h _ _ (.refl _) (m0.first fun i j i1 i2 j1 j2=>mid i j _ i1 (by simpa using e) j2))
 have eb:¬b.size=1:=by simpa using e
 refine wpS_bind (wpS_get ?_)
 refine wpS_bind (wpS_mono (wpS_forRange (I:=fun x c st'=>wz st st' /\ ∃na nb out mg,c=(none,na,nb,out,mg)/\MH rk a b out na nb/\1<=na/\2<=nb/\na<=a.size/\nb<=b.size/\na+nb+x<=a.size+b.size)
  (Q:=fun c st'=>wz st st' /\ ∃r cc,c=(some r,cc)/\Mg rk a b r) ?step ?fin ⟨.refl _,_,_,_,_,rfl,m0,by (clear eb e hl h0 hb1 hk;lia),by (clear e ea hl h0 hk;lia),by (clear eb e ea hl h0 hb1 hk;lia),by (clear eb e ea hl h0 hb1 hk;lia),by (clear eb e ea hl h0 hb1 hk;lia)⟩) ?post)
 case post=>
  rintro c st' ⟨kp,r,cc,rfl,m⟩;exact wpS_pure (h _ _ kp m)
 case fin=>
  rintro c st' ⟨kp,na,nb,out,mg,rfl,m,a1,b1,a2,b2,le⟩
  (clear b2 a2 b1 eb e ea hl h0 hb1 hk;lia)
 case step=>
  rintro x c st' _ hx ⟨kp,na,nb,out,mg,rfl,m,a1,b1,a2,b2,le⟩;dsimp only
  refine wpS_bind (wpS_mono (wpS_forRange (I:=fun y c st2=>st2=st' /\ ∃na nb out ac bc,c=(none,na,nb,out,ac,bc)/\MH rk a b out na nb/\1<=na/\2<=nb/\na<=a.size/\nb<=b.size/\na+nb+x+y<=a.size+b.size)
   (Q:=fun c st2=>st2=st'/\((∃r cc,c=(some r,cc)/\Mg rk a b r) \/ ∃na nb out ac bc,c=(none,na,nb,out,ac,bc)/\MH rk a b out na nb/\1<=na/\2<=nb/\na<=a.size/\nb<=b.size/\na+nb+x+1<=a.size+b.size)) ?step1 ?QS ⟨rfl,_,_,_,_,_,rfl,m,a1,b1,a2,b2,by (clear b2 a2 b1 a1 hx eb e ea hl h0 hb1 hk;lia)⟩) ?Hq)
  case QS=>
   rintro c st2 ⟨rfl,na,nb,out,ac,bc,rfl,m,a1,b1,a2,b2,le⟩
   (clear b2 a2 b1 hx eb e ea hl h0 hb1 hk;lia)
  case step1=>
   rintro y c st2 _ hy ⟨rfl,na,nb,out,ac,bc,rfl,m,a1,b1,a2,b2,le⟩;dsimp only;obtain ⟨p,ep,mp,rp⟩:=T4 (nb - 1) (by (clear le a2 b1 a1 hy hx eb e ea hl h0 hb1 hk;lia));obtain ⟨q,eq,mq,rq⟩:=Nh (na - 1) (by (clear rp ep le b2 b1 a1 hy hx eb e ea hl h0 hb1 hk;lia));refine wpS_bind (bF ep (wpS_bind (bF eq (wpS_bind (pL C (kp.k.trans hk) mp mq ?_)))));dsimp only;have bL:b[nb - 1]=p:=Option.some.inj ((getElem?_pos b _ (by (clear rq eq rp ep le a2 b1 a1 hy hx eb e ea hl h0 hb1 hk;lia))).symm.trans ep);have fJ:a[na - 1]=q:=Option.some.inj ((getElem?_pos a _ (by (clear bL rq eq rp ep le b2 b1 a1 hy hx eb e ea hl h0 hb1 hk;lia))).symm.trans eq);refine aP (fun lt=> ?_) (fun lt=> ?_)
   ·have lt:R rk b (nb - 1)<R rk a (na - 1):=by rw [rp,rq];simpa using lt
    have m2:=m.qj a1 a2 fun j j1 j2=>by have:=sb j (nb - 1) (by (clear j2 j1 lt fJ bL rq eq rp ep le b2 a2 b1 a1 hy hx eb e ea hl h0 hb1 hk;lia)) (by (clear j2 lt fJ bL rq eq rp ep le b2 a2 b1 a1 hy hx eb e ea hl h0 hb1 hk;lia)) (by (clear j2 j1 lt fJ bL rq eq rp ep le a2 b1 a1 hy hx eb e ea hl h0 hb1 hk;lia));(clear j2 j1 fJ bL rq eq rp ep le b2 a2 b1 a1 hy hx eb e ea hl h0 hb1 hk;lia)
    rw [fJ] at m2;refine wpS_bind (bF eq ?_);refine aP (fun e=> ?_) (fun e=> ?_)
    ·exact wpS_pure ⟨rfl,.inl ⟨_,_,rfl,m2.done (.inl (by simpa using e))⟩⟩
    have e:¬na - 1=0:=fun z=>e (beq_iff_eq.mpr z);refine aP (fun _=> ?_) (fun _=> ?_)
    ·exact wpS_pure ⟨rfl,.inr ⟨_,_,_,_,_,rfl,m2,by (clear lt fJ bL rq eq rp ep le b2 a2 b1 a1 hy hx eb ea hl h0 hb1 hk;lia),b1,by (clear e lt fJ bL rq eq rp ep le b2 b1 a1 hy hx eb ea hl h0 hb1 hk;lia),b2,by (clear e lt fJ bL rq eq rp ep b2 a2 b1 hy hx eb ea hl h0 hb1 hk;lia)⟩⟩
    ·exact wpS_pure ⟨rfl,_,_,_,_,_,rfl,m2,by (clear lt fJ bL rq eq rp ep le b2 a2 b1 a1 hy hx eb ea hl h0 hb1 hk;lia),b1,by (clear e lt fJ bL rq eq rp ep le b2 b1 a1 hy hx eb ea hl h0 hb1 hk;lia),b2,by (clear e lt fJ bL rq eq rp ep b2 a2 b1 hy hx eb ea hl h0 hb1 hk;lia)⟩
   ·have lt:R rk a (na - 1)<=R rk b (nb - 1):=by rw [rp,rq];simpa using lt
    have m2:=m.qg (by (clear lt fJ bL rq eq rp ep le b2 a2 a1 hy hx eb e ea hl h0 hb1 hk;lia)) b2 fun j j1 j2=>by have:=sa j (na - 1) (by (clear j2 j1 lt fJ bL rq eq rp ep le b2 a2 b1 a1 hy hx eb e ea hl h0 hb1 hk;lia)) (by (clear j2 lt fJ bL rq eq rp ep le b2 a2 b1 a1 hy hx eb e ea hl h0 hb1 hk;lia)) (by (clear j2 j1 lt fJ bL rq eq rp ep le b2 b1 a1 hy hx eb e ea hl h0 hb1 hk;lia));(clear j2 j1 fJ bL rq eq rp ep le b2 a2 b1 a1 hy hx eb e ea hl h0 hb1 hk;lia)
    rw [bL] at m2;refine wpS_bind (bF ep ?_);refine aP (fun e=> ?_) (fun e=> ?_)
    ·exact wpS_pure ⟨rfl,.inl ⟨_,_,rfl,m2.first fun i j i1 i2 j1 j2=>mid i j _ i1 (eq_of_beq e) j2⟩⟩
    have e:¬nb - 1=1:=fun z=>e (beq_iff_eq.mpr z);refine aP (fun _=> ?_) (fun _=> ?_)
    ·exact wpS_pure ⟨rfl,.inr ⟨_,_,_,_,_,rfl,m2,a1,by (clear lt fJ bL rq eq rp ep le b2 a2 a1 hy hx eb ea hl h0 hb1 hk;lia),a2,by (clear e lt fJ bL rq eq rp ep le a2 b1 a1 hy hx eb ea hl h0 hb1 hk;lia),by (clear e lt fJ bL rq eq rp ep b2 a2 a1 hy hx eb ea hl h0 hb1 hk;lia)⟩⟩
    ·exact wpS_pure ⟨rfl,_,_,_,_,_,rfl,m2,a1,by (clear lt fJ bL rq eq rp ep le b2 a2 a1 hy hx eb ea hl h0 hb1 hk;lia),a2,by (clear e lt fJ bL rq eq rp ep le a2 b1 a1 hy hx eb ea hl h0 hb1 hk;lia),by (clear e lt fJ bL rq eq rp ep b2 a2 a1 hy hx eb ea hl h0 hb1 hk;lia)⟩
  case Hq=>
   rintro c st2 ⟨rfl,(⟨r,cc,rfl,mr⟩|⟨na,nb,out,ac,bc,rfl,m,a1,b1,a2,b2,le⟩)⟩
   ·exact wpS_pure ⟨kp,r,_,rfl,mr⟩
   dsimp only;refine wpS_bind (wpS_lift (wpAny_rule ⟨rfl, ?_⟩))
   refine wpS_bind (wpS_mono (wpS_forRange (I:=fun y c st3=>wz st st3 /\ ∃na nb out mg ac bc,c=(none,na,nb,out,mg,ac,bc)/\MH rk a b out na nb/\1<=na/\2<=nb/\na<=a.size/\nb<=b.size/\na+nb+x+1+y<=a.size+b.size)
    (Q:=fun c st3=>wz st st3/\((∃r cc,c=(some r,cc)/\Mg rk a b r) \/ ∃na nb out mg ac bc,c=(none,na,nb,out,mg,ac,bc)/\MH rk a b out na nb/\1<=na/\2<=nb/\na<=a.size/\nb<=b.size/\na+nb+x+1<=a.size+b.size)) ?GC ?fin2 ⟨kp,_,_,_,_,_,_,rfl,m,a1,b1,a2,b2,by (clear b2 a2 b1 a1 hx eb e ea hl h0 hb1 hk;lia)⟩) ?post2)
   case fin2=>
    rintro c st3 ⟨Iu,na,nb,out,mg,ac,bc,rfl,m,a1,b1,a2,b2,le⟩
    (clear b2 a2 b1 a1 hx eb e ea hl h0 hb1 hk;lia)
   case post2=>
    rintro c st3 ⟨Iu,(⟨r,cc,rfl,mr⟩|⟨na,nb,out,mg,ac,bc,rfl,m,a1,b1,a2,b2,le⟩)⟩
    ·exact wpS_pure ⟨Iu,r,_,rfl,mr⟩
    dsimp only;refine wpS_bind (kY fun jZ k4=>wpS_pure ⟨Iu.trans k4,_,_,_,_,rfl,m,a1,b1,a2,b2,by (clear b2 a2 b1 a1 hx eb e ea hl h0 hb1 hk;lia)⟩)
   case GC=>
    rintro y c st3 _ hy ⟨Iu,na,nb,out,mg,ac,bc,rfl,m,a1,b1,a2,b2,le⟩;dsimp only;refine aP (fun _=> ?_) (fun _=> ?_)
    all_goals
     refine wpS_bind (kY fun jZ k4=> ?_);have vC:=Iu.trans k4;obtain ⟨p,ep,mp,rp⟩:=T4 (nb - 1) (by (clear le a2 b1 a1 hy hx eb e ea hl h0 hb1 hk;lia));have bL:b[nb - 1]=p:=Option.some.inj ((getElem?_pos b _ (by (clear rp ep le a2 b1 a1 hy hx eb e ea hl h0 hb1 hk;lia))).symm.trans ep);refine wpS_bind (bF ep (wpS_bind (gn C (vC.k.trans hk) mp ha (by (clear bL rp ep le b2 b1 a1 hy hx eb e ea hl h0 hb1 hk;lia)) (by (clear bL rp ep le b2 a2 b1 hy hx eb e ea hl h0 hb1 hk;lia)) (fun i j h1 h2 h3=>sa i j (by (clear h3 h2 h1 bL rp ep le b2 a2 b1 a1 hy hx eb e ea hl h0 hb1 hk;lia)) h2 (by (clear h2 h1 bL rp ep le b2 b1 a1 hy hx eb e ea hl h0 hb1 hk;lia))) fun k k1 k2 k3=> ?_)));dsimp only;simp only [Nat.zero_add] at k2 k3
     have mA:=m.oE k1 fun i i1 i2 i3 j j1 j2=>by
      have e1:=JZ (k3 i i1 i2);have e2:=sb j (nb - 1) (by (clear e1 j2 j1 i3 i2 i1 k1 bL rp ep le b2 a2 b1 a1 hy hx eb e ea hl h0 hb1 hk;lia)) (by (clear e1 j2 i3 i2 i1 k1 bL rp ep le b2 a2 b1 a1 hy hx eb e ea hl h0 hb1 hk;lia)) (by (clear e1 j2 j1 i3 i2 i1 k1 bL rp ep le a2 b1 a1 hy hx eb e ea hl h0 hb1 hk;lia))
      (clear j2 j1 i3 i2 i1 k1 bL ep le b2 a2 b1 a1 hy hx eb e ea hl h0 hb1 hk;lia)
     have nxt:∀j,j<k->j<a.size->R rk a j<=R rk b (nb - 1):=fun j j1 j2=>by
      have:=MK (k2 j j1)
      (clear j2 j1 k1 bL ep le b2 a2 b1 a1 hy hx eb e ea hl h0 hb1 hk;lia)
     apply aP
     case' h1=>
      intro kpos;refine aP (fun e=> ?_) (fun e=> ?_)
      ·exact wpS_pure ⟨vC,.inl ⟨_,_,rfl,mA.done (.inl (by simpa using e))⟩⟩
      have e1:¬k=0:=fun z=>e (beq_iff_eq.mpr z);have a3:1<=k:=by (clear e kpos k1 bL rp ep le b2 a2 b1 a1 hy hx eb ea hl h0 hb1 hk;lia)
      have a4:k<=a.size:=by (clear a3 e1 e kpos bL rp ep le b2 b1 a1 hy hx eb ea hl h0 hb1 hk;lia)
      have fG:k+nb+x+1+y<=a.size+b.size:=by (clear a4 a3 e1 e kpos bL rp ep b2 a2 b1 a1 hy hx eb ea hl h0 hb1 hk;lia)
     case' h2=>
      intro kpos;have k0:k=na:=by (clear bL rp ep le b2 a2 b1 a1 hy hx eb e ea hl h0 hb1 hk;lia)
      have a3:1<=na:=a1;have a4:na<=a.size:=a2;have fG:na+nb+x+1+y<=a.size+b.size:=by (clear a4 a3 k0 kpos k1 bL rp ep b2 a2 b1 a1 hy hx eb e ea hl h0 hb1 hk;lia)
      rw [k0] at nxt
      replace mA:=m
     all_goals
      have mB:=mA.qg (by (clear fG a4 a3 kpos k1 bL rp ep le b2 a2 a1 hy hx eb e ea hl h0 hb1 hk;lia)) b2 nxt;rw [bL] at mB;refine wpS_bind (bF ep ?_);refine aP (fun e=> ?_) (fun e=> ?_)
      ·exact wpS_pure ⟨vC,.inl ⟨_,_,rfl,mB.first fun i j i1 i2 j1 j2=>mid i j _ i1 (eq_of_beq e) j2⟩⟩
      have e3:¬nb - 1=1:=fun z=>e (beq_iff_eq.mpr z);obtain ⟨q,eq,mq,rq⟩:=Nh _ (Nat.lt_of_lt_of_le (Nat.sub_lt a3 Nat.one_pos) a4);refine wpS_bind (bF eq (wpS_bind (gn C (vC.k.trans hk) mq hb (by (clear rq eq e3 e fG a4 a3 kpos k1 bL rp ep le a2 b1 a1 hy hx eb ea hl h0 hb1 hk;lia)) (by (clear rq eq e3 e fG a4 a3 kpos k1 bL rp ep le b2 a2 a1 hy hx eb ea hl h0 hb1 hk;lia)) (fun i j h1 h2 h3=>sb i j (by (clear h3 h2 h1 rq eq e3 e fG a4 a3 kpos k1 bL rp ep le b2 a2 b1 a1 hy hx eb ea hl h0 hb1 hk;lia)) h2 (by (clear h2 h1 rq eq e3 e fG a4 a3 kpos k1 bL rp ep le a2 b1 a1 hy hx eb ea hl h0 hb1 hk;lia))) fun k' l1 l2 l3=> ?_)));dsimp only;simp only [Nat.zero_add] at l2 l3
      have mC:=mB.oA l1 fun i i1 i2 i3 j j1 j2=>by
       have e1:=yR (l3 i i1 i2);have e2:=sa j _ (by (clear e1 j2 j1 i3 i2 i1 l1 rq eq e3 e fG a4 a3 kpos k1 bL rp ep le b2 a2 b1 a1 hy hx eb ea hl h0 hb1 hk;lia)) (Nat.le_sub_one_of_lt j1) (by (clear e1 j2 j1 i3 i2 i1 l1 rq eq e3 e fG a4 a3 kpos bL rp ep le b2 b1 a1 hy hx eb ea hl h0 hb1 hk;lia))
       (clear j2 j1 i3 i2 i1 l1 eq e3 e fG a4 a3 kpos k1 bL rp ep le b2 a2 b1 a1 hy hx eb ea hl h0 hb1 hk;lia)
      have nx:∀j,j<k'->j<b.size->R rk b j<=rk q.1:=fun j j1 j2=>by
       have:=Rp (l2 j j1)
       (clear j2 j1 l1 rq eq e3 e fG a4 a3 kpos k1 bL rp ep le b2 a2 b1 a1 hy hx eb ea hl h0 hb1 hk;lia)
      apply aP
      case' h1=>
       intro kpos;refine aP (fun e=> ?_) (fun e=> ?_)
       ·exact wpS_pure ⟨vC,.inl ⟨_,_,rfl,mC.first fun i j i1 i2 j1 j2=>mid i j _ i1 (eq_of_beq e) j2⟩⟩
       have e4:¬k'=1:=fun z=>e (beq_iff_eq.mpr z);refine aP (fun e=> ?_) (fun e=> ?_)
       ·exact wpS_pure ⟨vC,.inl ⟨_,_,rfl,mC.done (.inr (by simpa using e))⟩⟩
       have e5:¬k'=0:=fun z=>e (beq_iff_eq.mpr z);have b3:2<=k':=by (clear e kpos l1 rq eq e3 fG a4 a3 k1 bL rp ep le b2 a2 b1 a1 hy hx eb ea hl h0 hb1 hk;lia)
      case' h2=>
       intro kpos;have k0:k'=nb - 1:=by (clear rq eq e3 e fG a4 a3 k1 bL rp ep le b2 a2 b1 a1 hy hx eb ea hl h0 hb1 hk;lia)
       rw [k0] at nx;have b3:2<=nb - 1:=by (clear k0 kpos l1 rq eq e fG a4 a3 k1 bL rp ep le b2 a2 a1 hy hx eb ea hl h0 hb1 hk;lia)
       replace mC:=mB
      all_goals
       have mD:=mC.qj a3 a4 (fun j j1 j2=>by rw [rq];exact nx j j1 j2);have fJ:=Option.some.inj ((getElem?_pos a _ (by (clear b3 kpos l1 rq eq e3 e fG k1 bL rp ep le b2 a2 b1 a1 hy hx eb ea hl h0 hb1 hk;lia))).symm.trans eq);rw [fJ] at mD;refine wpS_bind (bF eq ?_);refine aP (fun e=> ?_) (fun e=> ?_)
       ·exact wpS_pure ⟨vC,.inl ⟨_,_,rfl,mD.done (.inl (eq_of_beq e))⟩⟩
       have e6:¬_=0:=fun z=>e (beq_iff_eq.mpr z);refine aP (fun _=> ?_) (fun _=> ?_)
       ·exact wpS_pure ⟨vC,.inr ⟨_,_,_,_,_,_,rfl,mD,by (clear e fJ b3 kpos l1 rq eq e3 fG a4 a3 k1 bL rp ep le b2 a2 b1 a1 hy hx eb ea hl h0 hb1 hk;lia),by (clear e6 e fJ b3 kpos l1 rq eq fG a4 a3 k1 bL rp ep le b2 a2 a1 hy hx eb ea hl h0 hb1 hk;lia),by (clear e6 e fJ b3 kpos l1 rq eq e3 fG a4 a3 k1 bL rp ep le b2 b1 a1 hy hx eb ea hl h0 hb1 hk;lia),by (clear e6 e fJ b3 kpos rq eq e3 fG a4 a3 k1 bL rp ep le a2 b1 a1 hy hx eb ea hl h0 hb1 hk;lia),by (clear e6 e fJ b3 kpos rq eq e3 fG a4 a3 k1 bL rp ep b2 a2 b1 a1 hy hx eb ea hl h0 hb1 hk;lia)⟩⟩
       ·exact wpS_pure ⟨vC,_,_,_,_,_,_,rfl,mD,by (clear e fJ b3 kpos l1 rq eq e3 fG a4 a3 k1 bL rp ep le b2 a2 b1 a1 hy hx eb ea hl h0 hb1 hk;lia),by (clear e6 e fJ b3 kpos l1 rq eq fG a4 a3 k1 bL rp ep le b2 a2 a1 hy hx eb ea hl h0 hb1 hk;lia),by (clear e6 e fJ b3 kpos l1 rq eq e3 fG a4 a3 k1 bL rp ep le b2 b1 a1 hy hx eb ea hl h0 hb1 hk;lia),by (clear e6 e fJ b3 kpos rq eq e3 fG a4 a3 k1 bL rp ep le a2 b1 a1 hy hx eb ea hl h0 hb1 hk;lia),by (clear e6 e fJ b3 kpos rq eq e3 fG a4 a3 k1 bL rp ep b2 a2 b1 hy hx eb ea hl h0 hb1 hk;lia)⟩
end
end Tim
set_option Elab.async false
set_option linter.all false
set_option maxRecDepth 100000
set_option maxHeartbeats 4000000
namespace Tim
open PySem PyProof.Rows
section
variable {prog:Program} {w:World} {A:Around} {E:Value->Shared->Prop} {s:Shared} {κ:SortKind} {a₀:Array Keyed} {rk:Value->Nat} {pd:Array (Nat×Nat×Nat)}
structure SB (κ:SortKind) (a₀:Array Keyed) (pd:Array (Nat×Nat×Nat)) (st:SortSt):Prop where
 perm:(arrOf st).Perm a₀
 kind:kindOf st=κ
 failed:failedOf st=none
 pend:pendingOf st=pd
theorem SB.size {st:SortSt} (h:SB κ a₀ pd st):(arrOf st).size=a₀.size:=h.perm.size_eq
theorem SB.setArr {st:SortSt} (h:SB κ a₀ pd st) {xs:Array Keyed} (hp:xs.Perm (arrOf st)):SB κ a₀ pd (setArr st xs):=⟨hp.trans h.perm,h.kind,h.failed,h.pend⟩
theorem SB.mem {st:SortSt} (h:SB κ a₀ pd st) {p:Keyed} (hp:p∈(arrOf st).toList):p∈a₀.toList:=(Array.perm_iff_toList_perm.mp h.perm).mem_iff.mp hp
theorem iu {st:SortSt} {i j:Nat} {Q:Option Bool->SortSt->Prop} (C:Ax prog w A s κ a₀ rk) (hB:SB κ a₀ pd st) (hi:i<a₀.size) (hj:j<a₀.size) (h:Q (some (decide (R rk (arrOf st) i<R rk (arrOf st) j))) st):
 wpS (model prog w) A E s (ltAt' i j) Q st:=by
 rw [ltAt'_eq];refine wpS_bind (wpS_get ?_);have hi':i<(arrOf st).size:=by rw [hB.size];exact hi
 have hj':j<(arrOf st).size:=by rw [hB.size];exact hj
 rw [fZ hi',fZ hj'] at h;exact wpS_bind (bF (getElem?_pos (arrOf st) i hi') (wpS_bind (bF (getElem?_pos (arrOf st) j hj') (pL C hB.kind (hB.mem (by simp)) (hB.mem (by simp)) h))))
def Kb (lo:Nat) (st st':SortSt):Prop:=∀i,i<lo->(arrOf st')[i]? = (arrOf st)[i]?
theorem Kb.refl {lo:Nat} {st:SortSt}:Kb lo st st:=fun _ _=>rfl
theorem Kb.trans {lo:Nat} {a b c:SortSt} (h:Kb lo a b) (g:Kb lo b c):Kb lo a c:=fun i hi=>(g i hi).trans (h i hi)
theorem rM {xs:Array Keyed} {i j:Nat} (hj:j<=xs.size) (k:Nat):R rk (mirror xs i j ((j - i) / 2)) k=if i<=k/\k<j then R rk xs (i+j - 1 - k) else R rk xs k:=by
 have e:=getElem?_mirror_all (i:=i) hj k
 by_cases h1:i<=k/\k<j
 ·rw [if_pos h1] at e ⊢;exact eN e
 ·rw [if_neg h1] at e ⊢;exact eN e
theorem lE {st:SortSt} {lo i j:Nat} (hj:j<=(arrOf st).size) (hi:lo<=i):Kb lo st (setArr st (mirror (arrOf st) i j ((j - i) / 2))):=fun k hk=>by
 show (mirror (arrOf st) i j ((j - i) / 2))[k]? = _;rw [getElem?_mirror_all hj,if_neg (by (clear hj;lia))]
theorem gJ {xs:Array Keyed} {i j:Nat} (hj:j<=xs.size) (heq:∀k,i<=k->k<j->R rk xs k=R rk xs (j - 1)) (k:Nat):R rk (mirror xs i j ((j - i) / 2)) k=R rk xs k:=by
 rw [rM hj];split
 ·rw [heq _ (by (clear hj;lia)) (by (clear hj;lia)),heq k (by (clear hj;lia)) (by (clear hj;lia))]
 ·rfl
theorem yN {xs:Array Keyed} {src d:Nat} (hs:src<xs.size) (hd:d<=src) (k:Nat):
 R rk (bubble xs src d) k=if k=src - d then R rk xs src else if src - d<k/\k<=src then R rk xs (k - 1) else R rk xs k:=by
 have e:=getElem?_bubble hs d hd k
 by_cases h1:k=src - d
 ·rw [if_pos h1] at e ⊢;exact eN e
 ·rw [if_neg h1] at e ⊢
  by_cases h2:src - d<k/\k<=src
  ·rw [if_pos h2] at e ⊢;exact eN e
  ·rw [if_neg h2] at e ⊢;exact eN e
def RB (rk:Value->Nat) (xs:Array Keyed) (lo hi:Nat):Prop:=∀i j,lo<=i->i<=j->j<hi->R rk xs j<=R rk xs i
theorem wpS_countRun {st:SortSt} {lo nrem:Nat} {Q:Option Nat->SortSt->Prop} (C:Ax prog w A s κ a₀ rk) (hn:lo+nrem<=a₀.size) (h1:1<=nrem) (hB:SB κ a₀ pd st)
 (h:∀m st',SB κ a₀ pd st'->Kb lo st st'->1<=m->m<=nrem->Seg rk (arrOf st') lo (lo+m)->Q (some m) st'):wpS (model prog w) A E s (countRun' lo nrem) Q st:=by
 rw [countRun'_eq]
 refine wpS_bind (wpS_mono (wpS_forRange (I:=fun x c st'=>st'=st/\c=(none,x)/\Seg rk (arrOf st) lo (lo+x))
  (Q:=fun c st'=>st'=st /\ ∃n,c=(none,n)/\1<=n/\n<=nrem/\Seg rk (arrOf st) lo (lo+n)/\(n=nrem\/R rk (arrOf st) (lo+n)<R rk (arrOf st) (lo+n - 1))) ?step ?fin ⟨rfl,rfl,fun i j a b c=>by rw [show i=j by (clear h1 hn;lia)];exact Nat.le_refl _⟩) ?post)
 case fin=>
  rintro c st' ⟨rfl,rfl,hs⟩;rw [show max 1 nrem=nrem by (clear hn;lia)] at hs ⊢;exact ⟨rfl,nrem,rfl,h1,Nat.le_refl _,hs,.inl rfl⟩
 case step=>
  rintro x c st' x1 xn ⟨rfl,rfl,hs⟩;dsimp only;refine wpS_bind (iu C hB (by (clear x1 h1;lia)) (by (clear x1 h1;lia)) ?_);dsimp only;refine aP (fun lt=> ?_) (fun lt=> ?_)
  ·exact wpS_pure ⟨rfl,x,rfl,x1,by (clear lt x1 h1 hn;lia),hs,.inr (of_decide_eq_true lt)⟩
  ·have lt:R rk (arrOf st') (lo+x - 1)<=R rk (arrOf st') (lo+x):=Nat.le_of_not_lt fun z=>lt (decide_eq_true z)
   refine wpS_pure ⟨rfl,rfl,fun i j a b c=> ?_⟩
   by_cases hj:j<lo+x
   ·exact hs i j a b hj
   ·have:j=lo+x:=by (clear b a lt xn x1 h1 hn;lia)
    subst this
    by_cases hi:i=lo+x
    ·rw [hi];exact Nat.le_refl _
    ·exact Nat.le_trans (hs i (lo+x - 1) a (by (clear hj c a lt xn x1 h1 hn;lia)) (by (clear hi hj c b a lt xn h1 hn;lia))) lt
 case post=>
  rintro c st' ⟨rfl,n,rfl,n1,nn,hs,hor⟩;dsimp only;have hsz:(arrOf st').size=a₀.size:=hB.size;refine aP (fun e=> ?_) (fun e=> ?_)
  ·exact wpS_pure (h n _ hB Kb.refl n1 nn hs)
  have e:¬n=nrem:=fun z=>e (beq_iff_eq.mpr z);have lt:=hor.resolve_left e;have n2:n+1<=nrem:=by (clear lt hsz hor n1 h1 hn;lia)
  apply aP
  case' h1=>
   intro gt;refine wpS_bind (iu C hB (by (clear gt n2 lt e hsz hor nn n1;lia)) (by (clear gt n2 lt e hsz hor n1;lia)) ?_);dsimp only;refine aP (fun rose=> ?_) (fun rose=> ?_)
   ·exact wpS_pure (h n _ hB Kb.refl n1 nn hs)
   have rose:R rk (arrOf st') (lo+n - 1)<=R rk (arrOf st') lo:=Nat.le_of_not_lt fun z=>rose (decide_eq_true z)
   have all:∀k,lo<=k->k<lo+n->R rk (arrOf st') k=R rk (arrOf st') (lo+n - 1):=fun k k1 k2=>by
    have a1:=hs lo k (Nat.le_refl _) k1 k2;have a2:=hs k (lo+n - 1) k1 (by (clear a1 k1 rose gt n2 lt e hsz hor nn n1 h1 hn;lia)) (by (clear a1 k2 k1 rose gt n2 lt e hsz hor nn h1 hn;lia))
    (clear k2 k1 gt n2 lt e hsz hor nn n1 h1 hn;lia)
   rw [reverseSlice'_eq];refine wpS_bind (wpS_modify ?_);have jq:SB κ a₀ pd (setArr st' (mirror (arrOf st') lo (lo+n) ((lo+n - lo) / 2))):=hB.setArr (mirror_perm _ _ _ _);have k1:Kb lo st' (setArr st' (mirror (arrOf st') lo (lo+n) ((lo+n - lo) / 2))):=lE (by (clear rose gt n2 lt e hor n1 h1;lia)) (Nat.le_refl _)
   have dw:RB rk (arrOf (setArr st' (mirror (arrOf st') lo (lo+n) ((lo+n - lo) / 2)))) lo (lo+n+1):=fun i j a b c=>by
    show R rk (mirror _ _ _ _) j<=R rk (mirror _ _ _ _) i;rw [gJ (by (clear c b a rose gt n2 lt e hor n1 h1;lia)) all,gJ (by (clear c b a rose gt n2 lt e hor n1 h1;lia)) all]
    by_cases hj:j<lo+n
    ·rw [all i a (by (clear c a rose gt n2 lt e hsz hor nn n1 h1 hn;lia)),all j (by (clear hj c rose gt n2 lt e hsz hor nn n1 h1 hn;lia)) hj];exact Nat.le_refl _
    ·have:j=lo+n:=by (clear b a rose gt n2 lt e hsz hor nn n1 h1 hn;lia)
     subst this
     by_cases hi:i=lo+n
     ·rw [hi];exact Nat.le_refl _
     ·rw [all i a (by (clear hj c a rose gt n2 lt e hsz hor nn n1 h1 hn;lia))];(clear hi hj c b a rose gt n2 lt hsz nn n1 h1 hn;lia)
   generalize setArr st' (mirror (arrOf st') lo (lo+n) ((lo+n - lo) / 2))=st1 at jq k1 dw ⊢
  case' h2=>
   intro gt;have jq:=hB;have k1:Kb lo st' st':=Kb.refl
   have dw:RB rk (arrOf st') lo (lo+n+1):=fun i j a b c=>by
    have e1:n=1:=by (clear c b a n2 lt e hsz hor nn h1 hn;lia)
    subst e1
    by_cases hi:i=j
    ·rw [hi];exact Nat.le_refl _
    ·have:i=lo+1 - 1:=by (clear gt n2 lt e hor nn n1 hsz h1 hn;lia)
     have:j=lo+1:=by (clear this gt n2 lt e hor nn n1 hsz h1 hn;lia)
     subst_vars
     (clear hi b c a gt n2 lt nn n1 hsz h1 hn;lia)
   revert jq k1 dw;generalize hst:st'=st1;intro jq k1 dw
  all_goals
   refine wpS_bind (wpS_lift (wpAny_rule ⟨rfl, ?_⟩))
   refine wpS_bind (wpS_mono (wpS_forRange (I:=fun x c st2=>∃neq,c=(none,x,neq)/\SB κ a₀ pd st2/\Kb lo st1 st2/\RB rk (arrOf st2) lo (lo+x)/\neq+1<=x/\(∀i,lo+x - (neq+1)<=i->i<lo+x->R rk (arrOf st2) i=R rk (arrOf st2) (lo+x - 1)))
    (Q:=fun c st2=>∃x neq,c=(none,x,neq)/\n+1<=x/\x<=nrem/\SB κ a₀ pd st2/\Kb lo st1 st2/\RB rk (arrOf st2) lo (lo+x)/\neq+1<=x/\(∀i,lo+x - (neq+1)<=i->i<lo+x->R rk (arrOf st2) i=R rk (arrOf st2) (lo+x - 1))) ?_ ?_ ⟨0,rfl,jq,Kb.refl,dw,by (clear gt n2 lt e hsz hor nn n1 h1 hn;lia),fun i a b=>by congr 1;(clear gt n2 lt e hsz hor nn n1 h1 hn;lia)⟩) ?_)
   ·rintro x c st2 x1 xn ⟨neq,rfl,hB2,k2,d2,q2,e2⟩
    dsimp only;have iG:(arrOf st2).size=a₀.size:=hB2.size;refine wpS_bind (iu C hB2 (by (clear iG q2 x1 gt n2 lt e hsz hor nn n1 h1;lia)) (by (clear iG q2 x1 gt n2 lt e hsz hor nn n1 h1;lia)) ?_);dsimp only;refine aP (fun lt=> ?_) (fun lt=> ?_)
    ·have lt:R rk (arrOf st2) (lo+x)<R rk (arrOf st2) (lo+x - 1):=of_decide_eq_true lt
     have step1:∀xs:Array Keyed,(∀k,R rk xs k=R rk (arrOf st2) k)->RB rk xs lo (lo+(x+1)):=by
      intro xs hk i j a b c;rw [hk,hk]
      by_cases hj:j<lo+x
      ·exact d2 i j a b hj
      ·have:j=lo+x:=by (clear b a lt iG q2 xn x1 gt n2 e hsz hor nn n1 h1 hn;lia)
       subst this
       by_cases hi:i=lo+x
       ·rw [hi];exact Nat.le_refl _
       ·exact Nat.le_trans (Nat.le_of_lt lt) (d2 i (lo+x - 1) a (by (clear hj c a lt iG q2 xn x1 gt n2 e hsz hor nn n1 h1 hn;lia)) (by (clear hi hj c b a lt iG q2 xn gt n2 e hsz hor nn n1 h1 hn;lia)))
     refine aP (fun _=> ?_) (fun _=> ?_)
     ·rw [reverseSlice'_eq]
      refine wpS_bind (wpS_modify (wpS_pure ⟨0,rfl,hB2.setArr (mirror_perm _ _ _ _),k2.trans (lE (by (clear lt q2 x1 gt n2 e hsz hor nn n1 h1;lia)) (by (clear lt iG xn x1 gt n2 e hsz hor nn n1 h1 hn;lia))),step1 _ (gJ (by (clear lt q2 x1 gt n2 e hsz hor nn n1 h1;lia)) e2),by (clear lt iG q2 xn x1 gt n2 e hsz hor nn n1 h1 hn;lia),fun i a b=>by congr 1;(clear lt iG q2 xn x1 gt n2 e hsz hor nn n1 h1 hn;lia)⟩))
     ·exact wpS_pure ⟨0,rfl,hB2,k2,step1 _ (fun _=>rfl),by (clear lt iG q2 xn x1 gt n2 e hsz hor nn n1 h1 hn;lia),fun i a b=>by congr 1;(clear lt iG q2 xn x1 gt n2 e hsz hor nn n1 h1 hn;lia)⟩
    ·have ge:R rk (arrOf st2) (lo+x - 1)<=R rk (arrOf st2) (lo+x):=Nat.le_of_not_lt fun z=>lt (decide_eq_true z)
     refine wpS_bind (iu C hB2 (by (clear ge lt iG q2 x1 gt n2 e hsz hor nn n1 h1;lia)) (by (clear ge lt iG q2 x1 gt n2 e hsz hor nn n1 h1;lia)) ?_);dsimp only;refine aP (fun lg=> ?_) (fun lg=> ?_)
     ·exact wpS_pure ⟨x,neq,rfl,x1,by (clear lg ge lt iG q2 x1 gt n2 e hsz hor nn n1 h1 hn;lia),hB2,k2,d2,q2,e2⟩
     ·have le:R rk (arrOf st2) (lo+x)<=R rk (arrOf st2) (lo+x - 1):=Nat.le_of_not_lt fun z=>lg (decide_eq_true z)
      have Ma:R rk (arrOf st2) (lo+x)=R rk (arrOf st2) (lo+x - 1):=by (clear lg lt iG q2 xn x1 gt n2 e hsz hor nn n1 h1 hn;lia)
      refine wpS_pure ⟨neq+1,rfl,hB2,k2,fun i j a b c=> ?_,by (clear Ma le lg ge lt iG xn x1 gt n2 e hsz hor nn n1 h1 hn;lia),fun i a b=> ?_⟩
      ·by_cases hj:j<lo+x
       ·exact d2 i j a b hj
       ·have:j=lo+x:=by (clear b a Ma le lg ge lt iG q2 xn x1 gt n2 e hsz hor nn n1 h1 hn;lia)
        subst this
        by_cases hi:i=lo+x
        ·rw [hi];exact Nat.le_refl _
        ·rw [Ma];exact d2 i (lo+x - 1) a (by (clear hj c a Ma le lg ge lt iG q2 xn x1 gt n2 e hsz hor nn n1 h1 hn;lia)) (by (clear hi hj c b a Ma le lg ge lt iG q2 xn gt n2 e hsz hor nn n1 h1 hn;lia))
      ·rw [show lo+(x+1) - 1=lo+x by (clear b a Ma le lg ge lt iG q2 xn x1 gt n2 e hsz hor nn n1 h1 hn;lia)]
       by_cases hi:i=lo+x
       ·rw [hi]
       ·rw [Ma];exact e2 i (by (clear hi b Ma le lg ge lt iG q2 xn x1 gt n2 e hsz hor nn n1 h1 hn;lia)) (by (clear a Ma le lg ge lt iG q2 xn x1 gt n2 e hsz hor nn n1 h1 hn;lia))
   ·rintro c st2 ⟨neq,rfl,hB2,k2,d2,q2,e2⟩
    rw [show max (n+1) nrem=nrem by (clear q2 gt n2 lt hsz hor n1 h1 hn;lia)] at d2 q2 e2 ⊢;exact ⟨nrem,neq,rfl,n2,Nat.le_refl _,hB2,k2,d2,q2,e2⟩
   ·rintro c st2 ⟨x,neq,rfl,x1,xn,hB2,k2,d2,q2,e2⟩
    dsimp only;have iG:(arrOf st2).size=a₀.size:=hB2.size;apply aP
    case' h1=>
     intro _;rw [reverseSlice'_eq];refine wpS_bind (wpS_modify ?_);have hB3:SB κ a₀ pd (setArr st2 (mirror (arrOf st2) (lo+x - (neq+1)) (lo+x) ((lo+x - (lo+x - (neq+1))) / 2))):=hB2.setArr (mirror_perm _ _ _ _);have k3:=k2.trans (lE (st:=st2) (lo:=lo) (i:=lo+x - (neq+1)) (j:=lo+x) (by (clear q2 x1 gt n2 lt e hsz hor nn n1 h1;lia)) (by (clear iG xn x1 gt n2 lt e hsz hor nn n1 h1 hn;lia)))
     have d3:RB rk (arrOf (setArr st2 (mirror (arrOf st2) (lo+x - (neq+1)) (lo+x) ((lo+x - (lo+x - (neq+1))) / 2)))) lo (lo+x):=fun i j a b c=>by
      show R rk (mirror _ _ _ _) j<=R rk (mirror _ _ _ _) i;rw [gJ (by (clear c b a q2 x1 gt n2 lt e hsz hor nn n1 h1;lia)) e2,gJ (by (clear c b a q2 x1 gt n2 lt e hsz hor nn n1 h1;lia)) e2];exact d2 i j a b c
     generalize setArr st2 (mirror (arrOf st2) (lo+x - (neq+1)) (lo+x) ((lo+x - (lo+x - (neq+1))) / 2))=st3 at hB3 k3 d3 ⊢
    case' h2=>
     intro _;have hB3:=hB2;have k3:=k2;have d3:=d2;revert hB3 k3 d3;generalize st2=st3;intro hB3 k3 d3
    all_goals
     have Bb:(arrOf st3).size=a₀.size:=hB3.size;rw [reverseSlice'_eq];refine wpS_bind (wpS_modify ?_);have n_:SB κ a₀ pd (setArr st3 (mirror (arrOf st3) lo (lo+x) ((lo+x - lo) / 2))):=hB3.setArr (mirror_perm _ _ _ _);have k4:=k3.trans (lE (st:=st3) (lo:=lo) (i:=lo) (j:=lo+x) (by (clear iG q2 x1 gt n2 lt e hsz hor nn n1 h1;lia)) (by (clear Bb iG q2 xn x1 gt n2 lt e hsz hor nn n1 h1 hn;lia)))
     have s4:Seg rk (arrOf (setArr st3 (mirror (arrOf st3) lo (lo+x) ((lo+x - lo) / 2)))) lo (lo+x):=fun i j a b c=>by
      show R rk (mirror _ _ _ _) i<=R rk (mirror _ _ _ _) j;rw [rM (by (clear c b a iG q2 x1 gt n2 lt e hsz hor nn n1 h1;lia)),rM (by (clear c b a iG q2 x1 gt n2 lt e hsz hor nn n1 h1;lia)),if_pos (by (clear Bb iG q2 xn x1 gt n2 lt e hsz hor nn n1 h1 hn;lia)),if_pos (by (clear Bb iG q2 xn x1 gt n2 lt e hsz hor nn n1 h1 hn;lia))];exact d3 _ _ (by (clear b a Bb iG q2 xn x1 gt n2 lt e hsz hor nn n1 h1 hn;lia)) (by (clear c a Bb iG q2 xn x1 gt n2 lt e hsz hor nn n1 h1 hn;lia)) (by (clear c b Bb iG q2 xn gt n2 lt e hsz hor nn n1 h1 hn;lia))
     generalize setArr st3 (mirror (arrOf st3) lo (lo+x) ((lo+x - lo) / 2))=jZ at n_ k4 s4 ⊢
     refine wpS_bind (wpS_mono (wpS_forRange (I:=fun y c wu=>wu=jZ/\c=(none,y)/\Seg rk (arrOf jZ) lo (lo+y))
      (Q:=fun c wu=>wu=jZ /\ ∃y,c=(none,y)/\x<=y/\y<=nrem/\Seg rk (arrOf jZ) lo (lo+y)) ?_ ?_ ⟨rfl,rfl,s4⟩) ?_)
     ·rintro y c wu y1 yn ⟨rfl,rfl,Nk⟩
      dsimp only;refine wpS_bind (iu C n_ (by (clear y1 Bb iG q2 xn x1 gt n2 lt e hsz hor nn n1 h1;lia)) (by (clear y1 Bb iG q2 xn x1 gt n2 lt e hsz hor nn n1 h1;lia)) ?_);dsimp only;refine aP (fun lt=> ?_) (fun lt=> ?_)
      ·exact wpS_pure ⟨rfl,y,rfl,y1,by (clear lt y1 Bb iG q2 xn x1 gt n2 e hsz hor nn n1 h1 hn;lia),Nk⟩
      ·have lt:R rk (arrOf wu) (lo+y - 1)<=R rk (arrOf wu) (lo+y):=Nat.le_of_not_lt fun z=>lt (decide_eq_true z)
       refine wpS_pure ⟨rfl,rfl,fun i j a b c=> ?_⟩
       by_cases hj:j<lo+y
       ·exact Nk i j a b hj
       ·have:j=lo+y:=by (clear b a lt yn y1 Bb iG q2 xn x1 gt n2 e hsz hor nn n1 h1 hn;lia)
        subst this
        by_cases hi:i=lo+y
        ·rw [hi];exact Nat.le_refl _
        ·exact Nat.le_trans (Nk i (lo+y - 1) a (by (clear hj c a lt yn y1 Bb iG q2 xn x1 gt n2 e hsz hor nn n1 h1 hn;lia)) (by (clear hi hj c b a lt yn Bb iG q2 xn gt n2 e hsz hor nn n1 h1 hn;lia))) lt
     ·rintro c wu ⟨rfl,rfl,Nk⟩
      rw [show max x nrem=nrem by (clear Bb iG q2 x1 gt n2 lt e hsz hor nn n1 h1 hn;lia)] at Nk ⊢;exact ⟨rfl,nrem,rfl,xn,Nat.le_refl _,Nk⟩
     ·rintro c wu ⟨rfl,y,rfl,y1,yn,Nk⟩
      exact wpS_pure (h y _ n_ (by first |exact k1.trans k4|(subst hst;exact k4)) (by (clear yn Bb iG q2 xn gt n2 lt e hsz hor nn n1 h1 hn;lia)) yn Nk)
theorem wpS_binarySort {st:SortSt} {lo n ok:Nat} {Q:Bool->SortSt->Prop} (C:Ax prog w A s κ a₀ rk) (hn:lo+n<=a₀.size) (hok:ok<=n) (hB:SB κ a₀ pd st) (hs:Seg rk (arrOf st) lo (lo+ok))
 (h:∀st',SB κ a₀ pd st'->Kb lo st st'->Seg rk (arrOf st') lo (lo+n)->Q true st'):wpS (model prog w) A E s (binarySort' lo n ok) Q st:=by
 rw [binarySort'_eq]
 refine wpS_bind (wpS_mono (wpS_forRange (I:=fun k c st'=>c=(none,())/\SB κ a₀ pd st'/\Kb lo st st'/\Seg rk (arrOf st') lo (lo+min k n))
  (Q:=fun c st'=>c=(none,())/\SB κ a₀ pd st'/\Kb lo st st'/\Seg rk (arrOf st') lo (lo+n)) ?step ?fin ?init) ?post)
 case post=>
  rintro c st' ⟨rfl,hB',k',hs'⟩;exact wpS_pure (h st' hB' k' hs')
 case init=>
  refine ⟨rfl,hB,Kb.refl,fun i j a b c=> ?_⟩
  by_cases h1:ok=0
  ·rw [show i=j by (clear hok hn;lia)];exact Nat.le_refl _
  ·exact hs i j a b (by (clear b a hok hn;lia))
 case fin=>
  rintro c st' ⟨hc,hB',k',hs'⟩;refine ⟨hc,hB',k', ?_⟩;rwa [show min (max (max ok 1) n) n=n by (clear hc hok hn;lia)] at hs'
 case step=>
  rintro k c st' hak hkn ⟨rfl,hB',k',hs'⟩;rw [show min k n=k by (clear hak hok hn;lia)] at hs';have sz:(arrOf st').size=a₀.size:=hB'.size
  refine wpS_bind (wpS_mono (wpS_forRange (I:=fun x c st''=>st''=st' /\ ∃l r,c=(none,l,r)/\l<=r/\r<=k/\r - l<=k - x /\
   (∀i,i<l->R rk (arrOf st') (lo+i)<=R rk (arrOf st') (lo+k))/\(∀i,r<=i->i<k->R rk (arrOf st') (lo+k)<R rk (arrOf st') (lo+i)))
   (Q:=fun c st''=>st''=st' /\ ∃l r,c=(none,l,r)/\l<=k /\
     (∀i,i<l->R rk (arrOf st') (lo+i)<=R rk (arrOf st') (lo+k))/\(∀i,l<=i->i<k->R rk (arrOf st') (lo+k)<R rk (arrOf st') (lo+i))) ?istep ?ifin ?iinit) ?ipost)
  case iinit=>exact ⟨rfl,0,k,rfl,by (clear sz hkn hak hok hn;lia),by (clear sz hkn hak hok hn;lia),by (clear sz hkn hak hok hn;lia),fun i hi=>by (clear sz hkn hak hok hn;lia),fun i h1 h2=>by (clear sz hkn hak hok hn;lia)⟩
  case ifin=>
   rintro c st'' ⟨rfl,l,r,rfl,hlr,hrk,hm,hlo,hhi⟩;have:l=r:=by (clear hrk sz hkn hak hok hn;lia)
   subst this;exact ⟨rfl,l,l,rfl,hrk,hlo,hhi⟩
  case istep=>
   rintro x c st'' _ hxk ⟨rfl,l,r,rfl,hlr,hrk,hm,hlo,hhi⟩;dsimp only;refine aP (fun hge=> ?_) (fun hge=> ?_)
   ·have:l=r:=by (clear hm hrk sz hxk hkn hak hok hn;lia)
    subst this;exact wpS_pure ⟨rfl,l,l,rfl,hrk,hlo,hhi⟩
   ·refine wpS_bind (iu C hB' (by (clear hge hm hrk hlr sz hxk hak hok;lia)) (by (clear hge hm sz hxk hak hok;lia)) ?_)
    dsimp only;refine aP (fun lt=> ?_) (fun lt=> ?_)
    ·have lt:=of_decide_eq_true lt
     refine wpS_pure ⟨rfl,l,(l+r) / 2,rfl,by (clear lt hge hm hrk sz hxk hkn hak hok hn;lia),by (clear lt hge hm sz hxk hkn hak hok hn;lia),by (clear lt hge hrk hlr sz hxk hkn hak hok hn;lia),hlo,fun i h1 h2=> ?_⟩;exact Nat.lt_of_lt_of_le lt (hs' _ _ (by (clear h2 h1 lt hge hm hrk hlr sz hxk hkn hak hok hn;lia)) (by (clear h2 lt hge hm hrk hlr sz hxk hkn hak hok hn;lia)) (by (clear h1 lt hge hm hrk hlr sz hxk hkn hak hok hn;lia)))
    ·have lt:R rk (arrOf st'') (lo+(l+r) / 2)<=R rk (arrOf st'') (lo+k):=Nat.le_of_not_lt fun z=>lt (decide_eq_true z)
     refine wpS_pure ⟨rfl,(l+r) / 2+1,r,rfl,by (clear lt hm hrk hlr sz hxk hkn hak hok hn;lia),by (clear lt hge hm hlr sz hxk hkn hak hok hn;lia),by (clear lt hge hrk hlr sz hxk hkn hak hok hn;lia),fun i h1=> ?_,hhi⟩;exact Nat.le_trans (hs' (lo+i) (lo+(l+r) / 2) (by (clear h1 lt hge hm hrk hlr sz hxk hkn hak hok hn;lia)) (by (clear lt hge hm hrk hlr sz hxk hkn hak hok hn;lia)) (by (clear h1 lt hm hlr sz hxk hkn hak hok hn;lia))) lt
  case ipost=>
   rintro c st'' ⟨rfl,l,r,rfl,hlk,hlo,hhi⟩;show wpS _ _ _ _ (do moveDown' (lo+k) (lo+l);pure (ForInStep.yield (none,()))) _ _;rw [moveDown'_eq];refine wpS_bind (wpS_modify (wpS_pure ⟨rfl,hB'.setArr (bubble_perm _ _ _),k'.trans ?_, ?_⟩))
   ·intro i hi
    show (bubble (arrOf st'') (lo+k) (lo+k - (lo+l)))[i]? = _;rw [getElem?_bubble (by (clear hi hlk hak hok;lia)) _ (by (clear hi hlk sz hkn hak hok hn;lia)),if_neg (by (clear hlk sz hkn hak hok hn;lia)),if_neg (by (clear hlk sz hkn hak hok hn;lia))]
   rw [show min (k+1) n=k+1 by (clear hlk sz hak hok hn;lia)];intro i j a b c;show R rk (bubble (arrOf st'') (lo+k) (lo+k - (lo+l))) i<=R rk (bubble (arrOf st'') (lo+k) (lo+k - (lo+l))) j;rw [yN (by (clear c b a hlk hak hok;lia)) (by (clear c b a hlk sz hkn hak hok hn;lia)),yN (by (clear c b a hlk hak hok;lia)) (by (clear c b a hlk sz hkn hak hok hn;lia)),show lo+k - (lo+k - (lo+l))=lo+l by (clear c b a sz hkn hak hok hn;lia)]
   have L1:∀i,lo<=i->i<lo+l->R rk (arrOf st'') i<=R rk (arrOf st'') (lo+k):=fun i i1 i2=>by
    have:=hlo (i - lo) (by (clear c b a hlk sz hkn hak hok hn;lia));rwa [show lo+(i - lo)=i by (clear this i2 c b a hlk sz hkn hak hok hn;lia)] at this
   have L2:∀i,lo+l<=i->i<lo+k->R rk (arrOf st'') (lo+k)<R rk (arrOf st'') i:=fun i i1 i2=>by
    have:=hhi (i - lo) (by (clear i2 c b a hlk sz hkn hak hok hn;lia)) (by (clear i1 c b a hlk sz hkn hok hn;lia));rwa [show lo+(i - lo)=i by (clear this i2 c b a hlk sz hkn hak hok hn;lia)] at this
   repeat' split
   all_goals first
    | (exfalso;(clear a hlk sz hkn hak hok hn;lia))
    | exact Nat.le_refl _
    | exact L1 _ (by (clear c b hlk sz hkn hak hok hn;lia)) (by (clear c a hlk sz hkn hak hok hn;lia))
    | exact Nat.le_of_lt (L2 _ (by (clear c b a hlk sz hkn hak hok hn;lia)) (by (clear c b a hlk sz hkn hak hok hn;lia)))
    | exact hs' _ _ (by (clear c b hlk sz hkn hak hok hn;lia)) (by (clear c a hlk sz hkn hak hok hn;lia)) (by (clear b a sz hkn hak hok hn;lia))
end
end Tim
set_option Elab.async false
set_option linter.all false
set_option maxRecDepth 100000
set_option maxHeartbeats 4000000
namespace Tim
open PySem PyProof.Rows
theorem xO (i:Nat):mergeAt' i=(do
 let s ←get
 let (some (sa,na,power),some (sb,nb,_)):=((pendingOf s)[i]?,(pendingOf s)[i+1]?)|unsupported "internal:list.sort.pending"
 set (SortSt.mk' (kindOf s) (arrOf s) (((pendingOf s).setIfInBounds i (sa,na+nb,power)).eraseIdxIfInBounds (i+1)) (gallopOf s) (failedOf s))
 let some k ←iM false (←elem' (arrOf s) sb) (arrOf s) sa na 0|return false
 let (sa,na):=(sa+k,na - k)
 if na==0 then return true
 let some nb ←iM true (←elem' (arrOf s) (sa+na - 1)) (arrOf s) sb nb (nb - 1)|return false
 if nb==0 then return true
 let x:=(arrOf s).extract sa sb
 let y:=(arrOf s).extract sb (sb+nb)
 let merged ←if na<=nb then qF x y else qG x y
 modify fun s=>setArr s (merged.toList.zipIdx.foldl (fun a (p,j)=>a.setIfInBounds (sa+j) p) (arrOf s))
 return (failedOf (←get)).isNone):=rfl
section
variable {prog:Program} {w:World} {A:Around} {E:Value->Shared->Prop} {s:Shared} {κ:SortKind} {a₀:Array Keyed} {rk:Value->Nat} {pd:Array (Nat×Nat×Nat)}
theorem Bv (b:Nat) (m:List Keyed):∀(n:Nat) (xs:Array Keyed) (j:Nat),b+n+m.length<=xs.size->((m.zipIdx n).foldl (fun a x=>a.setIfInBounds (b+x.2) x.1) xs)[j]? = if b+n<=j/\j<b+n+m.length then m[j - (b+n)]? else xs[j]? :=by
 induction m with
 | nil=>intro n xs j h;rw [if_neg (by simp)];rfl
 | cons p m ih=>
   intro n xs j h;rw [List.length_cons] at h;rw [List.zipIdx_cons,List.foldl_cons,ih (n+1) _ j (by rw [Array.size_setIfInBounds];lia)]
   by_cases e:j=b+n
   ·subst e
    rw [if_neg (by (clear h;lia)),if_pos (by rw [List.length_cons];(clear h;lia)),Nat.sub_self];rw [Array.getElem?_setIfInBounds_self_of_lt (by lia)];rfl
   ·by_cases c:b+(n+1)<=j/\j<b+(n+1)+m.length
    ·rw [if_pos c,if_pos (by rw [List.length_cons];(clear e h;lia)),show j - (b+n)=(j - (b+(n+1)))+1 by (clear e h;lia),List.getElem?_cons_succ]
    ·rw [if_neg c,if_neg (by rw [List.length_cons];(clear h;lia)),Array.getElem?_setIfInBounds_ne (Ne.symm e)]
theorem G_ {b n:Nat} {m:List Keyed} {xs:Array Keyed} (hl:m.length=n) (hb:b+n<=xs.size) (hp:m.Perm ((xs.toList.drop b).take n)):((m.zipIdx).foldl (fun a x=>a.setIfInBounds (b+x.2) x.1) xs).Perm xs:=by
 have e:((m.zipIdx).foldl (fun a x=>a.setIfInBounds (b+x.2) x.1) xs).toList=xs.toList.take b++(m++xs.toList.drop (b+n)):=by
  have hx:xs.toList.length=xs.size:=Array.length_toList;apply List.ext_getElem?;intro j;rw [Array.getElem?_toList,Bv b m 0 xs j (by (clear hx;lia))]
  by_cases j1:j<b
  ·rw [if_neg (by (clear hx hb hl;lia)),List.getElem?_append_left (by rw [List.length_take,hx];(clear hx hl;lia)),List.getElem?_take_of_lt j1,Array.getElem?_toList]
  ·rw [List.getElem?_append_right (by rw [List.length_take,hx];(clear hx hb hl;lia)),List.length_take,hx,Nat.min_eq_left (by (clear j1 hx hl;lia))]
   by_cases j2:j<b+n
   ·rw [if_pos (by (clear hx hb;lia)),List.getElem?_append_left (by (clear hx hb;lia))];rfl
   ·rw [if_neg (by (clear j1 hx hb;lia)),List.getElem?_append_right (by (clear j1 hx hb;lia)),List.getElem?_drop,Array.getElem?_toList]
    congr 1
    (clear j1 hx hb;lia)
 refine Array.perm_iff_toList_perm.mpr ?_;rw [e]
 have sp:xs.toList=xs.toList.take b++((xs.toList.drop b).take n++xs.toList.drop (b+n)):=by
  rw [←qT,List.take_append_drop]
 refine List.Perm.trans ?_ (List.Perm.of_eq sp.symm);exact List.Perm.append_left _ (List.Perm.append_right _ hp)
theorem oU {xs:Array Keyed} {lo hi i:Nat} (h:lo+i<hi) (hh:hi<=xs.size):R rk (xs.extract lo hi) i=R rk xs (lo+i):=by
 apply eN;rw [Array.getElem?_extract];rw [if_pos (by lia)]
theorem J6 {σ:Type} {M:Model} {A:Around} {E:Value->Shared->Prop} {s:Shared} {x:σ} {Q:PUnit->σ->Prop} {st:σ} (h:Q ⟨⟩ x):wpS M A E s (set x:StateT σ Sem PUnit) Q st:=by
 unfold wpS;rw [StateT.run_set];exact wpAny_pure ⟨rfl,h⟩
theorem wC {st:SortSt} {i sa na pw sb nb Yg:Nat} {Q:Bool->SortSt->Prop} (C:Ax prog w A s κ a₀ rk) (hB:SB κ a₀ pd st) (h1:pd[i]? = some (sa,na,pw)) (h2:pd[i+1]? = some (sb,nb,Yg)) (hsb:sb=sa+na) (na1:1<=na) (cG:1<=nb) (hz:sb+nb<=a₀.size)
 (s1:Seg rk (arrOf st) sa (sa+na)) (s2:Seg rk (arrOf st) sb (sb+nb))
 (h:∀st',SB κ a₀ ((pd.setIfInBounds i (sa,na+nb,pw)).eraseIdxIfInBounds (i+1)) st'->(∀j,j<sa\/sb+nb<=j->(arrOf st')[j]? = (arrOf st)[j]?)->Seg rk (arrOf st') sa (sb+nb)->Q true st'):
 wpS (model prog w) A E s (mergeAt' i) Q st:=by
 rw [xO];refine wpS_bind (wpS_get ?_);rw [hB.pend,h1,h2];dsimp only;have sz:(arrOf st).size=a₀.size:=hB.size;have m7:∀p∈(arrOf st).toList,p∈a₀.toList:=fun p hp=>hB.mem hp;have Nh:∀i,i<a₀.size -> ∃p,(arrOf st)[i]? = some p/\p∈a₀.toList/\R rk (arrOf st) i=rk p.1:=fun i hi=>⟨(arrOf st)[i]'(by (clear hz cG na1 hsb h2 h1;lia)),getElem?_pos (arrOf st) i (by (clear hz cG na1 hsb h2 h1;lia)),hB.mem (by simp),fZ (by (clear hz cG na1 hsb h2 h1;lia))⟩;refine wpS_bind (J6 ?_);have jq:SB κ a₀ ((pd.setIfInBounds i (sa,na+nb,pw)).eraseIdxIfInBounds (i+1)) (SortSt.mk' (kindOf st) (arrOf st) ((pd.setIfInBounds i (sa,na+nb,pw)).eraseIdxIfInBounds (i+1)) (gallopOf st) (failedOf st)):=⟨hB.perm,hB.kind,hB.failed,rfl⟩;have bZ:arrOf (SortSt.mk' (kindOf st) (arrOf st) ((pd.setIfInBounds i (sa,na+nb,pw)).eraseIdxIfInBounds (i+1)) (gallopOf st) (failedOf st))=arrOf st:=rfl;generalize (pd.setIfInBounds i (sa,na+nb,pw)).eraseIdxIfInBounds (i+1)=pd1 at jq bZ h ⊢;generalize SortSt.mk' (kindOf st) (arrOf st) pd1 (gallopOf st) (failedOf st)=st1 at jq bZ ⊢;obtain ⟨p,ep,mp,rp⟩:=Nh sb (by (clear bZ sz na1 hsb h2 h1;lia));refine wpS_bind (bF ep (wpS_bind (gn C jq.kind mp m7 (by (clear rp ep bZ cG na1 h2 h1;lia)) (by (clear rp ep bZ sz hz cG hsb h2 h1;lia)) s1 fun k k1 k2 k3=> ?_)));dsimp only;refine aP (fun e=> ?_) (fun e=> ?_)
 ·have e:na - k=0:=eq_of_beq e
  refine wpS_pure (h st1 jq (fun j _=>by rw [bZ]) fun i j a b c=> ?_);rw [bZ]
  by_cases hj:j<sb
  ·exact s1 i j a b (by (clear c b a e k1 rp ep bZ sz hz cG na1 h2 h1;lia))
  ·by_cases hi:i<sb
   ·have e1:=MK (k2 (i - sa) (by (clear hj c b a k1 rp ep bZ sz hz cG h2 h1;lia)))
    rw [show sa+(i - sa)=i by (clear e1 hi hj c b e k1 rp ep bZ sz hz cG na1 hsb h2 h1;lia)] at e1;have e2:=s2 sb j (Nat.le_refl _) (by (clear e1 hi c b a e k1 rp ep bZ sz hz cG na1 hsb h2 h1;lia)) c
    (clear hi hj c b a e k1 ep bZ sz hz cG na1 hsb h2 h1;lia)
   ·exact s2 i j (by (clear hj c b a e k1 rp ep bZ sz hz cG na1 hsb h2 h1;lia)) b c
 have ek:k<na:=by have:¬na - k=0:=fun z=>e (beq_iff_eq.mpr z);(clear e k1 rp ep bZ sz hz cG na1 hsb h2 h1;lia)
 obtain ⟨q,eq,mq,rq⟩:=Nh (sa+k+(na - k) - 1) (by (clear ek e rp ep bZ sz cG h2 h1;lia));refine wpS_bind (bF eq (wpS_bind (gn C jq.kind mq m7 (by (clear rq eq ek e k1 rp ep bZ cG na1 hsb h2 h1;lia)) (by (clear rq eq ek e k1 rp ep bZ sz hz na1 hsb h2 h1;lia)) s2 fun n2 l1 l2 l3=> ?_)));dsimp only;have aQ:sa+k+(na - k) - 1=sb - 1:=by (clear l1 rq eq ek e rp ep bZ sz hz cG na1 h2 h1;lia)
 rw [aQ] at rq;refine aP (fun e=> ?_) (fun e=> ?_)
 ·have e:n2=0:=eq_of_beq e
  refine wpS_pure (h st1 jq (fun j _=>by rw [bZ]) fun i j a b c=> ?_);rw [bZ]
  by_cases hj:j<sb
  ·exact s1 i j a b (by (clear c b a e aQ l1 rq eq ek k1 rp ep bZ sz hz cG na1 h2 h1;lia))
  ·by_cases hi:i<sb
   ·have e1:=yR (l3 (j - sb) (by (clear hi hj c b a aQ l1 rq eq ek k1 rp ep bZ sz hz cG na1 hsb h2 h1;lia)) (by (clear hi hj b a e aQ l1 rq eq ek k1 rp ep bZ sz hz na1 hsb h2 h1;lia)))
    rw [show sb+(j - sb)=j by (clear e1 hi c b a e aQ l1 rq eq ek k1 rp ep bZ sz hz cG na1 hsb h2 h1;lia)] at e1;have e2:=s1 i (sb - 1) a (by (clear e1 hj c b a e aQ l1 rq eq ek k1 rp ep bZ sz hz cG na1 hsb h2 h1;lia)) (by (clear e1 hi hj c b a e aQ l1 rq eq ek k1 rp ep bZ sz hz cG h2 h1;lia))
    (clear hi hj c b a e aQ l1 eq ek k1 rp ep bZ sz hz cG na1 hsb h2 h1;lia)
   ·exact s2 i j (by (clear hj c b a e aQ l1 rq eq ek k1 rp ep bZ sz hz cG na1 hsb h2 h1;lia)) b c
 have e2:¬n2=0:=fun z=>e (beq_iff_eq.mpr z);have dM:((arrOf st).extract (sa+k) sb).size=sb - (sa+k):=by rw [Array.size_extract,Nat.min_eq_left (by (clear e2 e aQ l1 rq eq ek k1 rp ep bZ cG na1 hsb h2 h1;lia))]
 have dO:((arrOf st).extract sb (sb+n2)).size=n2:=by rw [Array.size_extract,Nat.min_eq_left (by (clear dM e2 e aQ rq eq ek k1 rp ep bZ cG na1 hsb h2 h1;lia))];(clear dM e2 e aQ l1 rq eq ek k1 rp ep bZ sz hz cG na1 hsb h2 h1;lia)
 have xin:∀p∈((arrOf st).extract (sa+k) sb).toList,p∈a₀.toList:=fun p hp=>m7 p (by rw [bY] at hp;exact List.mem_of_mem_drop (List.mem_of_mem_take hp));have yin:∀p∈((arrOf st).extract sb (sb+n2)).toList,p∈a₀.toList:=fun p hp=>m7 p (by rw [bY] at hp;exact List.mem_of_mem_drop (List.mem_of_mem_take hp))
 have sx:Seg rk ((arrOf st).extract (sa+k) sb) 0 ((arrOf st).extract (sa+k) sb).size:=fun i j a b c=>by
  rw [dM] at c;rw [oU (by (clear a dO dM e2 e aQ l1 rq eq ek k1 rp ep bZ sz hz cG na1 hsb h2 h1;lia)) (by (clear c b a dO dM e2 e aQ l1 rq eq ek k1 rp ep bZ cG na1 hsb h2 h1;lia)),oU (by (clear b a dO dM e2 e aQ l1 rq eq ek k1 rp ep bZ sz hz cG na1 hsb h2 h1;lia)) (by (clear c b a dO dM e2 e aQ l1 rq eq ek k1 rp ep bZ cG na1 hsb h2 h1;lia))];exact s1 _ _ (by (clear c b a dO dM e2 e aQ l1 rq eq ek k1 rp ep bZ sz hz cG na1 hsb h2 h1;lia)) (by (clear c a dO dM e2 e aQ l1 rq eq ek k1 rp ep bZ sz hz cG na1 hsb h2 h1;lia)) (by (clear b a dO dM e2 e aQ l1 rq eq ek k1 rp ep bZ sz hz cG na1 h2 h1;lia))
 have sy:Seg rk ((arrOf st).extract sb (sb+n2)) 0 ((arrOf st).extract sb (sb+n2)).size:=fun i j a b c=>by
  rw [dO] at c;rw [oU (by (clear a dO dM e2 e aQ l1 rq eq ek k1 rp ep bZ sz hz cG na1 hsb h2 h1;lia)) (by (clear c b a dO dM e2 e aQ rq eq ek k1 rp ep bZ cG na1 hsb h2 h1;lia)),oU (by (clear b a dO dM e2 e aQ l1 rq eq ek k1 rp ep bZ sz hz cG na1 hsb h2 h1;lia)) (by (clear c b a dO dM e2 e aQ rq eq ek k1 rp ep bZ cG na1 hsb h2 h1;lia))];exact s2 _ _ (by (clear c b a dO dM e2 e aQ l1 rq eq ek k1 rp ep bZ sz hz cG na1 hsb h2 h1;lia)) (by (clear c a dO dM e2 e aQ l1 rq eq ek k1 rp ep bZ sz hz cG na1 hsb h2 h1;lia)) (by (clear b a dO dM e2 e aQ rq eq ek k1 rp ep bZ sz hz cG na1 hsb h2 h1;lia))
 have h0:R rk ((arrOf st).extract sb (sb+n2)) 0<=R rk ((arrOf st).extract (sa+k) sb) 0:=by
  rw [oU (by (clear dO dM e aQ l1 rq eq ek k1 rp ep bZ sz hz cG na1 hsb h2 h1;lia)) (by (clear dO dM e2 e aQ rq eq ek k1 rp ep bZ cG na1 hsb h2 h1;lia)),oU (by (clear dO dM e2 e aQ l1 rq eq k1 rp ep bZ sz hz cG na1 h2 h1;lia)) (by (clear dO dM e2 e aQ l1 rq eq ek k1 rp ep bZ cG na1 hsb h2 h1;lia)),Nat.add_zero,Nat.add_zero,rp];have:=JZ (k3 k (Nat.le_refl _) ek)
  (clear dO dM e2 e aQ l1 rq eq ek k1 rp ep bZ sz hz cG na1 hsb h2 h1;lia)
 have hl:R rk ((arrOf st).extract sb (sb+n2)) (((arrOf st).extract sb (sb+n2)).size - 1)<=R rk ((arrOf st).extract (sa+k) sb) (((arrOf st).extract (sa+k) sb).size - 1):=by
  rw [dM,dO,oU (by (clear h0 dO dM e aQ l1 rq eq ek k1 rp ep bZ sz hz cG na1 hsb h2 h1;lia)) (by (clear h0 dO dM e2 e aQ rq eq ek k1 rp ep bZ cG na1 hsb h2 h1;lia)),oU (by (clear h0 dO dM e2 e aQ l1 rq eq k1 rp ep bZ sz hz cG na1 h2 h1;lia)) (by (clear h0 dO dM e2 e aQ l1 rq eq ek k1 rp ep bZ cG na1 hsb h2 h1;lia)),show sa+k+(sb - (sa+k) - 1)=sb - 1 by (clear h0 dO dM e2 e aQ l1 rq eq k1 rp ep bZ sz hz cG na1 h2 h1;lia),rq];have:=Rp (l2 (n2 - 1) (by (clear h0 dO dM e aQ l1 rq eq ek k1 rp ep bZ sz hz cG na1 hsb h2 h1;lia)))
  (clear h0 dO dM e2 e aQ l1 rq eq ek k1 rp ep bZ sz hz cG na1 hsb h2 h1;lia)
 have fin:∀r st2,wz st1 st2->Mg rk ((arrOf st).extract (sa+k) sb) ((arrOf st).extract sb (sb+n2)) r->wpS (model prog w) A E s (do
  modify fun s=>setArr s (List.foldl (fun a x=>a.setIfInBounds (sa+k+x.snd) x.fst) (arrOf s) r.toList.zipIdx)
  let __do_lift ←get
  pure (failedOf __do_lift).isNone) Q st2:=by
  intro r st2 k2' mg;have iK:arrOf st2=arrOf st:=k2'.a.trans bZ;refine wpS_bind (wpS_modify ?_);refine wpS_bind (wpS_get ?_);have hf:failedOf (setArr st2 (List.foldl (fun a x=>a.setIfInBounds (sa+k+x.snd) x.fst) (arrOf st2) r.toList.zipIdx))=none:=k2'.f.trans jq.failed;rw [hf]
  have rl:r.toList.length=sb - (sa+k)+n2:=by
   rw [mg.perm.length_eq,List.length_append,Array.length_toList,Array.length_toList,dM,dO]
  have rp':r.toList.Perm (((arrOf st).toList.drop (sa+k)).take (sb - (sa+k)+n2)):=by
   refine mg.perm.trans (List.Perm.of_eq ?_);rw [bY,bY,List.take_add,List.drop_drop,show sb+n2 - sb=n2 by (clear rl hf iK hl h0 dO dM e2 e aQ l1 rq eq ek k1 rp ep bZ sz hz cG na1 hsb h2 h1;lia),show sa+k+(sb - (sa+k))=sb by (clear rl hf iK hl h0 dO dM e2 e aQ l1 rq eq ek rp ep bZ sz hz cG na1 h2 h1;lia)]
  have get:∀j,(arrOf (setArr st2 (List.foldl (fun a x=>a.setIfInBounds (sa+k+x.snd) x.fst) (arrOf st2) r.toList.zipIdx)))[j]? = if sa+k<=j/\j<sb+n2 then r.toList[j - (sa+k)]? else (arrOf st)[j]? :=fun j=>by
   show (List.foldl (fun a x=>a.setIfInBounds (sa+k+x.snd) x.fst) (arrOf st2) r.toList.zipIdx)[j]? = _;rw [iK,Bv (sa+k) r.toList 0 (arrOf st) j (by (clear hf iK hl h0 dO dM e2 e aQ rq eq ek rp ep bZ cG na1 h2 h1;lia)),rl]
   by_cases c:sa+k<=j/\j<sb+n2
   ·rw [if_pos c,if_pos (by (clear rl hf iK hl h0 dO dM e2 e aQ l1 rq eq ek k1 rp ep bZ sz hz cG na1 hsb h2 h1;lia))];rfl
   ·rw [if_neg c,if_neg (by (clear rl hf iK hl h0 dO dM e2 e aQ l1 rq eq ek rp ep bZ sz hz cG na1 h2 h1;lia))]
  have hB2:SB κ a₀ pd1 (setArr st2 (List.foldl (fun a x=>a.setIfInBounds (sa+k+x.snd) x.fst) (arrOf st2) r.toList.zipIdx)):=by
   refine ⟨?_,k2'.k.trans jq.kind,hf,k2'.p.trans jq.pend⟩;show (List.foldl (fun a x=>a.setIfInBounds (sa+k+x.snd) x.fst) (arrOf st2) r.toList.zipIdx).Perm a₀;rw [iK];exact (G_ rl (by (clear rl hf iK hl h0 dO dM e2 e aQ rq eq ek rp ep bZ cG na1 h2 h1;lia)) rp').trans hB.perm
  generalize setArr st2 (List.foldl (fun a x=>a.setIfInBounds (sa+k+x.snd) x.fst) (arrOf st2) r.toList.zipIdx)=st3 at get hB2 ⊢;have out:∀j,¬(sa+k<=j/\j<sb+n2)->R rk (arrOf st3) j=R rk (arrOf st) j:=fun j hj=>eN (by rw [get j,if_neg hj])
  have mid:∀j,sa+k<=j->j<sb+n2 -> ∃j0,sa+k<=j0/\j0<sb+n2/\R rk (arrOf st3) j=R rk (arrOf st) j0:=fun j j1 j2=>by
   have e:=get j;rw [if_pos ⟨j1,j2⟩,List.getElem?_eq_getElem (by (clear e j1 hf iK hl h0 dO dM e2 aQ l1 rq eq k1 rp ep bZ sz hz cG na1 h2 h1;lia))] at e;have hm:r.toList[j - (sa+k)]'(by (clear e j1 hf iK hl h0 dO dM e2 aQ l1 rq eq k1 rp ep bZ sz hz cG na1 h2 h1;lia))∈((arrOf st).toList.drop (sa+k)).take (sb - (sa+k)+n2):=rp'.mem_iff.mp (List.getElem_mem _);obtain ⟨j0,a1,a2,a3⟩:=gG (rk:=rk) hm;exact ⟨sa+k+j0,by (clear a3 a2 a1 e j1 hf iK hl h0 dO dM e2 aQ l1 rq eq k1 rp ep bZ sz hz cG na1 h2 h1;lia),by (clear a3 a2 e j1 hf iK hl h0 dO dM e2 aQ l1 rq eq k1 rp ep bZ sz hz cG na1 h2 h1;lia),by rw [rK e,a3]⟩
  refine wpS_pure (h st3 hB2 (fun j hj=>by rw [get j,if_neg (by (clear rl hf iK hl h0 dO dM e2 e aQ rq eq ek k1 rp ep bZ sz hz cG na1 hsb h2 h1;lia))]) fun i j a b c=> ?_)
  by_cases i1:i<sa+k
  ·have ei:=MK (k2 (i - sa) (by (clear c b rl hf iK hl h0 dO dM e2 e aQ l1 rq eq ek k1 rp ep bZ sz hz cG na1 hsb h2 h1;lia)))
   rw [show sa+(i - sa)=i by (clear ei i1 c b rl hf iK hl h0 dO dM e2 e aQ l1 rq eq ek k1 rp ep bZ sz hz cG na1 hsb h2 h1;lia),←rp] at ei;rw [out i (by (clear ei c b a rl hf iK hl h0 dO dM e2 e aQ l1 rq eq ek k1 rp ep bZ sz hz cG na1 hsb h2 h1;lia))]
   have key:∀j0,sa+k<=j0->j0<sb+nb->R rk (arrOf st) i<=R rk (arrOf st) j0:=fun j0 b1 b2=>by
    by_cases c:j0<sb
    ·exact s1 i j0 a (by (clear c b2 ei b a rl hf iK hl h0 dO dM e2 e aQ l1 rq eq ek k1 rp ep bZ sz hz cG na1 hsb h2 h1;lia)) (by (clear b2 b1 ei i1 b a rl hf iK hl h0 dO dM e2 e aQ l1 rq eq ek k1 rp ep bZ sz hz cG na1 h2 h1;lia))
    ·have:=s2 sb j0 (Nat.le_refl _) (by (clear b2 b1 ei i1 b a rl hf iK hl h0 dO dM e2 e aQ l1 rq eq ek k1 rp ep bZ sz hz cG na1 hsb h2 h1;lia)) b2;(clear c b2 b1 i1 b a rl hf iK hl h0 dO dM e2 e aQ l1 rq eq ek k1 rp ep bZ sz hz cG na1 hsb h2 h1;lia)
   by_cases j1:sa+k<=j/\j<sb+n2
   ·obtain ⟨j0,b1,b2,b3⟩:=mid j j1.1 j1.2
    rw [b3];exact key j0 b1 (by (clear b3 b1 j1 ei i1 c b a rl hf iK hl h0 dO dM e2 e aQ rq eq ek k1 rp ep bZ sz hz cG na1 hsb h2 h1;lia))
   ·rw [out j j1]
    by_cases j2:j<sa+k
    ·exact s1 i j a b (by (clear j1 ei i1 c b a rl hf iK hl h0 dO dM e2 e aQ l1 rq eq ek rp ep bZ sz hz cG na1 hsb h2 h1;lia))
    ·exact key j (by (clear j1 ei i1 c b a rl hf iK hl h0 dO dM e2 e aQ l1 rq eq ek k1 rp ep bZ sz hz cG na1 hsb h2 h1;lia)) c
  ·by_cases i2:i<sb+n2
   ·by_cases j2:j<sb+n2
    ·have e1:=get i
     have e2:=get j;rw [if_pos ⟨by (clear e2 e1 j2 i2 c b a rl hf iK hl h0 dO dM e aQ l1 rq eq ek k1 rp ep bZ sz hz cG na1 hsb h2 h1;lia),i2⟩,List.getElem?_eq_getElem (by (clear e2 e1 j2 i1 c b a hf iK hl h0 dO dM e aQ l1 rq eq ek k1 rp ep bZ sz hz cG na1 hsb h2 h1;lia))] at e1;rw [if_pos ⟨by (clear e2 e1 j2 i2 c a rl hf iK hl h0 dO dM e aQ l1 rq eq ek k1 rp ep bZ sz hz cG na1 hsb h2 h1;lia),j2⟩,List.getElem?_eq_getElem (by (clear e2 e1 i2 i1 c b a hf iK hl h0 dO dM e aQ l1 rq eq ek k1 rp ep bZ sz hz cG na1 hsb h2 h1;lia))] at e2;rw [rK e1,rK e2]
     by_cases eij:i=j
     ·subst eij;exact Nat.le_refl _
     ·exact List.pairwise_iff_getElem.mp mg.srt _ _ _ _ (by (clear e2 e1 j2 i2 c a rl hf iK hl h0 dO dM e aQ l1 rq eq ek k1 rp ep bZ sz hz cG na1 hsb h2 h1;lia))
    ·obtain ⟨i0,b1,b2,b3⟩:=mid i (by (clear j2 i2 c b a rl hf iK hl h0 dO dM e2 e aQ l1 rq eq ek k1 rp ep bZ sz hz cG na1 hsb h2 h1;lia)) i2
     rw [b3,out j (by (clear b3 b2 b1 i2 i1 c b a rl hf iK hl h0 dO dM e2 e aQ l1 rq eq ek k1 rp ep bZ sz hz cG na1 hsb h2 h1;lia))]
     by_cases c':i0<sb
     ·have e1:=s1 i0 (sb - 1) (by (clear c' b3 b2 j2 i2 i1 c b a rl hf iK hl h0 dO dM e2 e aQ l1 rq eq ek k1 rp ep bZ sz hz cG na1 hsb h2 h1;lia)) (by (clear b3 b2 b1 j2 i2 i1 c b a rl hf iK hl h0 dO dM e2 e aQ l1 rq eq ek k1 rp ep bZ sz hz cG na1 hsb h2 h1;lia)) (by (clear c' b3 b2 b1 j2 i2 i1 c b a rl hf iK hl h0 dO dM e2 e aQ l1 rq eq ek k1 rp ep bZ sz hz cG h2 h1;lia))
      have e2:=yR (l3 (j - sb) (by (clear e1 c' b3 b2 b1 i2 i1 c b a rl hf iK hl h0 dO dM e2 e aQ l1 rq eq ek k1 rp ep bZ sz hz cG na1 hsb h2 h1;lia)) (by (clear e1 c' b3 b2 b1 j2 i2 i1 b a rl hf iK hl h0 dO dM e2 e aQ l1 rq eq ek k1 rp ep bZ sz hz na1 hsb h2 h1;lia)));rw [show sb+(j - sb)=j by (clear e2 e1 c' b3 b2 b1 i2 i1 c b a rl hf iK hl h0 dO dM e aQ l1 rq eq ek k1 rp ep bZ sz hz cG na1 hsb h2 h1;lia),←rq] at e2
      (clear c' b3 b2 b1 j2 i2 i1 c b a rl hf iK hl h0 dO dM e aQ l1 rq eq ek k1 rp ep bZ sz hz cG na1 hsb h2 h1;lia)
     ·exact s2 i0 j (by (clear b3 b2 b1 j2 i2 i1 c b a rl hf iK hl h0 dO dM e2 e aQ l1 rq eq ek k1 rp ep bZ sz hz cG na1 hsb h2 h1;lia)) (by (clear c' b3 b1 i2 i1 c b a rl hf iK hl h0 dO dM e2 e aQ l1 rq eq ek k1 rp ep bZ sz hz cG na1 hsb h2 h1;lia)) c
   ·rw [out i (by (clear i1 c b a rl hf iK hl h0 dO dM e2 e aQ l1 rq eq ek k1 rp ep bZ sz hz cG na1 hsb h2 h1;lia)),out j (by (clear i1 c a rl hf iK hl h0 dO dM e2 e aQ l1 rq eq ek k1 rp ep bZ sz hz cG na1 hsb h2 h1;lia))]
    exact s2 i j (by (clear i1 c b a rl hf iK hl h0 dO dM e2 e aQ l1 rq eq ek k1 rp ep bZ sz hz cG na1 hsb h2 h1;lia)) b c
 refine aP (fun _=> ?_) (fun _=> ?_)
 ·exact wpS_bind (wA C jq.kind xin yin (by (clear hl h0 dO e2 e aQ l1 rq eq k1 rp ep bZ sz hz cG na1 h2 h1;lia)) (by (clear hl h0 dM e2 e aQ l1 rq eq k1 rp ep bZ sz hz cG na1 hsb h2 h1;lia)) sx sy h0 hl fin)
 ·exact wpS_bind (wB C jq.kind xin yin (by (clear hl h0 dO e2 e aQ l1 rq eq ek k1 rp ep bZ sz hz cG na1 h2 h1;lia)) (by (clear hl h0 dM e aQ l1 rq eq ek k1 rp ep bZ sz hz cG na1 hsb h2 h1;lia)) sx sy h0 hl fin)
end
end Tim
set_option Elab.async false
set_option linter.all false
set_option maxRecDepth 100000
set_option maxHeartbeats 4000000
namespace Tim
open PySem PyProof.Rows
section
variable {prog:Program} {w:World} {A:Around} {E:Value->Shared->Prop} {s:Shared} {κ:SortKind} {a₀:Array Keyed} {rk:Value->Nat} {pd:Array (Nat×Nat×Nat)}
def Runs (rk:Value->Nat) (xs:Array Keyed):List (Nat×Nat×Nat)->Nat->Nat->Prop
 | [],a,e=>a=e
 | (s,n,_)::r,a,e=>s=a/\1<=n/\Seg rk xs a (a+n)/\Runs rk xs r (a+n) e
theorem Runs.le {xs:Array Keyed}:∀{l:List (Nat×Nat×Nat)} {a e:Nat},Runs rk xs l a e->a+l.length<=e
 | [],a,e,h=>Nat.le_of_eq h
 | (s,n,_)::r,a,e,h=>by
   have:=Runs.le h.2.2.2;have:=h.2.1;rw [List.length_cons];lia
theorem Runs.app {xs:Array Keyed} {r:List (Nat×Nat×Nat)}:∀{l:List (Nat×Nat×Nat)} {a e:Nat},Runs rk xs (l++r) a e ↔ ∃m,Runs rk xs l a m/\Runs rk xs r m e
 | [],a,e=>⟨fun h=>⟨a,rfl,h⟩,fun ⟨m,h1,h2⟩=>by
     have h1:a=m:=h1;subst h1;exact h2⟩
 | (s,n,_)::l,a,e=>by
   constructor
   ·rintro ⟨h1,h2,h3,h4⟩
    obtain ⟨m,m1,m2⟩:=Runs.app.mp h4;exact ⟨m,⟨h1,h2,h3,m1⟩,m2⟩
   ·rintro ⟨m,⟨h1,h2,h3,h4⟩,m2⟩
    exact ⟨h1,h2,h3,Runs.app.mpr ⟨m,h4,m2⟩⟩
theorem Runs.congr {xs ys:Array Keyed}:∀{l:List (Nat×Nat×Nat)} {a e:Nat},Runs rk xs l a e->(∀j,a<=j->j<e->R rk xs j=R rk ys j)->Runs rk ys l a e
 | [],a,e,h,_=>h
 | (s,n,_)::r,a,e,⟨h1,h2,h3,h4⟩,g=>by
   have le:=Runs.le h4;refine ⟨h1,h2,fun i j x y z=> ?_,Runs.congr h4 fun j x y=>g j (by (clear y le h2 h1;lia)) y⟩;rw [←g i x (by (clear x h2 h1;lia)),←g j (by (clear z le h2 h1;lia)) (by (clear y x h2 h1;lia))];exact h3 i j x y z
theorem Oq {α:Type} {l:List α} {i:Nat} (h:i+1<l.length):∃pre p q post,l=pre++p::q::post/\pre.length=i:=by
 refine ⟨l.take i,l[i],l[i+1],l.drop (i+2), ?_,by rw [List.length_take];lia⟩;rw [←List.drop_eq_getElem_cons,←List.drop_eq_getElem_cons,List.take_append_drop]
theorem lM {st:SortSt} {i e:Nat} {Q:Bool->SortSt->Prop} (C:Ax prog w A s κ a₀ rk) (hB:SB κ a₀ pd st) (hr:Runs rk (arrOf st) pd.toList 0 e) (he:e<=a₀.size) (hi:i+1<pd.size)
 (h:∀YD st',SB κ a₀ YD st'->Runs rk (arrOf st') YD.toList 0 e->YD.size+1=pd.size->(∀j,e<=j->(arrOf st')[j]? = (arrOf st)[j]?)->Q true st'):wpS (model prog w) A E s (mergeAt' i) Q st:=by
 obtain ⟨pre,⟨sa,na,pw⟩,⟨sb,nb,Yg⟩,post,el,pl⟩:=Oq (l:=pd.toList) (i:=i) (by rw [Array.length_toList];exact hi);rw [el] at hr;obtain ⟨m,r1,r2⟩:=Runs.app.mp hr;obtain ⟨e1,n1,s1,e2,n2,s2,r3⟩:=r2;subst e1;have fG:=Runs.le r3;have h1:pd[i]? = some (sa,na,pw):=by rw [←Array.getElem?_toList,el,List.getElem?_append_right (by (clear fG e2 n2 n1 el hi he;lia)),pl,Nat.sub_self];rfl
 have h2:pd[i+1]? = some (sb,nb,Yg):=by rw [←Array.getElem?_toList,el,List.getElem?_append_right (by (clear h1 fG e2 n2 n1 el hi he;lia)),pl,show i+1 - i=1 by (clear h1 fG e2 n2 n1 pl el hi he;lia)];rfl
 refine wC C hB h1 h2 e2 n1 n2 (by (clear h2 h1 n2 n1 pl el hi;lia)) s1 (by rw [e2];exact s2) fun st' hB' out seg=> ?_
 have ep:((pd.setIfInBounds i (sa,na+nb,pw)).eraseIdxIfInBounds (i+1)).toList=pre++(sa,na+nb,pw)::post:=by
  rw [Array.toList_eraseIdxIfInBounds,Array.toList_setIfInBounds,el,List.set_append_right _ _ (by (clear h2 h1 fG e2 n2 n1 el hi he;lia)),pl,Nat.sub_self];rw [List.eraseIdx_append_of_length_le (by (clear h2 h1 fG e2 n2 n1 el hi he;lia)),pl,show i+1 - i=1 by (clear h2 h1 fG e2 n2 n1 pl el hi he;lia)];rfl
 refine h _ st' hB' ?_ ?_ fun j hj=>out j (.inr (by (clear ep h2 h1 n2 n1 pl el hi he;lia)))
 ·rw [ep]
  refine Runs.app.mpr ⟨sa,r1.congr fun j _ j2=>eN (out j (.inl j2)).symm,rfl,by (clear ep h2 h1 fG e2 n2 pl el hi he;lia), ?_, ?_⟩
  ·rw [show sa+(na+nb)=sb+nb by (clear ep h2 h1 fG n2 n1 pl el hi he;lia)];exact seg
  ·rw [←Nat.add_assoc]
   exact r3.congr fun j j1 j2=>eN (out j (.inr (by (clear j2 ep h2 h1 fG n2 n1 pl el hi he;lia)))).symm
 ·rw [←Array.length_toList,ep,←Array.length_toList,el]
  simp only [List.length_append,List.length_cons]
  (clear ep h2 h1 fG e2 n2 n1 pl el hi he;lia)
theorem Runs.modify {xs:Array Keyed} {f:Nat×Nat×Nat->Nat×Nat×Nat} (hf:∀x,(f x).1=x.1/\(f x).2.1=x.2.1) (l:List (Nat×Nat×Nat)):∀(i a e:Nat),Runs rk xs l a e->Runs rk xs (l.modify i f) a e:=by
 induction l with
 | nil=>intro i a e h;cases i<;>exact h
 | cons t r ih=>
   obtain ⟨s,n,p⟩:=t;intro i a e h;obtain ⟨h1,h2,h3,h4⟩:=h;cases i with
   | zero=>
     rw [List.modify_zero_cons];have e2:=hf (s,n,p);rcases hfp:f (s,n,p) with ⟨s',n',p'⟩
     rw [hfp] at e2;obtain ⟨q1,q2⟩:=e2;have q1:s'=s:=q1;have q2:n'=n:=q2;rw [q1,q2];exact ⟨h1,h2,h3,h4⟩
   | succ i=>
     rw [List.modify_succ_cons];exact ⟨h1,h2,h3,ih i _ _ h4⟩
theorem wpS_sortRuns {st:SortSt} {Q:Unit->SortSt->Prop} (C:Ax prog w A s κ a₀ rk) (hB:SB κ a₀ #[] st) (h2:2<=a₀.size)
 (h:∀st',(arrOf st').Perm a₀->failedOf st'=none->Seg rk (arrOf st') 0 a₀.size->Q () st'):wpS (model prog w) A E s sortRuns' Q st:=by
 rw [sortRuns'_eq];refine wpS_bind (wpS_get ?_);dsimp only;simp only [hB.size];generalize minRun' a₀.size a₀.size 0=mr
 refine wpS_bind (wpS_mono (wpS_forRange (I:=fun x c st'=>∃lo pd,c=(none,lo)/\x<=lo/\lo<=a₀.size/\SB κ a₀ pd st'/\Runs rk (arrOf st') pd.toList 0 lo)
  (Q:=fun c st'=>∃pd,c=(none,a₀.size)/\SB κ a₀ pd st'/\Runs rk (arrOf st') pd.toList 0 a₀.size) ?step ?fin ⟨0, #[],rfl,by (clear h2;lia),by (clear h2;lia),hB,rfl⟩) ?post)
 case fin=>
  rintro c st' ⟨lo,pd,rfl,x1,x2,hB',hr⟩;have:lo=a₀.size:=by (clear h2;lia)
  subst this;exact ⟨pd,rfl,hB',hr⟩
 case step=>
  rintro x c st' _ hx ⟨lo,pd,rfl,x1,x2,hB',hr⟩;dsimp only;refine aP (fun ge=> ?_) (fun ge=> ?_)
  ·have:lo=a₀.size:=by (clear x1 hx h2;lia)
   subst this;exact wpS_pure ⟨pd,rfl,hB',hr⟩
  refine wpS_bind (wpS_countRun C (by (clear ge x1 hx h2;lia)) (by (clear x2 x1 hx h2;lia)) hB' fun m st2 hB2 kb2 m1 m2 hs2=> ?_);dsimp only;have hr2:=hr.congr (ys:=arrOf st2) fun j _ j2=>eN (kb2 j j2).symm;apply aP
  case' h1=>
   intro lt;refine wpS_bind (wpS_lift (wpAny_rule ⟨rfl, ?_⟩));refine wpS_bind (wpS_binarySort C (by (clear lt m2 m1 ge x1 hx h2;lia)) (by (clear m1 ge x2 x1 hx h2;lia)) hB2 hs2 fun st3 hB3 kb3 hs3=> ?_);simp only [Bool.not_true,Bool.false_eq_true,if_false];have T9:=hr2.congr (ys:=arrOf st3) fun j _ j2=>eN (kb3 j j2).symm;have n1:1<=min (a₀.size - lo) mr:=by (clear m2 m1 x2 x1 hx h2;lia)
   have n2:min (a₀.size - lo) mr<=a₀.size - lo:=by (clear n1 lt m2 m1 ge x2 x1 hx h2;lia)
   generalize min (a₀.size - lo) mr=n at hs3 n1 n2 ⊢
  case' h2=>
   intro lt;have T9:=hr2;have hB3:=hB2;have hs3:=hs2;have n1:=m1;have n2:=m2;revert T9 hB3 hs3;generalize st2=st3;revert n1 n2;generalize m=n;intro n1 n2 T9 hB3 hs3
  all_goals
   refine wpS_bind (wpS_get ?_)
   have done:∀jW jZ,SB κ a₀ jW jZ->Runs rk (arrOf jZ) jW.toList 0 lo->Seg rk (arrOf jZ) lo (lo+n)->wpS (model prog w) A E s (do
    modify fun s=>setPending s ((pendingOf s).push (lo,n,0))
    pure (ForInStep.yield ((none:Option Unit),lo+n))) (fun r st'=>match r with
     | ForInStep.done c'=>∃pd,c'=(none,a₀.size)/\SB κ a₀ pd st'/\Runs rk (arrOf st') pd.toList 0 a₀.size
     | ForInStep.yield c'=>∃lo pd,c'=(none,lo)/\x+1<=lo/\lo<=a₀.size/\SB κ a₀ pd st'/\Runs rk (arrOf st') pd.toList 0 lo) jZ:=by
    intro jW jZ n_ vM Qw;refine wpS_bind (wpS_modify (wpS_pure ⟨lo+n,jW.push (lo,n,0),rfl,by (clear n2 lt m2 m1 ge x2 hx h2;lia),by (clear n1 lt m2 m1 ge x1 hx h2;lia),⟨n_.perm,n_.kind,n_.failed,by show (pendingOf jZ).push _=_;rw [n_.pend]⟩, ?_⟩));rw [Array.toList_push];exact Runs.app.mpr ⟨lo,vM,rfl,n1,Qw,rfl⟩
   cases hb:(pendingOf st3).back? with
   | none=>exact done _ _ hB3 T9 hs3
   | some t=>
     obtain ⟨s1,ZK,pw⟩:=t;dsimp only;generalize power' a₀.size (2*s1+ZK) (2*s1+ZK+ZK+n) a₀.size=pwr
     refine wpS_bind (wpS_mono (wpS_forRange (I:=fun y c jZ=>∃jW,c=(none,())/\SB κ a₀ jW jZ/\Runs rk (arrOf jZ) jW.toList 0 lo/\Seg rk (arrOf jZ) lo (lo+n))
      (Q:=fun c jZ=>∃jW,c=(none,())/\SB κ a₀ jW jZ/\Runs rk (arrOf jZ) jW.toList 0 lo/\Seg rk (arrOf jZ) lo (lo+n)) ?_ (fun _ _ z=>z) ⟨_,rfl,hB3,T9,hs3⟩) ?_)
     ·rintro y c jZ _ hy ⟨jW,rfl,n_,vM,Qw⟩
      refine wpS_bind (wpS_get ?_);rw [n_.pend];cases hg:(if jW.size>1 then jW[jW.size - 2]? else none) with
      | none=>exact wpS_pure ⟨jW,rfl,n_,vM,Qw⟩
      | some t=>
        obtain ⟨f1,f2,older⟩:=t;dsimp only
        have gt:jW.size>1:=by
         by_cases g:jW.size>1
         ·exact g
         ·rw [if_neg g] at hg;cases hg
        refine aP (fun _=> ?_) (fun _=> ?_)
        ·exact wpS_pure ⟨jW,rfl,n_,vM,Qw⟩
        ·refine wpS_bind (lM C n_ vM x2 (by (clear hg hy hb n2 n1 lt m2 m1 ge x2 x1 hx h2;lia)) fun YC wu hB5 hr5 _ Tc=> ?_)
         simp only [Bool.not_true,Bool.false_eq_true,if_false];refine wpS_pure ⟨YC,rfl,hB5,hr5,fun i j a b c=> ?_⟩;rw [eN (Tc i a),eN (Tc j (by (clear c gt hg hy hb n2 n1 lt m2 m1 ge x2 x1 hx h2;lia)))];exact Qw i j a b c
     ·rintro c jZ ⟨jW,rfl,n_,vM,Qw⟩
      dsimp only;refine wpS_bind (wpS_modify ?_);refine done _ _ ⟨n_.perm,n_.kind,n_.failed,rfl⟩ ?_ Qw;rw [←n_.pend] at vM;rw [Array.toList_modify];refine Runs.modify (fun x=> ?_) _ _ _ _ vM;exact ⟨rfl,rfl⟩
 case post=>
  rintro c st' ⟨pd,rfl,hB',hr⟩;dsimp only;have le:=Runs.le hr;rw [Array.length_toList] at le
  refine wpS_bind (wpS_mono (wpS_forRange (I:=fun y c jZ=>∃jW,c=(none,())/\SB κ a₀ jW jZ/\Runs rk (arrOf jZ) jW.toList 0 a₀.size/\jW.size<=max 1 (a₀.size - y))
   (Q:=fun c jZ=>∃jW,c=(none,())/\SB κ a₀ jW jZ/\Runs rk (arrOf jZ) jW.toList 0 a₀.size/\jW.size<=1) ?_ ?_ ⟨pd,rfl,hB',hr,by (clear h2;lia)⟩) ?_)
  ·rintro y c jZ _ hy ⟨jW,rfl,n_,vM,Tz⟩
   refine wpS_bind (wpS_get ?_);rw [n_.pend];refine aP (fun l1=> ?_) (fun l1=> ?_)
   ·exact wpS_pure ⟨jW,rfl,n_,vM,l1⟩
   ·have hix:∀(c:Prop) [Decidable c],(if c then jW.size - 2 - 1 else jW.size - 2)+1<jW.size:=by
     intro c _;split<;>(clear Tz hy le h2;lia)
    refine wpS_bind (lM C n_ vM (Nat.le_refl _) (hix _) fun YC wu hB5 hr5 z5 _=> ?_);simp only [Bool.not_true,Bool.false_eq_true,if_false];exact wpS_pure ⟨YC,rfl,hB5,hr5,by (clear l1 hy le h2;lia)⟩
  ·rintro c jZ ⟨jW,rfl,n_,vM,Tz⟩
   exact ⟨jW,rfl,n_,vM,by (clear le h2;lia)⟩
  ·rintro c jZ ⟨jW,rfl,n_,vM,Tz⟩
   refine wpS_pure (h jZ n_.perm n_.failed ?_);have ll:jW.toList.length<=1:=by rw [Array.length_toList];exact Tz
   match hl:jW.toList,ll,vM with
   | [],_,vM=>have:0=a₀.size:=vM;(clear hl ll Tz le;lia)
   | [(s,n,p)],_,vM=>
     obtain ⟨_,_,hs,e⟩:=vM;have e:0+n=a₀.size:=e;rw [e] at hs;exact hs
end
end Tim
set_option Elab.async false
set_option linter.all false
set_option maxRecDepth 100000
set_option maxHeartbeats 4000000
namespace Tim
open PySem PyProof.Rows
section
variable {prog:Program} {w:World} {A:Around} {E:Value->Shared->Prop} {s:Shared} {κ:SortKind} {rk:Value->Nat}
theorem Pu {vs:List Value} {xs:Array Keyed} (hp:xs.Perm (pairsOf vs)) (hs:Seg rk xs 0 (pairsOf vs).size):(xs.map (·.2)).toList.Perm vs/\(xs.map (·.2)).toList.Pairwise (fun x y=>rk x<=rk y):=by
 have hl:xs.toList.Perm (vs.zip vs):=by rw [←pairsOf_toList];exact Array.perm_iff_toList_perm.mp hp
 have hmem:∀p,p∈xs.toList->p.1=p.2:=fun p hp'=>(mem_zip_self (hl.mem_iff.mp hp')).1
 have e:(xs.map (·.2)).toList=xs.toList.map (·.1):=by
  rw [Array.toList_map];exact List.map_congr_left fun p hp'=>(hmem p hp').symm
 rw [e];constructor
 ·have:=hl.map Prod.fst
  rwa [List.map_fst_zip (Nat.le_refl _)] at this
 ·rw [List.pairwise_map,List.pairwise_iff_getElem]
  intro i j hi hj hij;rw [Array.length_toList] at hi hj;have:=hs i j (Nat.zero_le _) (Nat.le_of_lt hij) (by rw [←hp.size_eq];exact hj);rw [fZ hi,fZ hj] at this;simpa using this
theorem sU {a:Addr} {vs:List Value} {n:Nat} {P:PySem.Fin->Shared->Prop} (ho:s.heap.get? a=some (seqObj "list" vs.toArray n)) (hz:vs.length<=sizeLine)
 (hk:2<=vs.length -> ∀h':Heap,(∀b o,b≠a->s.heap.get? b=some o->h'.get? b=some o)->(∀(Q:SortKind->Shared->Prop) (E:Value->Shared->Prop),Q κ {s with heap:=h'}->wpAny (model prog w) A (keyKind' vs.toArray) Q E {s with heap:=h'})/\Ax prog w A {s with heap:=h'} κ (pairsOf vs) rk)
 (h:∀out:List Value,out.Perm vs->out.Pairwise (fun x y=>rk x<=rk y)->P (.done (.ret .none)) {s with heap:=sortedHeap s.heap a vs out.toArray}):
 wpAny (model prog w) A (Builtin.«list.sort» ⟨[.ref a],[]⟩) P E s:=by
 rw [list_sort_plain];have ha:a<s.heap.objs.size:=Heap.lt_size ho;refine wpAny_bind (listItems_at ho rfl ?_);refine wpAny_bind (listUpdate_at ho rfl ?_ (by rw [List.size_toArray];exact hz) (Nat.zero_le _));obtain ⟨e1,ho1⟩:∃e1,(s.heap.update a (Obj.mapSeq fun _=> #[])).get? a=some (seqObj "list" #[] e1):=⟨_,get?_update_seq ho (fun _=> #[])⟩;refine wpAny_bind (seqEpoch_at ho1 rfl ?_);refine wpAny_bind (wpAny_newTuple ?_ (by show vs.length<=_;exact hz));refine wpAny_bind (wpAny_newList ?_ (Nat.zero_le _));refine wpAny_holding ?_
 have keep:∀b o,b≠a->s.heap.get? b=some o->(((s.heap.update a (Obj.mapSeq fun _=> #[])).push (seqObj "tuple" vs.toArray 0)).push (seqObj "list" #[] 0)).get? b=some o:=fun b o nb e=>by
  refine Heap.get?_push_of_some _ (Heap.get?_push_of_some _ ?_);rw [Heap.get?_update_ne _ _ _ _ nb];exact e
 have ho6:(((s.heap.update a (Obj.mapSeq fun _=> #[])).push (seqObj "tuple" vs.toArray 0)).push (seqObj "list" #[] 0)).get? a=some (seqObj "list" #[] e1):=Heap.get?_push_of_some _ (Heap.get?_push_of_some _ ho1);show wpAny (model prog w) A _ P E {s with heap:=((s.heap.update a (Obj.mapSeq fun _=> #[])).push (seqObj "tuple" vs.toArray 0)).push (seqObj "list" #[] 0)};dsimp only;have hsz:vs.toArray.size=vs.length:=by simp
 have fin:∀st':SortSt,(arrOf st').Perm (pairsOf vs)->Seg rk (arrOf st') 0 (pairsOf vs).size ->
  P (.done (.ret .none)) {s with heap:=sortedHeap s.heap a vs ((arrOf st').map (·.2))}:=by
  intro st' hp hs;obtain ⟨h1,h2⟩:=Pu hp hs;have:=h _ h1 h2;rwa [Array.toArray_toList] at this
 by_cases h2:vs.toArray.size<2
 ·rw [if_pos h2,if_pos h2]
  refine wpAny_bind (wpAny_pure ?_);rw [StateT.run_pure];refine wpAny_bind (wpAny_pure ?_);dsimp only;refine wpAny_bind (seqEpoch_at ho6 rfl ?_);refine wpAny_bind (listUpdate_at ho6 rfl ?_ (Nat.zero_le _) (by rw [Array.size_map];show (pairsOf vs).size<=_;rw [pairsOf_size];omega));simp only [bne_self_eq_false,Bool.false_eq_true,if_false];refine wpAny_pure (fin (SortSt.mk' general' (vs.toArray.zip vs.toArray) #[] 7 none) (Array.Perm.refl _) ?_);intro i j _ hij hj;have:i=j:=by rw [pairsOf_size] at hj;omega
  subst this;exact Nat.le_refl _
 ·rw [if_neg h2,if_neg h2]
  obtain ⟨kk,kc⟩:=hk (by omega) _ keep;refine wpAny_bind (kk _ _ ?_)
  refine wpAny_bind (wpAny_mono (wpS_sortRuns (a₀:=pairsOf vs) (rk:=rk) (st:=SortSt.mk' κ (vs.toArray.zip vs.toArray) #[] 7 none)
   (Q:=fun _ st'=>(arrOf st').Perm (pairsOf vs)/\failedOf st'=none/\Seg rk (arrOf st') 0 (pairsOf vs).size)
   kc ⟨Array.Perm.refl _,rfl,rfl,rfl⟩ (by rw [pairsOf_size];omega) fun st' a1 a2 a3=>⟨a1,a2,a3⟩) ?_ fun _ _ e=>e)
  rintro ⟨⟨⟩,st'⟩ s' ⟨rfl,hp,hf,hs⟩;dsimp only;refine wpAny_bind (seqEpoch_at ho6 rfl ?_);refine wpAny_bind (listUpdate_at ho6 rfl ?_ (Nat.zero_le _) (Nat.le_trans (Nat.le_of_eq ((Array.size_map ..).trans (hp.size_eq.trans (pairsOf_size _)))) (Nat.le_succ_of_le hz)));rw [hf];simp only [bne_self_eq_false,Bool.false_eq_true,if_false];exact wpAny_pure (fin st' hp hs)
end
section
theorem uD {α:Type} {p q:α->Bool} {u:α}:∀{l:List α},u∈l->q u=true->p u=false->(∀x,p x=true->q x=true)->l.countP p<l.countP q
 | [],hm,_,_,_=>by simp at hm
 | x::l,hm,hq,hp,hi=>by
   have mono:l.countP p<=l.countP q:=List.countP_mono_left fun x _=>hi x;rw [List.countP_cons,List.countP_cons];rcases List.mem_cons.mp hm with rfl|hm
   ·rw [hq,hp];simp;omega
   ·have:=uD hm hq hp hi
    cases e:p x with
    | true=>rw [hi x e];simp;omega
    | false=>simp;omega
def j7 {α:Type} (L:α->α->Bool) (vs:List α) (v:α):Nat:=vs.countP fun u=>L u v
structure Swo {α:Type} (L:α->α->Bool):Prop where
 irr:∀a,L a a=false
 tr:∀a b c,L a b=true->L b c=true->L a c=true
 ntr:∀a b c,L a b=false->L b c=false->L a c=false
theorem Br {α:Type} {L:α->α->Bool} (S:Swo L) {vs:List α} {u v:α} (hu:u∈vs):decide (j7 L vs u<j7 L vs v)=L u v:=by
 cases e:L u v with
 | true=>exact decide_eq_true (uD hu e (S.irr u) fun x hx=>S.tr x u v hx e)
 | false=>
   refine decide_eq_false fun z=> ?_
   have:j7 L vs v<=j7 L vs u:=List.countP_mono_left fun x _ hx=>by
    cases e':L x u with
    | true=>rfl
    | false=>rw [S.ntr x u v e' e] at hx;cases hx
   omega
theorem Kz {α:Type} {L:α->α->Bool} (S:Swo L) {vs:List α} {u v:α} (hv:v∈vs) (h:j7 L vs u<=j7 L vs v):L v u=false:=by
 have:=Br S (u:=v) (v:=u) hv;rw [←this];exact decide_eq_false (by omega)
def jK:List Int->List Int->Bool
 | _,[]=>false
 | [],_::_=>true
 | a::as,b::bs=>if a=b then jK as bs else decide (a<b)
theorem xU (a:List Int):jK a []=false:=by cases a<;>rfl
theorem xV:∀a,jK a a=false
 | []=>rfl
 | a::as=>by unfold jK;rw [if_pos rfl];exact xV as
theorem Cd:∀a b c,jK a b=true->jK b c=true->jK a c=true
 | a,[],_,h,_=>by rw [xU] at h;cases h
 | [],_::_,[],_,h=>by cases h
 | [],_::_,_::_,_,_=>rfl
 | _::_,_::_,[],_,h=>by cases h
 | a::as,b::bs,c::cs,h1,h2=>by
   unfold jK at h1 h2 ⊢
   by_cases e1:a=b
   ·rw [if_pos e1] at h1
    by_cases e2:b=c
    ·rw [if_pos e2] at h2
     rw [if_pos (e1.trans e2)];exact Cd as bs cs h1 h2
    ·rw [if_neg e2] at h2
     rw [if_neg (e1▸e2),e1];exact h2
   ·rw [if_neg e1] at h1
    have h1:=of_decide_eq_true h1
    by_cases e2:b=c
    ·rw [←e2,if_neg e1];exact decide_eq_true h1
    ·rw [if_neg e2] at h2
     have h2:=of_decide_eq_true h2;rw [if_neg (by omega)];exact decide_eq_true (by omega)
theorem xT:∀a b c,jK a b=false->jK b c=false->jK a c=false
 | a,_,[],_,_=>xU a
 | [],[],_::_,_,h=>by cases h
 | [],_::_,_::_,h,_=>by cases h
 | _::_,[],_::_,_,h=>by cases h
 | a::as,b::bs,c::cs,h1,h2=>by
   unfold jK at h1 h2 ⊢
   by_cases e1:a=b
   ·rw [if_pos e1] at h1
    by_cases e2:b=c
    ·rw [if_pos e2] at h2
     rw [if_pos (e1.trans e2)];exact xT as bs cs h1 h2
    ·rw [if_neg e2] at h2
     rw [if_neg (e1▸e2),e1];exact h2
   ·rw [if_neg e1] at h1
    have h1:=of_decide_eq_false h1
    by_cases e2:b=c
    ·rw [←e2,if_neg e1];exact decide_eq_false h1
    ·rw [if_neg e2] at h2
     have h2:=of_decide_eq_false h2;rw [if_neg (by omega)];exact decide_eq_false (by omega)
theorem Bc {α:Type} (key:α->List Int):Swo fun a b=>jK (key a) (key b):=⟨fun a=>xV _,fun a b c=>Cd _ _ _,fun a b c=>xT _ _ _⟩
end
end Tim
set_option Elab.async false
set_option linter.all false
set_option maxRecDepth 100000
set_option maxHeartbeats 4000000
namespace L2
open PySem PySem.Spec PyProof.Rows PySem.W
section
variable {X:Cx}
def keyOf (h:Heap):Value->List Int
 | .int n _=>[n]
 | .ref a=>match h.get? a with
   | some o=>match o.data with
     | .seq xs _=>xs.toList.map numOf
     | _=>[]
   | none=>[]
 | _=>[]
theorem Ca {prog:Program} {w:World} {A:Around} {s:Shared} {Q:Bool->Shared->Prop}:∀(xs ys:List Value) (ns ms:List Int) (i:Nat),IntsAre xs ns->IntsAre ys ms -> ∀(fin:Bool),(ns.length=ms.length->fin=false)->ns.length=ms.length->Q (Tim.jK ns ms) s->KatLex prog w A true fin Q (xs.zip ys) i s
 | _,_,[],[],i,.nil,.nil,fin,hf,_,h=>by
   show Q fin s;rw [hf rfl];exact h
 | _,_,_::_,[],_,_,_,_,_,hl,_=>by cases hl
 | _,_,[],_::_,_,_,_,_,_,hl,_=>by cases hl
 | _,_,n::ns,m::ms,i,.cons _ t hx,.cons _ u hy,fin,hf,hl,h=>by
   rw [List.zip_cons_cons];refine kat_cons (wpAny_eqBool_int ?_);have hl':ns.length=ms.length:=by simpa using hl
   by_cases e:n=m
   ·subst e
    rw [show (n==n)=true by simp];refine kat_yes (Ca _ _ ns ms (i+1) hx hy fin (fun z=>hf (by simpa using z)) hl' ?_);unfold Tim.jK at h;rwa [if_pos rfl] at h
   ·rw [show (n==m)=false by simpa using e]
    unfold Tim.jK at h;rw [if_neg e] at h;refine kat_no ?_;cases (true&&i==0) with
    | true=>exact oneLt_int h
    | false=>exact kat_one _ _ (lt_int (show W.BoolBack Q (.bool (decide (n<m))) s from h))
theorem lD {h:Heap} {a:Addr} {its:List Value} {ns:List Int} (ht:IsTup h a its.toArray) (hi:IntsAre its ns):keyOf h (.ref a)=ns:=by
 obtain ⟨o,e,_,n,d⟩:=ht
 show (match h.get? a with
  | some o=>match o.data with
    | .seq xs _=>xs.toList.map numOf
    | _=>[]
  | none=>[])=ns
 rw [e];dsimp only;rw [d];dsimp only;exact hi.nums
def C_ (h:Heap) (k:Nat) (vs:List Value):Prop:=∀v∈vs,∃a its ns,v = .ref a/\IsTup h a its.toArray/\IntsAre its ns/\ns.length=k
theorem Gx {prog:Program} {w:World} {A:Around} {s:Shared} {vs:List Value} {k:Nat} {h0:Heap} (T:C_ h0 k vs) (kp:∀b o,h0.get? b=some o->s.heap.get? b=some o):
 Tim.Ax prog w A s (tuples' true) (pairsOf vs) (Tim.j7 (fun a b=>Tim.jK (keyOf h0 a) (keyOf h0 b)) vs):=by
 refine ⟨fun p hp q hq E Q h=> ?_⟩;rw [pairsOf_toList] at hp hq;obtain ⟨_,mp⟩:=mem_zip_self hp;obtain ⟨_,mq⟩:=mem_zip_self hq;rw [Tim.Br (Tim.Bc (keyOf h0)) mp] at h;obtain ⟨a,its,ns,ep,ta,ia,la⟩:=T _ mp;obtain ⟨b,jts,ms,eq,tb,ib,lb⟩:=T _ mq;rw [ep,eq] at h ⊢;rw [lD ta ia,lD tb ib] at h;obtain ⟨oa,ea,ca,n1,da⟩:=ta;obtain ⟨ob,eb,cb,n2,db⟩:=tb;have l1:its.length=ns.length:=ia.length;have l2:jts.length=ms.length:=ib.length;refine kat_lt (kp _ _ ea) da (kp _ _ eb) db ?_;have e1:its.toArray.toList=its:=by simp
 have e2:jts.toArray.toList=jts:=by simp
 rw [e1,e2];exact Ca its jts ns ms 0 ia ib _ (fun z=>decide_eq_false (by rw [List.size_toArray,List.size_toArray];omega)) (by omega) h
theorem oM {h0 h1:Heap} {k:Nat} (hk:1<=k) (kp:∀b o,h0.get? b=some o->h1.get? b=some o):∀{vs:List Value},C_ h0 k vs -> ∃fs,KatTups h1 vs fs/\fs.length=vs.length /\ ∀f∈fs,∃n t,f=Value.int n t
 | [],_=>⟨[],trivial,rfl,fun _ z=>absurd z (by simp)⟩
 | v::vs,T=>by
   obtain ⟨fs,t1,t2,t3⟩:=oM hk kp (vs:=vs) fun u hu=>T u (List.mem_cons_of_mem _ hu);obtain ⟨a,its,ns,rfl,⟨o,e,c,n,d⟩,ia,la⟩:=T v (List.mem_cons_self ..)
   match its,ns,ia,la,d with
   | _,_,.nil,la,d=>simp at la;omega
   | _,_,.cons m t r,la,d=>
     refine ⟨_::fs,KatTups.cons (kp _ _ e) c d rfl t1,by simp [t2],fun f hf=> ?_⟩;rcases List.mem_cons.mp hf with rfl|hf
     ·exact ⟨_,_,rfl⟩
     ·exact t3 f hf
theorem Di {prog:Program} {w:World} {A:Around} {s:Shared} {vs:List Value} {k:Nat} {h0:Heap} {Q:SortKind->Shared->Prop} {E:Value->Shared->Prop} (hk:1<=k) (T:C_ h0 k vs) (hv:2<=vs.length) (kp:∀b o,h0.get? b=some o->s.heap.get? b=some o)
 (h:Q (tuples' true) s):wpAny (model prog w) A (keyKind' vs.toArray) Q E s:=by
 obtain ⟨fs,t1,t2,t3⟩:=oM hk kp T;refine kat_kind (T:= .type "int") t1 (by omega) (fun v hv=> ?_) rfl h;obtain ⟨n,t,rfl⟩:=t3 v hv;exact .now
theorem n6:∀{ns:List Int} {vs:List Value},Vals (ns.map V.int) vs->IntsAre vs ns
 | [],_,.nil=> .nil
 | n::ns,_,.cons ⟨t,e⟩ r=>by subst e;exact .cons n t (n6 r)
end
end L2
set_option Elab.async false
set_option linter.all false
set_option maxRecDepth 100000
set_option maxHeartbeats 4000000
namespace L2
open PySem PySem.Spec PyProof.Rows
section
variable {prog:Program} {w:World} {A:Around} {E:Value->Shared->Prop} {s:Shared} {it d:Addr} {ep:Nat} {od:Obj} {es:Array DictEntry}
theorem z6 {Q:Value->Shared->Prop} (nsm:(d==sysModules)=false) (ho:s.heap.get? d=some od) (hx:od.ExactDict) (he:od.data = .dict es ep)
 (k:Q (.ref s.heap.objs.size) {s with heap:=s.heap.push {cls:= .type "dict_keyiterator",data:= .fields #[.ref d,.int 0 0,.int es.size 0,.int ep 0]}}):wpAny (model prog w) A (pyIter (.ref d)) Q E s:=by
 have ty:s.TypeIs (.ref d) "dict" :=⟨od,ho,hx.1⟩
 refine wpAny_pyIter_slot ty F.slot_dict_iter (wpAny_call_entry F.slot_dict_iter ty F.entry_dict_iter (by
  unfold Builtin.«dict.__iter__» Builtin.Dict.dictSlotNone;refine wpAny_bind (wpAny_bind (wpAny_notOrdered_dict ty ?_));show wpAny _ _ (pure (Value.ref d)) _ _ s;refine wpAny_pure ?_;show wpAny _ _ (Builtin.Dict.showsAll d >>= _) _ _ s;unfold Builtin.Dict.showsAll;rw [nsm];rw [if_neg Bool.false_ne_true];refine wpAny_bind (wpAny_pure (wpAny_bind (wpAny_dictEntries ho he (wpAny_bind (wpAny_dictEpoch ho he (wpAny_bind (wpAny_newObj_type (wpAny_pure ?_))))))));exact ⟨_,rfl,"dict_keyiterator",_,⟨_,Heap.get?_push_size _ rfl,rfl⟩,F.slot_dict_keyiterator_next.lookup,by simpa [rawInt] using k⟩) (F.args_dict_iter_1 _))
theorem En {i:Nat} {Q:Option Value->Shared->Prop} (st:s.heap.IsKeyIter it d i es.size ep) (ho:s.heap.get? d=some od) (he:od.data = .dict es ep) (hi:i<es.size)
 (k:∀h',h'.IsKeyIter it d (i+1) es.size ep->Heap.SameBut it s.heap h'->Q (some es[i].key) {s with heap:=h'}):wpAny (model prog w) A (pyNext (.ref it)) Q E s:=by
 obtain ⟨oi,hoi,ci,di⟩:=id st;have ty:=st.typeIs;have Ec:Builtin.Dict_items.ownsTuple "dict_keyiterator" = false:=by decide
 have Qd:¬((i:Int)<0):=by omega
 have st':(s.heap.update it (Obj.mapFields (·.setIfInBounds 1 (rawInt ((i:Int)+1))))).IsKeyIter it d (i+1) es.size ep:=
  ⟨_,Heap.get?_update_self _ hoi (Obj.isFreed_of_fields (Obj.data_mapFields di _)),by rw [Obj.cls_mapFields];exact ci,by rw [Obj.data_mapFields di];simp [rawInt]⟩
 unfold pyNext
 refine wpAny_bind (wpAny_attempt (wpAny_callSpecial?_slot (name:=Str.ofString "__next__") ty F.slot_dict_keyiterator_next (wpAny_call_entry F.slot_dict_keyiterator_next ty F.entry_dict_keyiterator_next (by
  refine wpAny_bind (wpAny_pure (wpAny_bind (wpAny_bind ?_)));refine wpAny_bind (wpAny_typeNameOfWhole_keyiter ty (wpAny_pure (wpAny_bind (wpAny_fieldsOf hoi di ?_))));rw [Ec];simp only [Bool.false_eq_true,if_false];show wpAny _ _ (if (Value.ref d==Value.none)=true then _ else _) _ _ s;rw [show (Value.ref d==Value.none)=false from rfl];rw [if_neg Bool.false_ne_true];refine wpAny_bind (wpAny_pure (wpAny_bind (wpAny_dictEntries ho he ?_)));rw [if_neg (by simp)];refine wpAny_bind (wpAny_pure (wpAny_bind (wpAny_dictEpoch ho he ?_)));rw [if_neg (by simp)];refine wpAny_pure ?_;simp only [Qd,if_false,Int.toNat_natCast,Array.getElem?_eq_getElem hi];refine wpAny_bind (wpAny_bind (wpAny_typeNameOfWhole_keyiter ty (wpAny_pure (wpAny_bind (wpAny_isOneOf_keyiter ty ?_)))));show wpAny _ _ (setField (.ref it) 1 (rawInt ((i:Int)+1)) >>= _) _ _ s;refine wpAny_bind (wpAny_setField hoi di (by simp) ?_);refine wpAny_bind (wpAny_holding (wpAny_bind (wpAny_isOneOf_keyiter (s:={s with heap:=s.heap.update it (Obj.mapFields (·.setIfInBounds 1 (rawInt ((i:Int)+1))))}) st'.typeIs ?_)));show wpAny _ _ (pure es[i].key) _ _ _;exact wpAny_pure (wpAny_pure ⟨_,rfl,wpAny_pure (k _ st' (Heap.SameBut.update ..))⟩)) (F.args_dict_keyiterator_next_1 _))))
theorem Iv {i:Nat} {Q:Option Value->Shared->Prop} (calm:A.handled=none) (st:s.heap.IsKeyIter it d i es.size ep) (ho:s.heap.get? d=some od) (he:od.data = .dict es ep) (hi:es.size<=i)
 (k:∀h',Heap.ExtBut it s.heap h'->Q none {s with heap:=h'}):wpAny (model prog w) A (pyNext (.ref it)) Q E s:=by
 obtain ⟨oi,hoi,ci,di⟩:=id st;have ty:=st.typeIs;have Ec:Builtin.Dict_items.ownsTuple "dict_keyiterator" = false:=by decide
 have Qd:¬((i:Int)<0):=by omega
 unfold pyNext
 refine wpAny_bind (wpAny_attempt (wpAny_callSpecial?_slot (name:=Str.ofString "__next__") ty F.slot_dict_keyiterator_next (wpAny_call_entry F.slot_dict_keyiterator_next ty F.entry_dict_keyiterator_next (by
  refine wpAny_bind (wpAny_pure (wpAny_bind (wpAny_bind ?_)));refine wpAny_bind (wpAny_typeNameOfWhole_keyiter ty (wpAny_pure (wpAny_bind (wpAny_fieldsOf hoi di ?_))));rw [Ec];simp only [Bool.false_eq_true,if_false];show wpAny _ _ (if (Value.ref d==Value.none)=true then _ else _) _ _ s;rw [show (Value.ref d==Value.none)=false from rfl];rw [if_neg Bool.false_ne_true];refine wpAny_bind (wpAny_pure (wpAny_bind (wpAny_dictEntries ho he ?_)));rw [if_neg (by simp)];refine wpAny_bind (wpAny_pure (wpAny_bind (wpAny_dictEpoch ho he ?_)));rw [if_neg (by simp)];refine wpAny_pure ?_;simp only [Qd,if_false,Int.toNat_natCast,Array.getElem?_eq_none hi];refine wpAny_bind (wpAny_bind (wpAny_typeNameOfWhole_keyiter ty (wpAny_pure ?_)));show wpAny _ _ (setField (.ref it) 0 .none >>= _) _ _ s;refine wpAny_bind (wpAny_setField hoi di (by simp) ?_);show wpAny _ _ (newExc (.type "StopIteration") [] >>= _) _ _ _;refine wpAny_bind ?_;simp only [newExc,newTuple];refine wpAny_bind (wpAny_newObj_type ?_ (by size_fits));refine wpAny_bind (m:=firstArgMember _ _) (wpAny_of_eq (a:=Value.none) (by first |rfl|(simp only [firstArgMember];rfl)) (wpAny_newObj_type ?_ (by size_fits)));simp only [raiseNew];refine wpAny_bind (wpAny_handled ?_);rw [show A.in1.handled=none from calm];refine wpAny_bind (wpAny_pure (wpAny_throw ?_));refine wpAny_bind (wpAny_isInstance (T:= "StopIteration") (b:=true) ⟨_,Heap.get?_push_size _ rfl,rfl⟩ isSubtype_stop ?_);exact wpAny_pure (k _ (((Heap.SameBut.update ..).extBut.push _).push _))) (F.args_dict_keyiterator_next_1 _))))
end
end L2
set_option Elab.async false
set_option linter.all false
set_option maxRecDepth 100000
set_option maxHeartbeats 4000000
namespace L2
open PySem PySem.Spec PyProof.Rows
section
variable {X:Cx} {pins:List (Addr×Obj)} {σ:St} {H:Hp} {s:Shared} {d:Addr}
theorem Ir {kvs:List (List Key×V)} {xs:List (List Key×Addr×Value)} {u v:HO} (r:KT H kvs xs) (e:H d=some u) (h1:∀ys,u ≠ .tup ys):KT (upd H d v) kvs xs:=by
 refine Paired.Qg r fun p q z=>⟨z.1, ?_,z.2.2⟩;have:q.2.1≠d:=fun w=>by rw [w,e] at z;exact h1 _ (Option.some.inj z.2.1)
 rw [bA this];exact z.2.1
theorem Inv.HY {kvs:List (List Key×V)} (I:Inv X pins σ H s) (e:H d=some (.dT kvs)):∀o v,X.H₀ d≠some (.kh o v):=fun o v q=>by
 have:=I.base.oY d o v q;rw [e] at this;cases this
theorem Inv.LR {kvs:List (List Key×V)} {o:Obj} (I:Inv X pins σ H s) (e:H d=some (.dT kvs)) (ho:s.heap.get? d=some o):Inv X pins σ (upd H d (.kh o (.dT kvs))) s:=by
 refine I.M6 e (fun _ z=>by cases z) (fun _ z=>by cases z) (fun _ z=>by cases z) (I.HY e) ⟨ho, ?_⟩;obtain ⟨z,y,xs,r,dd⟩:=(show bO X.prog X.w H s.heap d (.dT kvs) from I.hok d _ e);exact ⟨z,y,xs,Ir r e (fun _ z=>by cases z),dd⟩
theorem Inv.RG {kvs:List (List Key×V)} {o:Obj} (I:Inv X pins σ H s) (e:H d=some (.kh o (.dT kvs))) (hz:∀o v,X.H₀ d≠some (.kh o v)):Inv X pins σ (upd H d (.dT kvs)) s:=by
 refine I.M6 e (fun _ z=>by cases z) (fun _ z=>by cases z) (fun _ z=>by cases z) hz ?_;obtain ⟨_,z,y,xs,r,dd⟩:=(show bO X.prog X.w H s.heap d (.kh o (.dT kvs)) from I.hok d _ e);exact ⟨z,y,xs,Ir r e (fun _ z=>by cases z),dd⟩
end
def JN (d:Addr) (o:Obj) (kvs:List (List Key×V)):It:=
 ⟨fun i H=>i<kvs.length/\H d=some (.kh o (.dT kvs)),fun i H x H'=>H'=H /\ ∃k v b,kvs[i]? = some (k,v)/\x = .ref b/\H b=some (.tup (k.map kV)),fun i H=>kvs.length<=i/\H d=some (.kh o (.dT kvs))⟩
theorem Qj {H:Hp} {kvs:List (List Key×V)} {xs:List (List Key×Addr×Value)} (r:KT H kvs xs):∀(i:Nat) (k:List Key) (v:V),kvs[i]? = some (k,v) -> ∃q,xs[i]? = some q/\H q.2.1=some (.tup (k.map kV)):=by
 induction r with
 | nil=>intro i k v h;cases h
 | @cons p q ps qs h r ih=>
   intro i k v e;cases i with
   | zero=>
     have e':p=(k,v):=Option.some.inj e;subst e';exact ⟨q,rfl,h.2.1⟩
   | succ i=>exact ih i k v (by simpa using e)
theorem zc {P:Program} {w:World} {K:PySem.W.Frag} {tg:Expr} (d it:Addr) (o:Obj) (kvs:List (List Key×V)) (es:Array DictEntry) (ep:Nat) (hd:o.data = .dict es ep):Turn P w K tg (JN d o kvs) [it] it (fun i h=>h.IsKeyIter it d i es.size ep) where
 mem:=by simp
 obj:=fun i h st b hb=>by
  have e:b=it:=by simpa using hb
  subst e;obtain ⟨o,e,c,d⟩:=st;exact ⟨o,e,fun v z=>by rw [d] at z;cases z⟩
 keep:=fun i h h' st k=>by
  obtain ⟨o,e,c,d⟩:=st;exact ⟨o,k it (by simp) o e,c,d⟩
 item:=by
  intro X hP hw hK hc i pins s σ H E I hf st hg;subst hP hw hK;obtain ⟨hi,hH⟩:=hg;obtain ⟨ho,z,y,xs,r,o',es',ep',q1,q2,q3,q4,q5⟩:=(show bO X.prog X.w H s.heap d (.kh o (.dT kvs)) from I.hok d _ hH);rw [ho] at q1;cases q1;rw [hd] at q3;cases q3;have hl:kvs.length=xs.length:=Paired.length r;have hsz:es.size=xs.length:=by rw [←Array.length_toList,q4,List.length_map]
  obtain ⟨k,v,ekv⟩:∃k v,kvs[i]? = some (k,v):=⟨kvs[i].1,kvs[i].2,by simp [hi]⟩;obtain ⟨q,eq,hq⟩:=Qj r i k v ekv;have ie:i<es.size:=by omega
  have ek:es[i].key = .ref q.2.1:=by
   have e1:es.toList[i]? = some es[i]:=by simp [ie]
   rw [q4,List.getElem?_map,eq] at e1;have:=Option.some.inj e1;rw [←this];rfl
  obtain ⟨f0,f1,f2,f3,f4,f5⟩:=hf it (by simp);refine En st ho hd ie fun h' st' sb=> ?_;have I1:Inv X pins σ H {s with heap:=h'}:=I.turned (t':=s.toks) (fun b o hb e=>(sb.2 b hb).trans e) f0 f1 f3 f4 f5;obtain ⟨ob,e,c,dd⟩:=id st';rw [ek];exact ⟨.ref q.2.1,rfl,Cv (s:={s with heap:=h'}) e c dd (by decide) ⟨.ref q.2.1,H,I1,rfl,⟨rfl,k,v,q.2.1,ekv,rfl,hq⟩,st',fun b hb=>(hf b hb).1⟩⟩
 done:=by
  intro X hP hw hK hc i pins s σ H E I hf st hg;subst hP hw hK;obtain ⟨hi,hH⟩:=hg;obtain ⟨ho,z,y,xs,r,o',es',ep',q1,q2,q3,q4,q5⟩:=(show bO X.prog X.w H s.heap d (.kh o (.dT kvs)) from I.hok d _ hH);rw [ho] at q1;cases q1;rw [hd] at q3;cases q3;have hl:kvs.length=xs.length:=Paired.length r;have hsz:es.size=xs.length:=by rw [←Array.length_toList,q4,List.length_map]
  obtain ⟨f0,f1,f2,f3,f4,f5⟩:=hf it (by simp);exact Iv (I.ok.hd hc) st ho hd (by omega) fun h' eb=>⟨rfl,I.turned (t':=s.toks) (fun b o hb e=>eb b o hb e) f0 f1 f3 f4 f5⟩
 self:=fun _ _ _ _ _ st h=>wpAny_pyIter_keyiter st h
section
variable {X:Cx} {tg:Expr}
def Qs (tl:TE):TI:=fun σ H R=>tl σ H fun x H1=>∃d kvs,x = .ref d/\H1 d=some (.dT kvs) /\ ∀o,R (JN d o kvs) (upd H1 d (.kh o (.dT kvs)))
theorem Hs {l:Expr} {tl:TE} (hl:PE X l tl):PI X tg l (Qs tl):=by
 intro pins s σ H R I h;refine cC (hl pins s σ H _ I h) fun v s1 ⟨x,H1,I1,r1,q1⟩=> ?_;obtain ⟨d,kvs,e,hH,q⟩:=q1;subst e;cases r1;obtain ⟨z,hd,xs,r,o,es,ep,ho,q2,q3,q4,q5⟩:=(show bO X.prog X.w H1 s1.heap d (.dT kvs) from I1.hok d _ hH);refine z6 hd ho q2 q3 ?_;have If:=I1.LR hH ho
 have Qe:(upd H1 d (HO.kh o (.dT kvs))) s1.heap.objs.size=none:=by
  rw [bA (Ne.symm (Nat.ne_of_lt (Heap.lt_size ho)))];exact I1.hok.fresh (Nat.le_refl _)
 refine ⟨s1.heap.objs.size,[s1.heap.objs.size],_,_,upd H1 d (.kh o (.dT kvs)),rfl,If.kept (t':=s1.toks) fun b o e=>Heap.get?_push_of_some _ e,zc d _ o kvs es ep q3,⟨_,Heap.get?_push_size _ rfl,rfl,rfl⟩,fun b hb=> ?_,q o⟩;have e:b=s1.heap.objs.size:=by simpa using hb
 subst e;exact If.vP (Nat.le_refl _) Qe
end
def Vj (H H' Xc:Hp):Prop:=∃d TF o kvs,H d=some (.dT TF)/\H' d=some (.kh o (.dT kvs))/\Xc=upd H' d (.dT kvs)
def Ox (t:TS):TS:=fun D σ H=>t {D with nx:=fun σ' H'=>∃Xc,Vj H H' Xc/\D.nx σ' Xc} σ H
theorem Hl {X:Cx} {st:Stmt} {t:TS} (h:PS X st t):PS X st (Ox t):=by
 intro pins s σ H D I q;refine wpAny_mono (h pins s σ H _ I q) (fun f s1 q1=> ?_) fun _ _ z=>z;cases f with
 | next=>
   obtain ⟨σ1,H1,I1,H2,⟨d,TF,o,kvs,e1,e2,rfl⟩,q2⟩:=q1;exact ⟨σ1,_,I1.RG e2 (I.HY e1),q2⟩
 | brk=>exact q1
 | cont=>exact q1
 | ret u=>exact q1
section
variable {d D:Addr} {o:Obj} {kvs:List (List Key×V)} {tc:TT} {te:TE} {Q:VK} {rest:St} {H1:Hp}
end
end L2
set_option Elab.async false
set_option linter.all false
set_option maxRecDepth 100000
set_option maxHeartbeats 4000000
namespace L2
open PySem PySem.Spec PyProof.Rows
section
variable {X:Cx} {k:Nat} {C:Addr} {sp:Sp}
end
end L2
set_option Elab.async false
set_option linter.all false
set_option maxRecDepth 100000
set_option maxHeartbeats 4000000
namespace L2
open PySem PySem.Spec PyProof.Rows
section
variable {prog:Program} {w:World} {K:Type} [DecidableEq K] {knd:HeapKind prog w K} {A:Around} {E:Value->Shared->Prop} {s:Shared}
end
section
variable {X:Cx}
end
end L2
set_option Elab.async false
set_option linter.all false
set_option maxRecDepth 100000
set_option maxHeartbeats 4000000
namespace L2
open PySem PySem.Spec PyProof.Rows
section
variable {P:Program} {w:World} {K:PySem.W.Frag} {mg:Str->Option Value} {base:Heap}
end
section
variable {X:Cx} {k:Nat} {x kn:Str} {ps:List Str} {sp:Sp} {Jo:List V} {e ke:Expr} {es:List Expr} {te:TE} {t:TA} {p pos kpos:Pos} {E:St->XK}
end
end L2
set_option Elab.async false
set_option linter.all false
set_option maxRecDepth 100000
set_option maxHeartbeats 4000000
namespace L2
open PySem PySem.Spec PyProof.Rows
section
variable {X:Cx} {K:PySem.W.Frag}
end
end L2
set_option Elab.async false
set_option linter.all false
set_option maxRecDepth 100000
set_option maxHeartbeats 4000000
namespace L2
open PySem PySem.Spec PyProof.Rows
section
variable {prog:Program} {w:World} {K:Type} [DecidableEq K] {knd:HeapKind prog w K} {A:Around} {E:Value->Shared->Prop} {s:Shared} {d:Addr} {xs:List (K×Addr×Value)}
theorem Gz {k v:Sem Value} {Q:Addr->Shared->Prop} (hr:knd.room A)
 (h:wpAny (model prog w) A k (fun kv s₁=>wpAny (model prog w) A v (fun vv s₂=>∃(kk:K) (a:Addr),kv = .ref a/\knd.is s₂.heap kk a/\s₂.heap.DictOfH knd s.heap.objs.size [] /\
   ∀h',h'.DictOfH knd s.heap.objs.size [(kk,a,vv)]->Heap.SameBut s.heap.objs.size s₂.heap h' -> ∀t',Q s.heap.objs.size {s₂ with heap:=h',toks:=t'}) E s₁) E {s with heap:=s.heap.push {cls:= .type "dict",data:= .dict #[]}}):
 wpAny (model prog w) A (subDict [(k,v)]) Q E s:=by
 unfold subDict;refine wpAny_bind (wpAny_alloc (wpAny_bind (wpAny_holding ?_)));rw [if_pos (show [(k,v)].length<=15 by simp)];refine wpAny_bind (evalPairs_cons (wpAny_mono h (fun kv s₁ h₁=>wpAny_mono h₁ (fun vv s₂ h₂=>evalPairs_nil ?_) fun _ _ e=>e) fun _ _ e=>e));obtain ⟨kk,a,rfl,hk,dd,q⟩:=h₂;refine wpAny_holding ?_;rw [List.forIn_cons];refine wpAny_bind (wpAny_bind (wpAny_bind (wpAny_dictSet_heap (knd:=knd) (xs:=[]) (hsz:=Nat.zero_le _) hr hk dd fun h' d' sb=>wpAny_pure ?_)));dsimp only;rw [List.forIn_nil];exact wpAny_pure (wpAny_pure (wpAny_pure (q h' d' sb _)))
end
section
variable {X:Cx} {pos:Pos} {k v a:Expr} {tk tv ta:TE}
def Od (tk tv:TE):TE:=fun σ H Q=>∀p,H p=none->tk σ (upd H p (.dT [])) fun x H1=>tv σ H1 fun y H2=>∃(t:Addr) (ks:List Key),x = .ref t/\H2 t=some (.tup (ks.map kV))/\H2 p=some (.dT [])/\Q (.ref p) (upd H2 p (.dT [(ks,y)]))
theorem Hw (hu:X.A.units<cLine) (hk:PE X k tk) (hv:PE X v tv):PE X (.Dict [some k] [v] pos) (Od tk tv):=by
 intro pins s σ H Q I q;have hn:=I.hok.fresh (Nat.le_refl s.heap.objs.size);have I1:=I.laid (a:=s.heap.objs.size) (o:= .dT []) (h':=s.heap.push {cls:= .type "dict",data:= .dict #[]}) (t':=s.toks) (fun _ _ q=>Heap.get?_push_of_some _ q) (Nat.le_refl _) (yj s.heap I.big);have hs:(evalEachOpt [some k] X.env).zip ((evalEach [v] X.env).map fun v=>do let x ←v;standAt pos;pure x)=[((eval k X.env),(do let x ←eval v X.env;standAt pos;pure x))].map fun p=>(some p.1,p.2):=rfl;rw [arm_eval_Dict,hs,dictDisplay_pairs _ (by simp) (by simp)];refine wpAny_bind (wpAny_standAt (wpAny_bind (Gz (knd:=tupleKind (bB X.prog X.w)) (show (tupleKind (bB X.prog X.w)).room X.A from hu) (cC (hk pins _ σ _ _ I1 (q _ hn)) fun kv s1 ⟨x,H1,I2,r1,q1⟩=>wpAny_bind (cC (hv pins s1 σ H1 _ I2 q1) fun vv s2 ⟨y,H2,I3,r2,t,ks,e,ht,hp,q2⟩=>wpAny_bind (wpAny_standAt (wpAny_pure ?_)))))));subst e;cases r1;obtain ⟨z,hd,xs,rel,dd⟩:=Jp I3.hok hp;cases rel;refine ⟨ks,t,rfl,iY I3.hok ht,dd,fun h' d' sb t'=>wpAny_pure ⟨.ref s.heap.objs.size,_, ?_,rfl,q2⟩⟩;obtain ⟨o,es,ep,hq,h2,h3,h4,_,h5⟩:=d';refine m_ I3 (by rw [hp];exact True.intro) sb ⟨o,hq⟩ ⟨by show 1<=sizeLine;decide,hd,_, ?_,o,es,ep,hq,h2,h3,h4,h5⟩;refine .cons ⟨rfl, ?_,r2⟩ .nil;show upd H2 s.heap.objs.size (.dT [(ks,y)]) t=_;rw [bA (lO ht hp (fun z=>nomatch z))];exact ht
end
end L2
namespace L2
open PySem PySem.Spec PyProof.Rows
section
variable {d:Addr} {o:Obj} {kvs:List (List Key×V)} {g:TG} {tb:TS} {D:Ends} {σ:St} {H:Hp}
theorem QM (Pv:Nat->St->Hp->Prop) (h0:Pv 0 σ H) (hl:∀i σ H,i<=kvs.length->Pv i σ H->H d=some (.kh o (.dT kvs)))
 (hs:∀i k v b σ H,kvs[i]? = some (k,v)->H b=some (.tup (k.map kV))->Pv i σ H->g (.ref b) σ H fun σ2 H2=>tb {D with nx:=Pv (i+1),ct:=Pv (i+1),bk:=D.nx} σ2 H2) (hd:∀σ H,Pv kvs.length σ H->D.nx σ H):
 ∃W:Nat->Nat->St->Hp->Prop,(∃m,W 0 m σ H) /\ ∀i m σ H,W i m σ H ->
  ((JN d o kvs).stop i H/\D.nx σ H)\/((JN d o kvs).go i H /\ ∃N:St->Hp->Prop,(∀σ' H',N σ' H' -> ∃m',m'<m/\W (i+1) m' σ' H') /\ ∀x H',(JN d o kvs).Rr i H x H'->g x σ H' fun σ2 H2=>tb {D with nx:=N,ct:=N,bk:=D.nx} σ2 H2):=by
 refine ⟨fun i m σ H=>m=kvs.length - i/\i<=kvs.length/\Pv i σ H,⟨kvs.length,by simp,Nat.zero_le _,h0⟩, ?_⟩;rintro i m σ H ⟨rfl,hi,p⟩;have q:=hl i σ H hi p
 by_cases hlt:i<kvs.length
 ·refine .inr ⟨⟨hlt,q⟩,Pv (i+1),fun σ' H' p'=>⟨kvs.length - (i+1),by omega,rfl,hlt,p'⟩,fun x H' y=> ?_⟩
  obtain ⟨rfl,k,v,b,e,rfl,hb⟩:=y;exact hs i k v b σ _ e hb p
 ·have e:i=kvs.length:=by omega
  subst e;exact .inl ⟨⟨Nat.le_refl _,q⟩,hd σ H p⟩
end
end L2
namespace L2
open PySem PySem.Spec PyProof.Rows
section
variable {X:Cx}
end
end L2
set_option Elab.async false
set_option linter.all false
set_option maxRecDepth 100000
set_option maxHeartbeats 4000000
namespace L2
open PySem PySem.Spec PyProof.Rows
theorem vD:typeLookup (.type "list") "keys" = pure none:=by rw [typeLookup_type,builtinLookup_eq_fast];kernel_rfl
theorem jU:entryFor table "dict.update.loop" = some Builtin.«dict.update.loop» :=entryFor_of_tree (by kernel_rfl)
theorem fu:plainId "dict.update.loop" = true:=by decide +kernel
section
variable {prog:Program} {w:World} {A:Around} {E:Value->Shared->Prop} {s:Shared}
theorem JK {a:Addr} {o:Obj} {xs:Array Value} {k:Nat} {Q:Option Value->Shared->Prop} (hx:s.heap.get? a=some o) (hc:o.cls = .type "list") (hdat:o.data = .seq xs k) (hd:o.dict=none) (hA:A.handled=none)
 (h:∀h' tk e,Heap.NewExcOf s.heap h' e "AttributeError" -> Q none {s with heap:=h',toks:=tk}):wpAny (model prog w) A (getAttr? (.ref a) "keys") Q E s:=by
 obtain ⟨c,dct,dat,sl⟩:=o;simp only at hc hdat hd;subst hc hdat hd;obtain ⟨hp,g,d,tk,os⟩:=s;have hT:∀tk',(⟨hp,g,d,tk',os⟩:Shared).TypeIs (.ref a) "list" :=fun _=>⟨_,hx,rfl⟩;have f1:=sub_AttributeError;have f3:=F.slot_list_getattribute.lookup;have f4:=F.slot_list_getattribute.bind (.ref a);have f5:=am_list_getattr_none;unfold getAttr? getAttrBy? getAttrBy
 repeat (any_goals (first |assumption|exact hT _|((with_reducible show wpAny _ _ (call (Value.builtin "list.__getattribute__") _ _) _ _ _);refine call_meets F.slot_list_getattribute (hT _) am_entry_list_getattribute (F.args_list_getattribute_2 _ _) (meets_getattribute_miss_list a xs k sl _ _ vD (by decide) (by size_fits)) ⟨hx,hA,fun h' tk' e hx'=> ?_⟩)|wp_step))
 obtain ⟨t',u',he⟩:=hx'.there;show wpAny _ _ (getattributeRaised _ _ _ _ _ _ _) _ _ _;unfold getattributeRaised
 repeat (any_goals (first |assumption|wp_step))
 exact h _ _ _ hx'.of
def iU (kvs:List (List Key×V)) (ps:List (List Key×V)):List (List Key×V):=ps.foldl (fun l p=>putK l p.1 p.2) kvs
theorem wR (kvs ps:List (List Key×V)):(iU kvs ps).length<=kvs.length+ps.length:=by
 induction ps generalizing kvs with
 | nil=>exact Nat.le_refl _
 | cons p ps ih=>
   have h1:=ih (putK kvs p.1 p.2);have h2:=dW kvs p.1 p.2;show (iU (putK kvs p.1 p.2) ps).length<=_;rw [List.length_cons];omega
theorem DK {ps:List (List Key×V)} {i:Nat} {p:List Key×V} (h:ps[i]? = some p):iU [] (ps.take (i+1))=putK (iU [] (ps.take i)) p.1 p.2:=by
 rw [List.take_add_one,h];unfold iU;rw [List.foldl_append];rfl
def pI (H:Hp) (vs:List V) (ps:List (List Key×V)):Prop:=vs.length=ps.length /\ ∀(i:Nat) v p,vs[i]? = some v->ps[i]? = some p -> ∃t a,v = .ref t/\H t=some (.tup [.ref a,p.2])/\H a=some (.tup (p.1.map kV))
theorem Qi {H:Hp} {kvs:List (List Key×V)} {xs:List (List Key×Addr×Value)} (r:KT H kvs xs) {x:List Key×Addr×Value} (hx:x∈xs):H x.2.1=some (.tup (x.1.map kV)):=by
 induction r with
 | nil=>cases hx
 | @cons p q ps qs h t ih=>
   rcases List.mem_cons.mp hx with rfl|hx
   ·rw [←h.1];exact h.2.1
   ·exact ih hx
theorem DW {H:Hp} {h0:Heap} {d it p:Addr} {vs:List V} {its:List Value} {ps:List (List Key×V)} {R:Result->Shared->Prop} (hu:A.in1.units<cLine)
 (W:Walks prog w A.in1 it [it,p] [it] its.length (fun i v=>its[i]? = some v) (fun i h=>h.IsListIter it p i/\h.IsList p its.toArray))
 (ok:kW prog w H h0) (rv:Vals vs its) (pa:pI H vs ps) (hd:h0.get? d=none) (hi0:h0.get? it=none) (hp:∃o,h0.get? p=some o) (Tj:d≠it) (hz:ps.length<=sizeLine):
 ∀(m i:Nat) (s:Shared) (xs:List (List Key×Addr×Value)),its.length - i=m->i<=its.length->(s.heap.IsListIter it p i/\s.heap.IsList p its.toArray)->(∀b o,h0.get? b=some o->s.heap.get? b=some o) ->
  s.heap.DictOfH (tupleKind (bB prog w)) d xs->KT H (iU [] (ps.take i)) xs ->
  (∀h' tk xs',(∀b o,h0.get? b=some o->h'.get? b=some o)->h'.DictOfH (tupleKind (bB prog w)) d xs'->KT H (iU [] ps) xs'->R (.ok (.ret .none)) {s with heap:=h',toks:=tk}) ->
  codeAny (model prog w) A (.builtin "dict.update.loop" ⟨[.ref d,.ref it,rawInt i,.none],[]⟩) R s:=by
 have lens:its.length=ps.length:=by rw [←rv.length];exact pa.1
 have dp:d≠p:=fun z=>by obtain ⟨o,ho⟩:=hp;rw [←z,hd] at ho;cases ho
 have moved:∀{h h':Heap} {xs:List (List Key×Addr×Value)} {kvs:List (List Key×V)},(∀b o,b≠it->h.get? b=some o->h'.get? b=some o)->(∀b o,h0.get? b=some o->h.get? b=some o)->h.DictOfH (tupleKind (bB prog w)) d xs->KT H kvs xs ->
  (∀b o,h0.get? b=some o->h'.get? b=some o)/\h'.DictOfH (tupleKind (bB prog w)) d xs:=fun {h h' xs kvs} k k0 dd kt=>by
  have k1:∀b o,h0.get? b=some o->h'.get? b=some o:=fun b o e=>k b o (fun z=>by rw [z,hi0] at e;cases e) (k0 b o e);refine ⟨k1, ?_⟩;obtain ⟨o,es,ep,h1,h2,h3,h4,h5,h6⟩:=dd;have ok':=ok.kept k1;refine ⟨o,es,ep,k d o Tj h1,h2,h3,h4,fun x hx=> ?_,h6⟩;exact iY ok' (Qi kt hx)
 intro m
 induction m with
 | zero=>
   intro i s xs hm hi st k0 dd kt hR;have hin:i=its.length:=by omega
   subst hin;refine codeAny_builtin jU ?_;rw [Around.under_plainId fu _];show wpAny _ A.in1 (pyNext (.ref it) >>= _) _ _ s;refine wpAny_bind (W.done s _ _ st fun h' tk k=> ?_);obtain ⟨k1,d1⟩:=moved (h:=s.heap) (h':=h') (fun b o nb e=>k b o (by simpa using nb) e) k0 dd kt;show wpAny _ A.in1 (ret Value.none) _ _ _;rw [lens,List.take_length] at kt;exact wpAny_pure (hR h' tk xs k1 d1 kt)
 | succ m ih=>
   intro i s xs hm hi st k0 dd kt hR;have hlt:i<its.length:=by omega
   refine codeAny_builtin jU ?_;rw [Around.under_plainId fu _];show wpAny _ A.in1 (pyNext (.ref it) >>= _) _ _ s;refine wpAny_bind (W.item i s _ _ hlt st fun v h1 tk hP st1 k=> ?_);obtain ⟨k1,d1⟩:=moved (h:=s.heap) (h':=h1) (fun b o nb e=>k b o (by simpa using nb) e) k0 dd kt;have hv1:i<vs.length:=by rw [rv.length];exact hlt
   have hp1:i<ps.length:=by omega
   obtain ⟨t,a,ev,ht,ha⟩:=pa.2 i vs[i] ps[i] (by simp [hv1]) (by simp [hp1]);obtain ⟨u,eu,rvi⟩:=rv.get (i:=i) (x:= .ref t) (by rw [←ev];simp [hv1]);rw [hP] at eu;cases eu;cases rvi;have ok1:=ok.kept k1;obtain ⟨_,its2,r2,o2,ho2,hc2,n2,hd2⟩:=ok1 _ _ ht;obtain ⟨u1,u2,rfl,ra,ry⟩:=vals2 r2;cases ra;show wpAny _ A.in1 (holding [Value.ref t] _ >>= _) _ _ _;refine wpAny_bind (wpAny_holding ?_);refine wpAny_bind (wpAny_tryCatch ?_);unfold Builtin.Dict.pairItems;refine wpAny_bind (wpAny_typeOf (T:= "tuple") ⟨o2,ho2,hc2⟩ ?_);rw [if_pos (by decide)];refine wpAny_bind (wpAny_seqItems ho2 hd2 (wpAny_pure ?_));show wpAny _ A.in1 (holding [Value.ref a,u2] (dictSet d (.ref a) u2)) _ _ _;refine wpAny_holding ?_
   have lz:xs.length<=sizeLine:=by
    have e1:=Paired.length kt;have e2:=wR [] (ps.take i);rw [List.length_take,List.length_nil] at e2;omega
   refine wpAny_dictSet_heap (knd:=tupleKind (bB prog w)) (xs:=xs) (hsz:=lz) hu (iY ok1 ha) d1 fun h2 d2 sb=> ?_;have k2:∀b o,h0.get? b=some o->h2.get? b=some o:=fun b o e=>(sb.2 b (fun z=>by rw [z,hd] at e;cases e)).trans (k1 b o e);refine wpAny_pure ⟨plainId_quiet fu _, ?_⟩;refine ih (i+1) _ _ (by omega) (by omega) (W.frame _ _ _ st1 fun b hb o e=> ?_) k2 d2 ?_ fun h' tk' xs' k' d' kt'=>hR h' tk' xs' k' d' kt'
   ·have:b≠d:=fun z=>by
     subst z;rcases List.mem_cons.mp hb with rfl|hb
     ·exact Tj rfl
     ·exact dp (by simpa using hb)
    exact (sb.2 b this).trans e
   ·rw [DK (p:=ps[i]) (by simp [hp1])]
    exact kt.put ps[i].1 ha ry
theorem lB {h:Heap} {a:Addr} (l:h.objs.size<=a):h.get? a=none:=by
 cases e:h.get? a with
 | none=>rfl
 | some q=>exact absurd (Heap.lt_size e) (Nat.not_lt.mpr l)
theorem Ac {H:Hp} {p:Addr} {vs:List V} {its:List Value} {ps:List (List Key×V)} {Q:Value->Shared->Prop} (hh:A.handled=none) (hu:A.in1.in1.units<cLine) (pl:PlainL s.heap p its.toArray)
 (ok:kW prog w H s.heap) (rv:Vals vs its) (pa:pI H vs ps) (hz:ps.length<=sizeLine)
 (h:∀h' tk xs,(∀b o,s.heap.get? b=some o->h'.get? b=some o)->h'.DictOfH (tupleKind (bB prog w)) s.heap.objs.size xs->KT H (iU [] ps) xs->Q (.ref s.heap.objs.size) {s with heap:=h',toks:=tk}):
 wpAny (model prog w) A (call (.type "dict") [.ref p]) Q E s:=by
 refine callType_codes (Q₁:=fun obj s₁=>obj = .ref s.heap.objs.size/\s₁={s with heap:=s.heap.push {cls:= .type "dict",data:= .dict #[]}}) F.kt_called_dict (F.kt_typeCall_dict_1 _) F.entry_dict_init (kt_code_dict_new _ ⟨rfl,rfl⟩) ?_;rintro obj s₁ ⟨rfl,rfl⟩;have hnew:(s.heap.push {cls:= .type "dict",data:= .dict #[]}).DictOfH (tupleKind (bB prog w)) s.heap.objs.size []:=⟨_,_,_,Heap.get?_push_size _ rfl,⟨rfl,rfl,rfl⟩,rfl,rfl,fun x hx=>(by cases hx),by simp⟩;have hT:Shared.TypeIs {s with heap:=s.heap.push {cls:= .type "dict",data:= .dict #[]}} (.ref s.heap.objs.size) "dict" :=⟨_,Heap.get?_push_size _ rfl,rfl⟩;refine ⟨hT,F.args_dict_init_2 _ _, ?_⟩;obtain ⟨o,n,ho,hc,hd,hs⟩:=id pl;have ho1:(s.heap.push {cls:= .type "dict",data:= .dict #[]}).get? p=some o:=Heap.get?_push_of_some _ ho;unfold Builtin.«dict.__init__»;refine wpAny_bind ?_;unfold Builtin.Dict.selfAndRest;refine wpAny_bind (wpAny_notOrdered_dict hT ?_);show wpAny _ _ (pure (s.heap.objs.size,[Value.ref p])) _ _ _;refine wpAny_pure ?_;show wpAny _ _ (Builtin.Dict.updateFrom "dict.__init__" s.heap.objs.size (.ref p) [] .none) _ _ _;unfold Builtin.Dict.updateFrom;refine wpAny_bind (wpAny_typeOf (T:= "list") ⟨o,ho1,hc⟩ ?_);rw [if_pos (by decide)];refine wpAny_bind (JK (s:={s with heap:=s.heap.push {cls:= .type "dict",data:= .dict #[]}}) ho1 hc hs hd (show A.in1.in1.handled=none from hh) fun h1 tk e ne=> ?_);have k1:∀b q,s.heap.get? b=some q->h1.get? b=some q:=fun b q eb=>ne.keeps b q (Heap.get?_push_of_some _ eb);have hp1:h1.get? p=some o:=k1 p o ho
 have hd1:h1.DictOfH (tupleKind (bB prog w)) s.heap.objs.size []:=by
  obtain ⟨q,es,ep,q1,q2⟩:=hnew;refine ⟨q,es,ep,ne.keeps _ _ q1,q2.1,q2.2.1,q2.2.2.1,fun x hx=>(by cases hx),q2.2.2.2.2⟩
 rw [if_pos (show (none:Option Value).isNone=true from rfl)];refine wpAny_bind (wpAny_rule ?_);have Bw:h1.IsList p its.toArray:=⟨o,hp1,hc,n,hs⟩;refine wpAny_bind (wpAny_pyIter_list (s:={s with heap:=h1,toks:=tk}) Bw ?_);refine wpAny_pure ⟨plainId_quiet fu _, ?_⟩;have Tv:s.heap.objs.size<h1.objs.size:=by obtain ⟨q,_,_,q1,_⟩:=hd1;exact Heap.lt_size q1
 have Tw:p<h1.objs.size:=Heap.lt_size hp1;refine DW (A:=A.in1) (H:=H) (h0:=s.heap) (d:=s.heap.objs.size) (it:=h1.objs.size) (p:=p) hu (iw (show A.in1.in1.handled=none from hh) h1.objs.size p (fun z=>by rw [z] at Tw;exact Nat.lt_irrefl _ Tw) its) ok rv pa ?_ ?_ ⟨o,ho⟩ (Nat.ne_of_lt Tv) hz its.length 0 _ [] (by omega) (Nat.zero_le _) ⟨⟨_,Heap.get?_push_size _ rfl,rfl,rfl⟩,o,Heap.get?_push_of_some _ hp1,hc,n,hs⟩ (fun b q eb=>Heap.get?_push_of_some _ (k1 b q eb)) ?_ .nil ?_
 ·exact lB (Nat.le_refl _)
 ·exact lB (Nat.le_of_lt Tv)
 ·obtain ⟨q,es,ep,q1,q2,q3,q4,_,q6⟩:=hd1
  exact ⟨q,es,ep,Heap.get?_push_of_some _ q1,q2,q3,q4,fun x hx=>(by cases hx),q6⟩
 ·exact fun h' tk' xs k' d' kt'=>⟨rfl,h h' tk' xs k' d' kt'⟩
end
section
variable {X:Cx}
def O_ (K:PySem.W.Frag):List V->Hp->VK->Prop:=fun xs H Q=>∃(p:Addr) (vs:List V) (ps:List (List Key×V)),xs=[.ref p]/\aY K H p vs/\pI H vs ps /\ ∀q,H q=none->Q (.ref q) (upd H q (.dT (iU [] ps)))
theorem yD {K:PySem.W.Frag} (hK:X.K=K) (hc:X.calm=true) (hu:X.A.in1.units+64<cLine):gW X (.type "dict") (O_ K):=by
 subst hK;intro pins s σ H xs us Q I r h;obtain ⟨p,vs,ps,rfl,hq,pa,q⟩:=h;obtain ⟨u,rfl,rx⟩:=vals1 r;cases rx;obtain ⟨its,rv,pl,hz⟩:=I.list hq;have z:ps.length<=sizeLine:=by rw [←pa.1];exact hz
 refine Ac (H:=H) (I.ok.hd hc) (Nat.lt_of_le_of_lt (show X.A.in1.in1.units<=X.A.in1.units+64 by show X.A.in1.units+1<=_;omega) hu) pl I.hok rv pa z fun h' tk xs k dd kt=> ?_;have hn:=I.hok.fresh (Nat.le_refl s.heap.objs.size);have lp:=wR [] ps;refine ⟨.ref s.heap.objs.size,_,I.laid (a:=s.heap.objs.size) (o:= .dT (iU [] ps)) k (Nat.le_refl _) ?_,rfl,q _ hn⟩;obtain ⟨o,es,ep,q1,q2,q3,q4,_,q6⟩:=dd;refine ⟨by rw [List.length_nil] at lp;omega, ?_,xs,kt.keeps fun b ys e=> ?_,o,es,ep,q1,q2,q3,q4,q6⟩
 ·have:=I.big
  simp only [beq_eq_false_iff_ne,ne_eq];intro z;rw [z] at this;exact Nat.lt_irrefl _ this
 ·rw [bA (aC e hn)]
  exact e
variable {pos:Pos} {k v:Expr} {tk tv:TE}
def Oc (tk tv:TE):TE:=fun σ H Q=>∀p,H p=none->tk σ (upd H p (.dK [])) fun x H1=>tv σ H1 fun y H2=>∃c,x=kV c/\H2 p=some (.dK [])/\Q (.ref p) (upd H2 p (.dK [(c,y)]))
theorem Hv (hk:PE X k tk) (hv:PE X v tv):PE X (.Dict [some k] [v] pos) (Oc tk tv):=by
 intro pins s σ H Q I q;have hn:=I.hok.fresh (Nat.le_refl s.heap.objs.size);have I1:=I.laid (a:=s.heap.objs.size) (o:= .dK []) (h':=s.heap.push {cls:= .type "dict",data:= .dict #[]}) (t':=s.toks) (fun _ _ q=>Heap.get?_push_of_some _ q) (Nat.le_refl _) (yq s.heap I.big);refine wpAny_Dict_pairs (knd:=bB X.prog X.w) (pairs:=[((eval k X.env),(do let x ←eval v X.env;standAt pos;pure x))]) rfl (by simp) (by simp) ?_;refine evalPairs_cons (cC (hk pins _ σ _ _ I1 (q _ hn)) fun kv s1 ⟨x,H1,I2,r1,q1⟩=>wpAny_bind (cC (hv pins s1 σ H1 _ I2 q1) fun vv s2 ⟨y,H2,I3,r2,c,e,hp,q2⟩=>wpAny_bind (wpAny_standAt (wpAny_pure (evalPairs_nil ?_)))));subst e;obtain ⟨z,hd,xs,rel,dd⟩:=Nq I3.hok hp;cases rel;refine ⟨[(c,vv)],⟨qK r1,rfl,True.intro⟩,dd,fun h' d' sb=>⟨.ref s.heap.objs.size,_, ?_,rfl,q2⟩⟩;obtain ⟨o,es,ep,hq,rest⟩:=id d';exact m_ I3 (by rw [hp];exact True.intro) sb ⟨o,hq⟩ ⟨by show 1<=sizeLine;decide,hd,_,.cons ⟨rfl,r2⟩ .nil,d'⟩
end
end L2
set_option Elab.async false
set_option linter.all false
set_option maxRecDepth 100000
set_option maxHeartbeats 4000000
namespace L2
open PySem PySem.Spec PyProof.Rows PySem.W
section
variable {prog:Program} {w:World} {A:Around} {E:Value->Shared->Prop} {s:Shared} {d r:Addr} {o:Obj} {es:Array DictEntry} {ep:Nat}
end
end L2
namespace Tim
open PySem PySem.W PyProof.Rows
section
variable {prog:Program} {w:World} {A:Around} {E:Value->Shared->Prop} {s:Shared} {T:String} {r d:Addr} {n:Nat} {P:Nat->Value->Prop} {OK:Heap->Prop}
theorem zJ {Q:Value->Shared->Prop} (S:KdlSrc prog w T r d n P OK) (hh:A.handled=none) (hok:OK s.heap) (hn:n<=sizeLine)
 (h:∀(vs:List Value) (tk:Nat),vs.length=n->(∀i v,vs[i]? = some v->P i v) -> ∃(κ:SortKind) (rk:Value->Nat),
   (2<=vs.length -> ∀h':Heap,(∀b o,s.heap.get? b=some o->h'.get? b=some o)->(∀(Q:SortKind->Shared->Prop) (E:Value->Shared->Prop),Q κ {s with heap:=h',toks:=tk}->wpAny (model prog w) A.in1.in1 (keyKind' vs.toArray) Q E {s with heap:=h',toks:=tk})/\Ax prog w A.in1.in1 {s with heap:=h',toks:=tk} κ (pairsOf vs) rk) /\
   ∀(h0 h':Heap) (D:Addr) (c:Nat) (out:List Value),(∀b o,s.heap.get? b=some o->h0.get? b=some o)->(∀b o,h0.get? b=some o->h'.get? b=some o)->h0.objs.size<=D->h'.get? D=some (seqObj "list" out.toArray c)->out.Perm vs->out.Pairwise (fun x y=>rk x<=rk y)->Q (.ref D) {s with heap:=h',toks:=tk}):
 wpAny (model prog w) A (call (.builtin "sorted") [.ref r]) Q E s:=by
 refine Calls.call_function_entry kind_sorted plain_sorted entry_sorted (args_sorted1 _) ?_;unfold Builtin.«sorted»;refine wpAny_bind (m:=checkCount "sorted" 1 1 _) (wpAny_pure ?_);refine wpAny_bind (kdu_collect S (show A.in1.handled=none from hh) hok hn fun h0 tk acc IK hacc=> ?_);obtain ⟨κ,rk,hk,fin⟩:=h acc.toList tk (by rw [Array.length_toList];exact hacc.1) fun i v e=>hacc.2 i v (by rw [←Array.getElem?_toList];exact e);have hz:acc.toList.length<=sizeLine:=by rw [Array.length_toList,hacc.1];exact hn
 generalize acc.toList=vs at hk fin hz ⊢;refine wpAny_bind (wpAny_newList ?_ hz);have lt0:∀b o,h0.get? b=some o->b<h0.objs.size:=fun b o e=>Heap.lt_size e;have hoL:(h0.push (seqObj "list" vs.toArray 0)).get? h0.objs.size=some (seqObj "list" vs.toArray 0):=Heap.get?_push_size _ rfl;have keep:∀b o,h0.get? b=some o->(h0.push (seqObj "list" vs.toArray 0)).get? b=some o:=fun b o q=>Heap.get?_push_of_some _ q;show wpAny _ _ _ _ _ {s with heap:=h0.push (seqObj "list" vs.toArray 0),toks:=tk};generalize h0.push (seqObj "list" vs.toArray 0)=h1 at keep hoL ⊢;have le0:=Nat.le_refl h0.objs.size;generalize e0:h0.objs.size=Dl at hoL lt0 ⊢;rw [e0] at le0;have nD:∀b o,h0.get? b=some o->b≠Dl:=fun b o e=>Nat.ne_of_lt (lt0 b o e);refine wpAny_bind (wpAny_holding (wpAny_call_entry slot_list_sort ⟨_,hoL,rfl⟩ entry_list_sort (sU (s:={s with heap:=h1,toks:=tk}) hoL hz (fun h2 h' kp=>hk h2 h' fun b o e=>kp b o (nD b o (IK b o e)) (keep b o (IK b o e))) fun out p1 p2=>⟨_,rfl, ?_⟩) (args_list_sort _)));refine wpAny_pure ⟨_,rfl, ?_⟩;obtain ⟨e1,ho1⟩:∃e1,(h1.update Dl (Obj.mapSeq fun _=> #[])).get? Dl=some (seqObj "list" #[] e1):=⟨_,get?_update_seq hoL (fun _=> #[])⟩;have ho2:(((h1.update Dl (Obj.mapSeq fun _=> #[])).push (seqObj "tuple" vs.toArray 0)).push (seqObj "list" #[] 0)).get? Dl=some (seqObj "list" #[] e1):=Heap.get?_push_of_some _ (Heap.get?_push_of_some _ ho1);refine fin h0 (sortedHeap h1 Dl vs out.toArray) Dl _ out IK (fun b o e=> ?_) (Nat.le_of_eq e0) (by unfold sortedHeap;exact get?_update_seq ho2 (fun _=>out.toArray)) p1 p2;unfold sortedHeap;rw [Heap.get?_update_ne _ _ _ _ (nD b o e)];refine Heap.get?_push_of_some _ (Heap.get?_push_of_some _ ?_);rw [Heap.get?_update_ne _ _ _ _ (nD b o e)];exact keep b o e
end
end Tim
namespace L2
open PySem PySem.Spec PyProof.Rows PySem.W
section
variable {prog:Program} {w:World} {d:Addr}
end
section
variable {X:Cx}
end
end L2
set_option Elab.async false
set_option linter.all false
set_option maxRecDepth 100000
set_option maxHeartbeats 1000000
namespace L2
open PySem
def uo:Nat->Nat->Nat
 | 0,x=>x
 | n+1,x=>uo n (5*x+1)
theorem Cm:∀(n m x:Nat),uo (n+m) x=uo m (uo n x)
 | 0,m,x=>by rw [Nat.zero_add];rfl
 | n+1,m,x=>by rw [Nat.succ_add];exact Cm n m (5*x+1)
theorem xY:∀(n x:Nat),4*uo n x+1=5 ^ n*(4*x+1)
 | 0,x=>by simp [uo]
 | n+1,x=>by
   have h:=xY n (5*x+1);have e:4*(5*x+1)+1=5*(4*x+1):=by omega
   rw [e,←Nat.mul_assoc,←Nat.pow_succ] at h;exact h
theorem vH (m:Nat):∀(n x:Nat),uo n (x % m) % m=uo n x % m
 | 0,x=>by simp [uo]
 | n+1,x=>by
   show uo n (5*(x % m)+1) % m=uo n (5*x+1) % m;rw [←vH m n (5*(x % m)+1),←vH m n (5*x+1)];congr 2;rw [Nat.add_mod,Nat.mul_mod,Nat.mod_mod,←Nat.mul_mod,←Nat.add_mod]
theorem SX:∀k:Nat,∃u,5 ^ (2 ^ k)=1+4*2 ^ k*(2*u+1)
 | 0=>⟨0,rfl⟩
 | k+1=>by
   obtain ⟨u,h⟩:=SX k;refine ⟨u+2 ^ k*(2*u+1)*(2*u+1), ?_⟩;rw [Nat.pow_succ,Nat.pow_mul,h];generalize 2 ^ k=P
   grind
theorem half (k x:Nat):∃v,uo (2 ^ k) x=x+2 ^ k*(2*v+1):=by
 obtain ⟨u,h⟩:=SX k;have f:=xY (2 ^ k) x;rw [h] at f;refine ⟨u*(4*x+1)+2*x, ?_⟩;generalize uo (2 ^ k) x=y at f ⊢;generalize 2 ^ k=P at f ⊢;have e:(1+4*P*(2*u+1))*(4*x+1)=4*(x+P*(2*(u*(4*x+1)+2*x)+1))+1:=by grind
 rw [e] at f;omega
theorem cover:∀(k x j:Nat),j<2 ^ k -> ∃n,n<2 ^ k/\uo n x % 2 ^ k=j
 | 0,x,j,h=>⟨0,by decide,by simp at h;subst h;simp [Nat.mod_one]⟩
 | k+1,x,j,h=>by
   have hp:0<2 ^ k:=Nat.pow_pos (by decide);obtain ⟨n,hn,e⟩:=cover k x (j % 2 ^ k) (Nat.mod_lt _ hp);rw [Nat.pow_succ] at h ⊢;generalize hP:2 ^ k=P at *;have hj:j % P+P*(j / P % 2)=j:=by rw [←Nat.mod_mul,Nat.mod_eq_of_lt h]
   by_cases q:uo n x / P % 2=j / P % 2
   ·refine ⟨n,by omega, ?_⟩
    rw [Nat.mod_mul,e,q,hj]
   ·refine ⟨n+P,by omega, ?_⟩
    obtain ⟨v,hv⟩:=half k (uo n x);rw [hP] at hv;rw [Cm,hv,Nat.mod_mul,Nat.add_mul_mod_self_left,e,Nat.add_mul_div_left _ _ hp];have:(uo n x / P+(2*v+1)) % 2=j / P % 2:=by omega
    rw [this,hj]
def lps (mask:Nat):Nat->Nat×Nat->Nat×Nat
 | 0,s=>s
 | n+1,s=>lps mask n (SetTable.leap mask s.1 s.2)
theorem B_ (mask:Nat):∀(n m:Nat) (s:Nat×Nat),lps mask (n+m) s=lps mask m (lps mask n s)
 | 0,m,s=>by rw [Nat.zero_add];rfl
 | n+1,m,s=>by rw [Nat.succ_add];exact B_ mask n m _
theorem Ij (mask:Nat):∀(n:Nat) (s:Nat×Nat),s.1<=mask->(lps mask n s).1<=mask
 | 0,s,h=>h
 | n+1,s,_=>Ij mask n _ (Nat.le_of_lt_succ (Nat.mod_lt _ (Nat.succ_pos _)))
theorem xR (mask:Nat):∀(n:Nat) (s:Nat×Nat),(lps mask n s).2=s.2 / 32 ^ n
 | 0,s=>by simp [lps]
 | n+1,s=>by
   show (lps mask n _).2=_;rw [xR mask n];show s.2 / 32 / 32 ^ n=_;rw [Nat.div_div_eq_div_mul,Nat.pow_succ,Nat.mul_comm]
theorem xQ (mask:Nat):∀(n i:Nat),i<=mask->lps mask n (i,0)=(uo n i % (mask+1),0)
 | 0,i,h=>by simp [lps,uo,Nat.mod_eq_of_lt (Nat.lt_succ_of_le h)]
 | n+1,i,h=>by
   show lps mask n ((i*5+1+0 / 32) % (mask+1),0 / 32)=_;rw [Nat.zero_div,Nat.add_zero,xQ mask n _ (Nat.le_of_lt_succ (Nat.mod_lt _ (Nat.succ_pos _))),vH];show _=(uo n (5*i+1) % (mask+1),0);rw [Nat.mul_comm 5 i]
theorem reach {mask k:Nat} (hm:mask+1=2 ^ k) {i p j:Nat} (hi:i<=mask) (hp:p<2 ^ 64) (hj:j<=mask):∃n,n<=mask+13/\(lps mask n (i,p)).1=j:=by
 have h0:(lps mask 13 (i,p)).2=0:=by
  rw [xR];exact Nat.div_eq_of_lt (Nat.lt_of_lt_of_le hp (by decide))
 have h1:=Ij mask 13 (i,p) hi;obtain ⟨n,hn,e⟩:=cover k (lps mask 13 (i,p)).1 j (by omega);refine ⟨13+n,by omega, ?_⟩;rw [B_];have e2:lps mask 13 (i,p)=((lps mask 13 (i,p)).1,0):=by rw [←h0]
 rw [e2,xQ mask n _ h1,hm];exact e
end L2
set_option Elab.async false
set_option linter.all false
set_option maxRecDepth 100000
set_option maxHeartbeats 1000000
namespace L2
open PySem
theorem sub_len {α:Type} [DecidableEq α]:∀{l m:List α},l.Nodup->(∀x∈l,x∈m)->l.length<=m.length
 | [],m,_,_=>Nat.zero_le _
 | x::l,m,nd,h=>by
   have hx:=h x (.head _);obtain ⟨n1,n2⟩:=List.nodup_cons.mp nd;have:=sub_len (l:=l) (m:=m.erase x) n2 fun y hy=>(List.mem_erase_of_ne (fun (e:y=x)=>n1 (by rw [←e];exact hy))).mpr (h y (.tail _ hy));rw [List.length_erase_of_mem hx] at this;have:0<m.length:=List.length_pos_of_mem hx;rw [List.length_cons];omega
section
variable {t:SetTable}
theorem pU (hd:t.dummies = #[]) (j:Nat):t.slot j ≠ .dummy:=by
 unfold SetTable.slot;dsimp only;split
 ·intro h;cases h
 ·rw [hd]
  have:SetTable.has #[] j=false:=rfl;rw [this];intro h;cases h
theorem tH {j i:Nat} (h:t.slot j = .live i):t.place[i]? = some j:=by
 unfold SetTable.slot at h;dsimp only at h;split at h
 ·rename_i q
  cases h;exact eq_of_beq q
 ·split at h<;>cases h
theorem E_ (hd:t.dummies = #[]) (hs:t.place.size<=t.mask):∃j,j<=t.mask/\t.slot j = .empty:=by
 refine Classical.byContradiction fun no=> ?_
 have all:∀j∈List.range (t.mask+1),j∈t.place.toList:=fun j hj=>by
  have hj:j<=t.mask:=Nat.le_of_lt_succ (List.mem_range.mp hj);cases e:t.slot j with
  | empty=>exact absurd ⟨j,hj,e⟩ no
  | dummy=>exact absurd e (pU hd j)
  | live i=>
    have q:=tH e;rw [←Array.getElem?_toList] at q;exact List.mem_of_getElem? q
 have:=sub_len List.nodup_range all;rw [List.length_range,Array.length_toList] at this;omega
inductive yM (t:SetTable):Nat->SetTable.Probe->Prop
 | here {d:Nat} {p:SetTable.Probe}:t.slot p.j = .empty->yM t d p
 | next {d:Nat} {p:SetTable.Probe}:yM t d (t.advance p)->yM t (d+1) p
theorem yM.mono {d e:Nat} {p:SetTable.Probe} (h:yM t d p) (le:d<=e):yM t e p:=by
 induction h generalizing e with
 | here q=>exact .here q
 | next _ ih=>
   cases e with
   | zero=>omega
   | succ e=>exact .next (ih (by omega))
theorem Ji (hd:t.dummies = #[]) (f:Nat->Int) (h:Int):∀(fuel d:Nat) (p:SetTable.Probe),yM t d p->d<fuel->p.dummy=none ->
 ∃met,SetTable.probe.go t f h fuel p=some met/\((∃j,met = .empty j none/\t.slot j = .empty) \/ ∃j i q d',met = .candidate j i q/\d'<d/\yM t d' q/\q.dummy=none/\t.slot j = .live i)
 | 0,d,p,_,lt,_=>absurd lt (Nat.not_lt_zero _)
 | fuel+1,d,p,r,lt,nd=>by
   have adv:(t.advance p).dummy=none:=by
    unfold SetTable.advance;split
    ·exact nd
    ·exact nd
   unfold SetTable.probe.go;cases e:t.slot p.j with
   | empty=>exact ⟨_,rfl,.inl ⟨p.j,by rw [nd],e⟩⟩
   | dummy=>exact absurd e (pU hd _)
   | live i=>
     cases r with
     | here q=>rw [e] at q;cases q
     | @next d' _ r=>
       dsimp only;split
       ·exact ⟨_,rfl,.inr ⟨p.j,i,_,d',rfl,Nat.lt_succ_self _,r,adv,e⟩⟩
       ·obtain ⟨met,a,b⟩:=Ji hd f h fuel d' _ r (by omega) adv
        refine ⟨met,a, ?_⟩;rcases b with b|⟨j,i,q,d'',b1,b2,b3⟩
        ·exact .inl b
        ·exact .inr ⟨j,i,q,d'',b1,by omega,b3⟩
theorem Bk (mask i:Nat):SetTable.runEnd mask i - i<=9:=by
 unfold SetTable.runEnd;split<;>omega
theorem qe {j0:Nat} (e0:t.slot j0 = .empty):∀(n m:Nat) (p:SetTable.Probe),p.more=m->(lps t.mask n (SetTable.leap t.mask p.i p.perturb)).1=j0->yM t (m+1+10*n) p
 | n,m+1,p,hm,h=>by
   refine (yM.next (d:=m+1+10*n) ?_).mono (by omega);have e:t.advance p={p with j:=p.j+1,more:=p.more - 1}:=by unfold SetTable.advance;rw [if_pos (by omega)]
   rw [e];exact qe e0 n m _ (by show p.more - 1=m;omega) h
 | 0,0,p,hm,h=>by
   refine (yM.next (d:=0) ?_).mono (by omega);refine .here ?_;have e:(t.advance p).j=(SetTable.leap t.mask p.i p.perturb).1:=by unfold SetTable.advance;rw [if_neg (by omega)]
   rw [e,show (SetTable.leap t.mask p.i p.perturb).1=j0 from h];exact e0
 | n+1,0,p,hm,h=>by
   have e:t.advance p={p with j:=(SetTable.leap t.mask p.i p.perturb).1,more:=SetTable.runEnd t.mask (SetTable.leap t.mask p.i p.perturb).1 - (SetTable.leap t.mask p.i p.perturb).1,i:=(SetTable.leap t.mask p.i p.perturb).1,perturb:=(SetTable.leap t.mask p.i p.perturb).2}:=by unfold SetTable.advance;rw [if_neg (by omega)]
   have r:=qe e0 n _ (t.advance p) rfl (by rw [e];exact h);refine (yM.next (r.mono (e:=10*(n+1)) ?_)).mono (by omega);rw [e];have:=Bk t.mask (SetTable.leap t.mask p.i p.perturb).1;show SetTable.runEnd t.mask (SetTable.leap t.mask p.i p.perturb).1 - (SetTable.leap t.mask p.i p.perturb).1+1+10*n<=_;omega
termination_by n m=>(n,m)
theorem DG {k:Nat} (hm:t.mask+1=2 ^ k) (hd:t.dummies = #[]) (hs:t.place.size<=t.mask) (h:Int):yM t (10*(t.mask+14)) (t.probeStart h)/\(t.probeStart h).dummy=none:=by
 obtain ⟨j0,hj,e0⟩:=E_ hd hs;have hb:SetTable.bits h<2 ^ 64:=by unfold SetTable.bits;omega
 have hl:(SetTable.leap t.mask (t.probeStart h).i (t.probeStart h).perturb).1<=t.mask:=Nat.le_of_lt_succ (Nat.mod_lt _ (Nat.succ_pos _));have hp:(SetTable.leap t.mask (t.probeStart h).i (t.probeStart h).perturb).2<2 ^ 64:=Nat.lt_of_le_of_lt (Nat.div_le_self _ _) hb;obtain ⟨n,hn,e⟩:=reach hm hl hp hj;have few:(t.probeStart h).more<=9:=Bk _ _;exact ⟨(qe e0 n _ _ rfl e).mono (by omega),rfl⟩
end
theorem Cw {owner:Array (Option Nat)} {mask:Nat}:∀(n fuel i p:Nat),n<fuel->owner[(lps mask n (i,p)).1]? = some none -> ∃j,SetTable.layClean.free mask owner fuel i p=some j/\owner[j]? = some none
 | n,0,i,p,lt,_=>absurd lt (Nat.not_lt_zero _)
 | n,fuel+1,i,p,lt,h=>by
   unfold SetTable.layClean.free;cases e:(List.range (SetTable.runEnd mask i+1 - i)).find? fun k=>(owner.getD (i+k) (some 0)).isNone with
   | some k=>
     refine ⟨i+k,rfl, ?_⟩;have q:=List.find?_some e;rw [Array.getD_eq_getD_getElem?] at q;cases e2:owner[i+k]? with
     | none=>rw [e2] at q;cases q
     | some o=>rw [e2] at q;cases o with
       | none=>rfl
       | some x=>cases q
   | none=>
     cases n with
     | zero=>
       exfalso;have h0:(0:Nat)∈List.range (SetTable.runEnd mask i+1 - i):=List.mem_range.mpr (by unfold SetTable.runEnd;split<;>omega);have q:=List.find?_eq_none.mp e 0 h0;apply q;rw [Array.getD_eq_getD_getElem?];have h:owner[i]? = some none:=h;show ((owner[i+0]?).getD (some 0)).isNone=true;rw [Nat.add_zero,h];rfl
     | succ n=>
       exact Cw n fuel _ _ (by omega) h
theorem GX {l:List (Option Nat)} {j k:Nat} (h:l[j]? = some none):((l.set j (some k)).filterMap id).Perm (l.filterMap id++[k]):=by
 have hl:j<l.length:=(List.getElem?_eq_some_iff.mp h).1
 have e:l=l.take j++none::l.drop (j+1):=by
  have h1:=(List.take_append_drop j l).symm;rw [List.drop_eq_getElem_cons hl] at h1;have h2:l[j]=none:=(List.getElem?_eq_some_iff.mp h).2;rw [h2] at h1;exact h1
 have e2:l.set j (some k)=l.take j++some k::l.drop (j+1):=by
  rw [List.set_eq_take_append_cons_drop,if_pos hl]
 rw [e2]
 conv=>rhs;rw [e]
 simp only [List.filterMap_append,List.filterMap_cons,id];rw [List.append_assoc];exact List.Perm.append_left _ (List.perm_append_singleton k _).symm
theorem Lh {l:List (Option Nat)} {k:Nat} (h:(l.filterMap id).Perm (List.range k)) (lt:k<l.length):∃j:Nat,l[j]? = some none:=by
 refine Classical.byContradiction fun no=> ?_
 have all:∀l:List (Option Nat),(∀j:Nat,l[j]? ≠ some none)->(l.filterMap id).length=l.length:=by
  intro l
  induction l with
  | nil=>intro _;rfl
  | cons x l ih=>
    intro h;cases x with
    | none=>exact absurd rfl (h 0)
    | some x=>
      simp only [List.filterMap_cons,id,List.length_cons];rw [ih fun j=>h (j+1)]
 have a:=all l fun j e=>no ⟨j,e⟩;rw [h.length_eq,List.length_range] at a;omega
def m5 (mask:Nat):Option (Array (Option Nat)×Nat)->Int->Option (Array (Option Nat)×Nat):=fun acc h=>do
 let (owner,k) ←acc
 let j ←SetTable.layClean.free mask owner (SetTable.turns mask) (SetTable.bits h % (mask+1)) (SetTable.bits h)
 pure (owner.setIfInBounds j (some k),k+1)
theorem Io {mask e:Nat} (hm:mask+1=2 ^ e):∀(hs:List Int) (owner:Array (Option Nat)) (k:Nat),owner.size=mask+1->(owner.toList.filterMap id).Perm (List.range k)->k+hs.length<=mask ->
 ∃o',hs.foldl (m5 mask) (some (owner,k))=some (o',k+hs.length)/\o'.size=mask+1/\(o'.toList.filterMap id).Perm (List.range (k+hs.length))
 | [],owner,k,h1,h2,_=>⟨owner,rfl,h1,h2⟩
 | h::hs,owner,k,h1,h2,h3=>by
   rw [List.length_cons] at h3;obtain ⟨j0,e0⟩:=Lh h2 (by rw [Array.length_toList];omega);rw [Array.getElem?_toList] at e0;have j0l:j0<owner.size:=(Array.getElem?_eq_some_iff.mp e0).1;have hb:SetTable.bits h<2 ^ 64:=by unfold SetTable.bits;omega
   obtain ⟨n,hn,q⟩:=reach hm (i:=SetTable.bits h % (mask+1)) (p:=SetTable.bits h) (j:=j0) (Nat.le_of_lt_succ (Nat.mod_lt _ (Nat.succ_pos _))) hb (by omega);obtain ⟨j,f1,f2⟩:=Cw (owner:=owner) (mask:=mask) n (SetTable.turns mask) _ _ (by unfold SetTable.turns;omega) (by rw [q];exact e0)
   have st:m5 mask (some (owner,k)) h=some (owner.setIfInBounds j (some k),k+1):=by
    unfold m5;simp only [Option.bind_eq_bind,Option.bind_some,f1];rfl
   rw [List.foldl_cons,st]
   obtain ⟨o',a,b,c⟩:=Io hm hs (owner.setIfInBounds j (some k)) (k+1) (by simp [h1]) (by
    rw [Array.toList_setIfInBounds];rw [←Array.getElem?_toList] at f2;exact (GX f2).trans ((h2.append_right _).trans (by rw [List.range_succ]))) (by omega)
   refine ⟨o', ?_,b, ?_⟩
   ·rw [a,List.length_cons];congr 2;omega
   ·rw [List.length_cons,show k+(hs.length+1)=k+1+hs.length by omega];exact c
theorem wQ:∀l:List (Option Nat),(List.range l.length).filterMap (fun j=>(l[j]?).getD none)=l.filterMap id
 | []=>rfl
 | x::l=>by
   rw [List.length_cons,List.range_succ_eq_map,List.filterMap_cons,List.filterMap_map,List.filterMap_cons];have e:List.filterMap ((fun j=>((x::l)[j]?).getD none)∘Nat.succ) (List.range l.length)=l.filterMap id:=by rw [←wQ l];rfl
   rw [e];rfl
theorem Lp {mask e finger moves:Nat} {led plain:Bool} (hm:mask+1=2 ^ e) (hs:Array Int) (hl:hs.size<=mask):
 ∃t' order,SetTable.laid mask finger moves led plain hs=some (t',order)/\t'.mask=mask/\t'.dummies = #[]/\t'.place.size=hs.size/\t'.led=led/\t'.plain=plain/\t'.place.toList.Pairwise (· < ·)/\order.toList.Perm (List.range hs.size):=by
 obtain ⟨o',a,b,c⟩:=Io hm hs.toList (Array.replicate (mask+1) none) 0 (by simp) (by
  have:∀n,(List.replicate n (none:Option Nat)).filterMap id=[]:=by
   intro n
   induction n with
   | zero=>rfl
   | succ n ih=>rw [List.replicate_succ,List.filterMap_cons];exact ih
  rw [Array.toList_replicate,this];exact List.Perm.refl _) (by rw [Array.length_toList];omega)
 have lc:SetTable.layClean mask hs=some o':=by
  unfold SetTable.layClean;rw [←Array.foldl_toList];have:hs.toList.foldl (m5 mask) (some (Array.replicate (mask+1) none,0))=some (o',0+hs.toList.length):=a;unfold m5 at this;rw [this];rfl
 have e2:(List.range (mask+1)).filterMap (fun j=>o'.getD j none)=o'.toList.filterMap id:=by
  rw [←wQ,Array.length_toList,b];congr 1;funext j;rw [Array.getD_eq_getD_getElem?,Array.getElem?_toList]
 have e3:((List.range (mask+1)).filterMap fun j=>(o'.getD j none).map (j,·)).map (·.2)=o'.toList.filterMap id:=by
  rw [←e2,List.map_filterMap];congr 1;funext j;cases o'.getD j none<;>rfl
 rw [Nat.zero_add,Array.length_toList] at c;refine ⟨_,_,by unfold SetTable.laid;rw [lc];rfl,rfl,rfl, ?_,rfl,rfl, ?_, ?_⟩
 ·have:=congrArg List.length e3
  rw [List.length_map,c.length_eq,List.length_range] at this;simpa using this
 ·dsimp only
  rw [List.pairwise_map];refine List.Pairwise.filterMap _ (fun {x y} lt u hu v hv=> ?_) List.pairwise_lt_range;cases ex:o'.getD x none with
  | none=>rw [ex] at hu;cases hu
  | some p=>
    cases ey:o'.getD y none with
    | none=>rw [ey] at hv;cases hv
    | some q=>
      rw [ex] at hu;rw [ey] at hv;cases hu;cases hv;exact lt
 ·dsimp only
  rw [e3];exact c
end L2
set_option Elab.async false
set_option linter.all false
set_option maxRecDepth 100000
set_option maxHeartbeats 1000000
namespace L2
open PySem PySem.Spec PyProof.Rows
section
variable {prog:Program} {w:World} {A:Around} {E:Value->Shared->Prop} {s:Shared}
abbrev lN (prog:Program) (w:World):HeapKind prog w (List Int):=tupleKind (intKind prog w)
theorem items_int {ks:List Int} {vs:List Value} (h:ItemsAre (intKind prog w) ks vs):∀v∈vs,∃n t,v=Value.int n t:=by
 induction h with
 | nil=>intro v hv;cases hv
 | @cons k v' ks vs h1 _ ih=>
   intro v hv;rcases List.mem_cons.mp hv with rfl|hv
   ·obtain ⟨t,rfl⟩:=Value.isInt_shape h1
    exact ⟨_,t,rfl⟩
   ·exact ih v hv
theorem Jx {ks:List Int} {a:Addr} {Q:Bool->Shared->Prop} (hk:(lN prog w).is s.heap ks a) (h:Q true s):wpAny (model prog w) A (hashByValue 8 (.ref a)) Q E s:=by
 have hT:=IsTupleKey.typeIs hk;obtain ⟨o,items,n,ho,_,hd,hi⟩:=hk;unfold hashByValue;refine wpAny_bind (wpAny_specialOf hT F.slot_tuple_hash.lookup ?_);show wpAny _ _ (seqItems? (.ref a) >>= _) _ _ s;refine wpAny_bind (wpAny_seqItems ho hd ?_);refine wpAny_bind ?_;show wpAny _ _ (forIn items _ _) _ _ s;rw [←Array.forIn_toList];refine wpAny_forIn_list _ (fun rest r s'=>r.1=none/\s'=s /\ ∀v∈rest,∃n t,v=Value.int n t) _ ?_ ?_ _ _ ⟨rfl,rfl,items_int hi⟩
 ·rintro v rest r s' ⟨hr,rfl,hall⟩
  obtain ⟨m,t,rfl⟩:=hall v (.head _);refine wpAny_bind (wpAny_of_eq (show hashByValue 7 (.int m t)=pure true from rfl) ?_);exact wpAny_pure ⟨rfl,rfl,fun u hu=>hall u (.tail _ hu)⟩
 ·rintro ⟨r1,r2⟩ s' ⟨hr,rfl,_⟩
  simp only at hr;subst hr;exact wpAny_pure h
theorem xG {ks:List Int} {a:Addr} {Q:Bool->Shared->Prop} (hk:(lN prog w).is s.heap ks a) (h:Q false s):wpAny (model prog w) A (ofAClassStatement 8 (.ref a)) Q E s:=by
 have hT:=IsTupleKey.typeIs hk;obtain ⟨o,items,n,ho,_,hd,hi⟩:=hk;unfold ofAClassStatement;refine wpAny_bind (wpAny_typeOf hT ?_);dsimp only;rw [if_pos (by decide)];refine wpAny_bind (wpAny_pure ?_);simp only [Bool.not_true,Bool.false_eq_true,if_false];refine wpAny_bind (wpAny_seqItems ho hd ?_);dsimp only;refine wpAny_bind ?_;show wpAny _ _ (forIn items _ _) _ _ s;rw [←Array.forIn_toList];refine wpAny_forIn_list _ (fun rest r s'=>r.1=none/\s'=s /\ ∀v∈rest,∃n t,v=Value.int n t) _ ?_ ?_ _ _ ⟨rfl,rfl,items_int hi⟩
 ·rintro v rest r s' ⟨hr,rfl,hall⟩
  obtain ⟨m,t,rfl⟩:=hall v (.head _);refine wpAny_bind (wpAny_of_eq (show ofAClassStatement 7 (.int m t)=pure false from rfl) ?_);exact wpAny_pure ⟨rfl,rfl,fun u hu=>hall u (.tail _ hu)⟩
 ·rintro ⟨r1,r2⟩ s' ⟨hr,rfl,_⟩
  simp only at hr;subst hr;exact wpAny_pure h
theorem N7 {ks:List Int} {a:Addr} {Q:Bool->Shared->Prop} (hk:(lN prog w).is s.heap ks a) (l:List Value) (hl:∀v∈l,∃b js,v = .ref b/\(lN prog w).is s.heap js b) (h:Q false s):wpAny (model prog w) A (searchCouldBeSeen (.ref a) l) Q E s:=by
 unfold searchCouldBeSeen;refine wpAny_bind ?_;refine wpAny_forIn_list _ (fun rest r s'=>r.1=none/\s'=s /\ ∀v∈rest,∃b js,v = .ref b/\(lN prog w).is s.heap js b) _ ?_ ?_ _ _ ⟨rfl,rfl,hl⟩
 ·rintro v rest r s' ⟨hr,rfl,hall⟩
  obtain ⟨b,js,rfl,hb⟩:=hall v (.head _);dsimp only;split
  ·exact wpAny_pure ⟨rfl,rfl,fun u hu=>hall u (.tail _ hu)⟩
  ·refine wpAny_bind ((lN prog w).quiet hk ?_)
   simp only [Bool.not_true,Bool.false_eq_true,if_false];refine wpAny_bind ((lN prog w).quiet hb ?_);simp only [Bool.not_true,Bool.false_eq_true,if_false];refine wpAny_bind (xG hk ?_);simp only [Bool.false_eq_true,if_false];refine wpAny_bind (xG hb ?_);simp only [Bool.false_eq_true,if_false];exact wpAny_pure ⟨rfl,rfl,fun u hu=>hall u (.tail _ hu)⟩
 ·rintro ⟨r1,r2⟩ s' ⟨hr,rfl,_⟩
  simp only at hr;subst hr;exact wpAny_pure h
def v8 (mask n:Nat):Prop:=(mask=7/\n<=4)\/(mask=31/\n<=18)\/(mask=127/\n<=76)\/(mask=511/\n<=306)\/(mask=2047/\n<=1228)\/(mask=8191/\n<=4914)
structure TabOk (t:SetTable) (n:Nat):Prop where
 dm:t.dummies = #[]
 pl:t.place.size=n
 sz:v8 t.mask n
 plain:t.plain=true
 X8:t.place.toList.Pairwise (· < ·)
theorem v8.pow {mask n:Nat} (h:v8 mask n):(∃k,mask+1=2 ^ k)/\n<=mask/\mask<=8191/\mask % 2=1:=by
 rcases h with ⟨rfl,h⟩|⟨rfl,h⟩|⟨rfl,h⟩|⟨rfl,h⟩|⟨rfl,h⟩|⟨rfl,h⟩
 ·exact ⟨⟨3,by decide⟩,by omega,by omega,by decide⟩
 ·exact ⟨⟨5,by decide⟩,by omega,by omega,by decide⟩
 ·exact ⟨⟨7,by decide⟩,by omega,by omega,by decide⟩
 ·exact ⟨⟨9,by decide⟩,by omega,by omega,by decide⟩
 ·exact ⟨⟨11,by decide⟩,by omega,by omega,by decide⟩
 ·exact ⟨⟨13,by decide⟩,by omega,by omega,by decide⟩
theorem TabOk.fits {t:SetTable} {n:Nat} (h:TabOk t n):t.fits n=true:=by
 unfold SetTable.fits SetTable.fill;rw [h.dm,h.pl];have:=h.sz.pow.2.1;simp;omega
abbrev EK:=List Int×Addr
def QV (prog:Program) (w:World) (x:EK):Int×Value:=((lN prog w).hash x.1,.ref x.2)
structure oG (prog:Program) (w:World) (h:Heap) (a:Addr) (o:Obj) (es:Array (Int×Value)) (ep:Nat) (t:SetTable) (xs:List EK):Prop where
 at_:h.get? a=some o
 ex:o.ExactSet
 dat:o.data = .set es ep t
 els:es.toList=xs.map (QV prog w)
 is_:∀x∈xs,(lN prog w).is h x.1 x.2
 tab:TabOk t es.size
def Vs (t:SetTable) (d:Nat) (met:SetTable.Met):Prop:=(∃j,met = .empty j none/\t.slot j = .empty) \/ ∃j i q d',met = .candidate j i q/\d'<d/\yM t d' q/\q.dummy=none/\t.slot j = .live i
theorem zQ {t:SetTable} {d:Nat} {h:Int} {p:SetTable.Probe} (hd:t.dummies = #[]) (r:yM t d p) (le:d<=10*(t.mask+14)) (nd:p.dummy=none) {f:Nat->Int} (e:∀met,t.probe f h p=some met->False):False:=by
 obtain ⟨met,g1,_⟩:=Ji hd f h (10*SetTable.turns t.mask) d p r (by unfold SetTable.turns;omega) nd;exact e met g1
theorem zP {t:SetTable} {d:Nat} {h:Int} {p:SetTable.Probe} (hd:t.dummies = #[]) (r:yM t d p) (le:d<=10*(t.mask+14)) (nd:p.dummy=none) {f:Nat->Int} {met:SetTable.Met} (e:t.probe f h p=some met):Vs t d met:=by
 obtain ⟨met',g1,g2⟩:=Ji hd f h (10*SetTable.turns t.mask) d p r (by unfold SetTable.turns;omega) nd;unfold SetTable.probe at e;rw [g1] at e;cases e;exact g2
theorem Dp {a:Addr} {o:Obj} {es:Array (Int×Value)} {ep:Nat} {t:SetTable} {xs:List EK} {k:List Int} {x:Addr} {Q:SetFound->Shared->Prop} (hr:(lN prog w).room A) (S:oG prog w s.heap a o es ep t xs) (hk:(lN prog w).is s.heap k x)
 (h1:∀j,t.slot j = .empty->Q (.free j false) s) (h2:(∃y∈xs,y.1=k)->Q (.there none) s):∀(fuel d:Nat) (stand:Option SetTable.Probe),yM t d (stand.getD (t.probeStart ((lN prog w).hash k)))->(stand.getD (t.probeStart ((lN prog w).hash k))).dummy=none->d<fuel->d<=10*(t.mask+14) ->
 wpAny (model prog w) A (setSearchFrom a (.ref x) ((lN prog w).hash k) true fuel stand) Q E s:=by
 intro fuel
 induction fuel with
 | zero=>intro d stand _ _ lt;exact absurd lt (Nat.not_lt_zero _)
 | succ fuel ih=>
   intro d stand r nd lt le;unfold setSearchFrom;refine wpAny_bind (wpAny_setState_of S.at_ S.dat S.tab.fits ?_);dsimp only
   have gw:t.gaveWay=false:=by
    unfold SetTable.gaveWay;rw [S.tab.sz.pow.2.2.2];rfl
   rw [gw];simp only [Bool.false_eq_true,if_false];split
   rotate_left
   ·rename_i e
    exact (zQ S.tab.dm r le nd e).elim
   rename_i met e;have g2:=zP S.tab.dm r le nd e;rcases g2 with ⟨j,rfl,ej⟩|⟨j,i,q,d',rfl,agA,r',nd',ej⟩
   ·exact wpAny_pure (h1 j ej)
   ·have pl:=tH ej
    have il:i<es.size:=by rw [←S.tab.pl];exact (Array.getElem?_eq_some_iff.mp pl).1
    obtain ⟨y,hy,ey⟩:∃y∈xs,es[i]? = some ((lN prog w).hash y.1,Value.ref y.2):=by
     have el:xs.length=es.size:=by rw [←Array.length_toList,S.els,List.length_map]
     have hx:xs[i]? = some (xs[i]'(by omega)):=by simp [show i<xs.length by omega]
     refine ⟨_,List.mem_of_getElem? hx, ?_⟩;rw [←Array.getElem?_toList,S.els,List.getElem?_map,hx];rfl
    have sm:t.sameMemory t.moves t.mask=some true:=by unfold SetTable.sameMemory;simp
    have seen:∀v∈((es.filter (·.1==(lN prog w).hash k)).toList.map (·.2)),∃b js,v=Value.ref b/\(lN prog w).is s.heap js b:=fun v hv=>by
     obtain ⟨e,he,rfl⟩:=List.mem_map.mp hv
     have he:e∈es.toList:=by
      rw [Array.toList_filter] at he;exact (List.mem_filter.mp he).1
     rw [S.els] at he;obtain ⟨z,hz,rfl⟩:=List.mem_map.mp he;exact ⟨z.2,z.1,rfl,S.is_ z hz⟩
    dsimp only;split
    ·refine wpAny_bind (N7 hk _ seen ?_)
     simp only [Bool.false_eq_true,if_false];rw [ey];dsimp only;refine wpAny_bind (wpAny_holding ((lN prog w).eqBool hr (S.is_ y hy) hk ?_));refine wpAny_bind (wpAny_setState_of S.at_ S.dat S.tab.fits ?_)
     by_cases q1:y.1=k
     ·rw [decide_eq_true q1]
      exact wpAny_pure (h2 ⟨y,hy,q1⟩)
     ·rw [decide_eq_false q1]
      dsimp only;rw [sm];simp only [Bool.and_false,Bool.false_eq_true,if_false,if_true,ej,ey];refine wpAny_bind (wpAny_isSame_ref_self ?_);refine wpAny_bind (wpAny_pure ?_);exact ih d' (some q) r' nd' (by omega) (by omega)
    ·rw [ey]
     dsimp only;refine wpAny_bind (wpAny_holding ((lN prog w).eqBool hr (S.is_ y hy) hk ?_));refine wpAny_bind (wpAny_setState_of S.at_ S.dat S.tab.fits ?_)
     by_cases q1:y.1=k
     ·rw [decide_eq_true q1]
      exact wpAny_pure (h2 ⟨y,hy,q1⟩)
     ·rw [decide_eq_false q1]
      dsimp only;rw [sm];simp only [Bool.and_false,Bool.false_eq_true,if_false,if_true,ej,ey];refine wpAny_bind (wpAny_isSame_ref_self ?_);refine wpAny_bind (wpAny_pure ?_);exact ih d' (some q) r' nd' (by omega) (by omega)
end
end L2
set_option Elab.async false
set_option linter.all false
set_option maxRecDepth 100000
set_option maxHeartbeats 1000000
namespace L2
open PySem PySem.Spec PyProof.Rows
section
variable {prog:Program} {w:World} {A:Around} {E:Value->Shared->Prop} {s:Shared}
theorem Ke {mask n:Nat} (h:v8 mask n) (hn:n+1<=4914):((n+1)*5<mask*3/\v8 mask (n+1))\/(mask*3<=(n+1)*5/\v8 (SetTable.sizeAbove (SetTable.grown (n+1)) - 1) (n+1)/\SetTable.sizeAbove (SetTable.grown (n+1))<=8192):=by
 have full:∀m,m=5\/m=19\/m=77\/m=307\/m=1229->v8 (SetTable.sizeAbove (SetTable.grown m) - 1) m/\SetTable.sizeAbove (SetTable.grown m)<=8192:=by
  rintro m (rfl|rfl|rfl|rfl|rfl)
  ·exact ⟨.inr (.inl ⟨by decide,by decide⟩),by decide⟩
  ·exact ⟨.inr (.inr (.inl ⟨by decide,by decide⟩)),by decide⟩
  ·exact ⟨.inr (.inr (.inr (.inl ⟨by decide,by decide⟩))),by decide⟩
  ·exact ⟨.inr (.inr (.inr (.inr (.inl ⟨by decide,by decide⟩)))),by decide⟩
  ·exact ⟨.inr (.inr (.inr (.inr (.inr ⟨by decide,by decide⟩)))),by decide⟩
 rcases h with ⟨rfl,h⟩|⟨rfl,h⟩|⟨rfl,h⟩|⟨rfl,h⟩|⟨rfl,h⟩|⟨rfl,h⟩
 ·by_cases q:n+1<=4
  ·exact .inl ⟨by omega,.inl ⟨rfl,q⟩⟩
  ·exact .inr ⟨by omega,full _ (by omega)⟩
 ·by_cases q:n+1<=18
  ·exact .inl ⟨by omega,.inr (.inl ⟨rfl,q⟩)⟩
  ·exact .inr ⟨by omega,full _ (by omega)⟩
 ·by_cases q:n+1<=76
  ·exact .inl ⟨by omega,.inr (.inr (.inl ⟨rfl,q⟩))⟩
  ·exact .inr ⟨by omega,full _ (by omega)⟩
 ·by_cases q:n+1<=306
  ·exact .inl ⟨by omega,.inr (.inr (.inr (.inl ⟨rfl,q⟩)))⟩
  ·exact .inr ⟨by omega,full _ (by omega)⟩
 ·by_cases q:n+1<=1228
  ·exact .inl ⟨by omega,.inr (.inr (.inr (.inr (.inl ⟨rfl,q⟩))))⟩
  ·exact .inr ⟨by omega,full _ (by omega)⟩
 ·exact .inl ⟨by omega,.inr (.inr (.inr (.inr (.inr ⟨rfl,hn⟩))))⟩
theorem Iz {h h':Heap} {k:List Int} {x a:Addr} {o:Obj} {es:Array (Int×Value)} {ep:Nat} {t:SetTable} (hk:(lN prog w).is h k x) (ho:h.get? a=some o) (hd:o.data = .set es ep t) (hs:Heap.SameBut a h h'):(lN prog w).is h' k x:=by
 obtain ⟨o',items,n,ho',hc,hd',hi⟩:=hk
 have hne:x≠a:=by
  rintro rfl;obtain rfl:o'=o:=Option.some.inj (ho'.symm.trans ho);rw [hd] at hd';exact nomatch hd'
 exact ⟨o',items,n,(hs.2 x hne).trans ho',hc,hd',hi⟩
theorem Bu {h:Heap} {a:Addr} {o:Obj} {es es':Array (Int×Value)} {ep:Nat} {t t':SetTable} (ho:h.get? a=some o) (hex:o.ExactSet) (hd:o.data = .set es ep t):
 (h.update a (Obj.putSet es' t')).get? a=some {o with data:= .set es' (ep+1) t'}:=by
 have:=Heap.get?_update_self (Obj.putSet es' t') ho (by rw [putSet_of es' t' hd];rfl);rw [putSet_of es' t' hd] at this;exact this
theorem KN {t:SetTable} (hd:t.dummies = #[]) (j:Nat):t.put j=({t with place:=SetTable.insertAt t.place (SetTable.below t.place j) j},SetTable.below t.place j):=by
 unfold SetTable.put;rw [hd];have:SetTable.has #[] j=false:=rfl;rw [this];obtain ⟨m,p,d,f,l,mo,pl⟩:=t;simp only at hd;subst hd;rfl
theorem yc {α:Type} (xs:Array α) (p:Nat) (x:α):(SetTable.insertAt xs p x).size=xs.size+1:=by
 rw [←Array.length_toList,(SetTable.insertAt_perm xs p x).length_eq,Array.length_toList,Array.size_push]
theorem G8 {a:Addr} {o:Obj} {es:Array (Int×Value)} {ep wanted:Nat} {t:SetTable} {xs:List EK} {Q:Unit->Shared->Prop} (ho:s.heap.get? a=some o) (hex:o.ExactSet) (hd:o.data = .set es ep t) (hf:t.fits es.size=true) (he:es.toList=xs.map (QV prog w))
 (sz:v8 (SetTable.sizeAbove wanted - 1) es.size) (le:SetTable.sizeAbove wanted<=8192)
 (h:∀(es':Array (Int×Value)) (t':SetTable) (xs':List EK),es'.toList=xs'.map (QV prog w)->xs'.Perm xs->t'.dummies = #[]->t'.place.size=es'.size->v8 t'.mask es'.size->t'.plain=t.plain->t'.led=t.led->t'.place.toList.Pairwise (· < ·)->Q () {s with heap:=s.heap.update a (Obj.putSet es' t')}):
 wpAny (model prog w) A (setRelay a wanted) Q E s:=by
 unfold setRelay;refine wpAny_bind (wpAny_setState_of ho hd hf ?_);dsimp only;rw [if_neg (by rw [sizeLine_eq];omega)];obtain ⟨⟨k,hm⟩,Ru,mle,_⟩:=sz.pow;obtain ⟨t',order,l1,l2,l3,l4,l5,l6,l7,l8⟩:=Lp (finger:=t.finger) (moves:=t.movedTo (SetTable.sizeAbove wanted - 1)) (led:=t.led) (plain:=t.plain) hm (es.map (·.1)) (by rw [Array.size_map];exact Ru);rw [Array.size_map] at l4 l8;have e1:t.relaid (es.map (·.1)) wanted=some (t',order):=l1;have el:xs.length=es.size:=by rw [←Array.length_toList,he,List.length_map]
 have p1:(order.filterMap (es[·]?)).toList=(order.toList.filterMap fun i=>xs[i]?).map (QV prog w):=by
  rw [Array.toList_filterMap,List.map_filterMap];congr 1;funext i;rw [←Array.getElem?_toList,he,List.getElem?_map]
 have p2:(order.toList.filterMap fun i=>xs[i]?).Perm xs:=by
  have:=l8.filterMap fun i=>xs[i]?;rw [←el] at this;exact this.trans (by rw [List.filterMap_getElem?_range_length])
 have iG:(order.filterMap (es[·]?)).size=es.size:=by rw [←Array.length_toList,p1,List.length_map,p2.length_eq,el]
 show wpAny (model prog w) A ((do
  let some (t,order):=t.relaid (es.map (·.1)) wanted|unsupported "internal:set-table-without-room"
  let es':=order.filterMap (es[·]?)
  if es'.size != es.size then unsupported "internal:set-table-lost-an-element"
  pure (es',t):Sem (Array (Int×Value)×SetTable)) >>= fun x=>storeSet a x.1 x.2) Q E s
 rw [e1];dsimp only;rw [if_neg (by rw [iG];simp)];refine wpAny_bind (wpAny_pure ?_);refine wpAny_storeSet_of ho hd ?_ (by rw [sizeLine_eq,iG];omega);exact h _ _ _ p1 p2 l3 (by rw [iG];exact l4) (by rw [iG,l2];exact sz) l6 l5 l7
theorem rG {xs:Array Nat} {j:Nat} (hp:xs.toList.Pairwise (· < ·)):∀(fuel lo hi:Nat),hi<=xs.size->lo<=hi->hi - lo<=fuel->(∀(i v:Nat),i<lo->xs[i]? = some v->v<j)->(∀(i v:Nat),hi<=i->xs[i]? = some v->j<=v) ->
 SetTable.below.go xs j fuel lo hi<=xs.size/\(∀(i v:Nat),i<SetTable.below.go xs j fuel lo hi->xs[i]? = some v->v<j) /\ ∀(i v:Nat),SetTable.below.go xs j fuel lo hi<=i->xs[i]? = some v->j<=v
 | 0,lo,hi,h1,h2,h3,h4,h5=>by
   unfold SetTable.below.go;have:lo=hi:=by omega
   subst this;exact ⟨h1,h4,h5⟩
 | fuel+1,lo,hi,h1,h2,h3,h4,h5=>by
   have mono:∀(a b u v:Nat),a<=b->xs[a]? = some u->xs[b]? = some v->u<=v:=fun a b u v ab ea eb=>by
    rcases Nat.eq_or_lt_of_le ab with e|lt
    ·subst e
     rw [ea] at eb;cases eb;exact Nat.le_refl _
    ·rw [←Array.getElem?_toList] at ea eb
     obtain ⟨l1,q1⟩:=List.getElem?_eq_some_iff.mp ea;obtain ⟨l2,q2⟩:=List.getElem?_eq_some_iff.mp eb;have:=List.pairwise_iff_getElem.mp hp a b l1 l2 lt;rw [q1,q2] at this;exact Nat.le_of_lt this
   unfold SetTable.below.go;split
   ·rename_i lt
    dsimp only;have ml:(lo+hi) / 2<xs.size:=by omega
    have em:xs[(lo+hi) / 2]? = some xs[(lo+hi) / 2]:=by simp [ml]
    have eg:xs.getD ((lo+hi) / 2) j=xs[(lo+hi) / 2]:=by rw [Array.getD_eq_getD_getElem?,em];rfl
    rw [eg];split
    ·rename_i q
     exact rG hp fuel _ hi h1 (by omega) (by omega) (fun i v hi' e=>Nat.lt_of_le_of_lt (mono _ _ _ _ (by omega) e em) q) h5
    ·rename_i q
     exact rG hp fuel lo _ (by omega) (by omega) (by omega) h4 (fun i v hi' e=>Nat.le_trans (by omega) (mono _ _ _ _ hi' em e))
   ·have:lo=hi:=by omega
    subst this;exact ⟨h1,h4,h5⟩
theorem rF {xs:Array Nat} {j:Nat} (hp:xs.toList.Pairwise (· < ·)):SetTable.below xs j<=xs.size/\(∀(i v:Nat),i<SetTable.below xs j->xs[i]? = some v->v<j) /\ ∀(i v:Nat),SetTable.below xs j<=i->xs[i]? = some v->j<=v:=by
 unfold SetTable.below;refine rG hp xs.size 0 xs.size (Nat.le_refl _) (Nat.zero_le _) (by omega) (fun i v h=>absurd h (Nat.not_lt_zero _)) (fun i v h e=> ?_);have:=(Array.getElem?_eq_some_iff.mp e).1;omega
theorem Ai {xs:Array Nat} {i v:Nat} (hp:xs.toList.Pairwise (· < ·)) (e:xs[i]? = some v):SetTable.below xs (v+1)=i+1:=by
 obtain ⟨b1,b2,b3⟩:=rF (j:=v+1) hp
 have l1:i<SetTable.below xs (v+1):=by
  refine Classical.byContradiction fun q=> ?_;have:=b3 i v (by omega) e;omega
 have il:=(Array.getElem?_eq_some_iff.mp e).1;refine Classical.byContradiction fun q=> ?_;have l2:i+1<xs.size:=by omega
 have e2:xs[i+1]? = some xs[i+1]:=by simp [l2]
 have r1:=b2 (i+1) _ (by omega) e2;rw [←Array.getElem?_toList] at e e2;obtain ⟨k1,q1⟩:=List.getElem?_eq_some_iff.mp e;obtain ⟨k2,q2⟩:=List.getElem?_eq_some_iff.mp e2;have:=List.pairwise_iff_getElem.mp hp i (i+1) k1 k2 (by omega);rw [q1,q2] at this;omega
theorem Ly {t:SetTable} {j:Nat} (hd:t.dummies = #[]) (hp:t.place.toList.Pairwise (· < ·)) (e:t.slot j = .empty):(SetTable.insertAt t.place (SetTable.below t.place j) j).toList.Pairwise (· < ·):=by
 obtain ⟨b1,b2,b3⟩:=rF (j:=j) hp
 have nj:∀i:Nat,t.place[i]? ≠ some j:=fun i q=>by
  have l1:i=SetTable.below t.place j:=by
   refine Classical.byContradiction fun ne=> ?_;rcases Nat.lt_or_gt_of_ne ne with lt|gt
   ·exact Nat.lt_irrefl _ (b2 i j lt q)
   ·have il:=(Array.getElem?_eq_some_iff.mp q).1
    have bl:SetTable.below t.place j<t.place.size:=by omega
    have eb:t.place[SetTable.below t.place j]? = some t.place[SetTable.below t.place j]:=by simp [bl]
    have r:=b3 _ _ (Nat.le_refl _) eb;rw [←Array.getElem?_toList] at q eb;obtain ⟨k1,q1⟩:=List.getElem?_eq_some_iff.mp q;obtain ⟨k2,q2⟩:=List.getElem?_eq_some_iff.mp eb;have:=List.pairwise_iff_getElem.mp hp _ i k2 k1 gt;rw [q1,q2] at this;omega
  rw [l1] at q;unfold SetTable.slot at e;dsimp only at e;rw [if_pos (by rw [q];simp)] at e;cases e
 rw [SetTable.toList_insertAt]
 have tk:∀x∈t.place.toList.take (SetTable.below t.place j),x<j:=fun x hx=>by
  obtain ⟨i,hi⟩:=List.getElem?_of_mem hx
  have il:i<SetTable.below t.place j:=by
   have:=(List.getElem?_eq_some_iff.mp hi).1;rw [List.length_take] at this;omega
  rw [List.getElem?_take_of_lt il,Array.getElem?_toList] at hi;exact b2 i x il hi
 have dr:∀x∈t.place.toList.drop (SetTable.below t.place j),j<x:=fun x hx=>by
  obtain ⟨i,hi⟩:=List.getElem?_of_mem hx;rw [List.getElem?_drop,Array.getElem?_toList] at hi;have:=b3 _ x (Nat.le_add_right _ i) hi;rcases Nat.eq_or_lt_of_le this with z|z
  ·subst z;exact absurd hi (nj _)
  ·exact z
 have hp':=hp;rw [←List.take_append_drop (SetTable.below t.place j) t.place.toList] at hp';obtain ⟨p1,p2,p3⟩:=List.pairwise_append.mp hp';refine List.pairwise_append.mpr ⟨p1,List.pairwise_cons.mpr ⟨dr,p2⟩,fun x hx y hy=> ?_⟩;rcases List.mem_cons.mp hy with rfl|hy
 ·exact tk x hx
 ·exact p3 x hx y hy
end
end L2
set_option Elab.async false
set_option linter.all false
set_option maxRecDepth 100000
set_option maxHeartbeats 1000000
namespace L2
open PySem PySem.Spec PyProof.Rows
section
variable {prog:Program} {w:World} {A:Around} {E:Value->Shared->Prop} {s:Shared}
theorem oG.len {h:Heap} {a:Addr} {o:Obj} {es:Array (Int×Value)} {ep:Nat} {t:SetTable} {xs:List EK} (S:oG prog w h a o es ep t xs):es.size=xs.length:=by rw [←Array.length_toList,S.els,List.length_map]
theorem Rf {a:Addr} {o:Obj} {es:Array (Int×Value)} {ep:Nat} {t:SetTable} {xs:List EK} {k:List Int} {x:Addr} {Q:Bool->Shared->Prop} (hr:(lN prog w).room A) (S:oG prog w s.heap a o es ep t xs) (hk:(lN prog w).is s.heap k x) (hn:xs.length+1<=4914)
 (h1:(∃y∈xs,y.1=k)->Q false s)
 (h2:∀(h':Heap) (o':Obj) (es':Array (Int×Value)) (ep':Nat) (t':SetTable) (xs':List EK),Heap.SameBut a s.heap h'->oG prog w h' a o' es' ep' t' xs'->xs'.Perm (xs++[(k,x)])->t'.led=t.led->Q true {s with heap:=h'}):
 wpAny (model prog w) A (setAddHashed a (.ref x) ((lN prog w).hash k)) Q E s:=by
 have sl:=S.len;unfold setAddHashed;refine wpAny_holding ?_;unfold setAddHashedIn;refine wpAny_bind (wpAny_setState_of S.at_ S.dat S.tab.fits ?_);dsimp only;rw [show byScan (Value.ref x) es=false from rfl];simp only [Bool.false_eq_true,if_false];obtain ⟨⟨k2,hm⟩,Ru,mle,_⟩:=S.tab.sz.pow;obtain ⟨r0,d0⟩:=DG hm S.tab.dm (by rw [S.tab.pl];exact Ru) ((lN prog w).hash k);unfold setSearch;refine wpAny_bind (Dp (Q:=fun r s'=>wpAny (model prog w) A (match r with | .free slot wasDummy=>_|_=>_) Q E s') hr S hk (fun j ej=> ?_) (fun hy=> ?_) 100000 (10*(t.mask+14)) none r0 d0 (by omega) (Nat.le_refl _))
 rotate_left
 ·exact wpAny_pure (h1 hy)
 dsimp only;refine wpAny_bind (wpAny_setState_of S.at_ S.dat S.tab.fits ?_);dsimp only;rw [KN S.tab.dm j];dsimp only;rw [S.tab.plain];simp only [if_true];refine wpAny_bind (Jx hk ?_);simp only [if_true];have pz:(SetTable.insertAt t.place (SetTable.below t.place j) j).size=es.size+1:=by rw [yc,S.tab.pl]
 have ez:=yc es (SetTable.below t.place j) ((lN prog w).hash k,Value.ref x)
 have el:(SetTable.insertAt es (SetTable.below t.place j) ((lN prog w).hash k,Value.ref x)).toList=(xs.take (SetTable.below t.place j)++(k,x)::xs.drop (SetTable.below t.place j)).map (QV prog w):=by
  rw [SetTable.toList_insertAt,S.els,List.map_append,List.map_cons,List.map_take,List.map_drop];rfl
 have pm:(xs.take (SetTable.below t.place j)++(k,x)::xs.drop (SetTable.below t.place j)).Perm (xs++[(k,x)]):=by
  refine (List.perm_middle).trans ?_;rw [List.take_append_drop];exact (List.perm_append_singleton _ _).symm
 have rs:=Ly S.tab.dm S.tab.X8 ej;generalize hes:SetTable.insertAt es (SetTable.below t.place j) ((lN prog w).hash k,Value.ref x)=es1 at ez el ⊢;generalize hxs:xs.take (SetTable.below t.place j)++(k,x)::xs.drop (SetTable.below t.place j)=xs1 at el pm;generalize hpl:SetTable.insertAt t.place (SetTable.below t.place j) j=Bw at pz rs ⊢;have ho1:=Bu (es':=es1) (t':={t with place:=Bw,plain:=true}) S.at_ S.ex S.dat
 have X5:=Heap.SameBut.update s.heap a (Obj.putSet es1 {t with place:=Bw,plain:=true})
 have is1:∀{h':Heap},Heap.SameBut a s.heap h' -> ∀{ys:List EK},ys.Perm (xs++[(k,x)]) -> ∀y∈ys,(lN prog w).is h' y.1 y.2:=fun {h'} sb {ys} p y hy=>by
  rcases List.mem_append.mp (p.mem_iff.mp hy) with q|q
  ·exact Iz (S.is_ y q) S.at_ S.dat sb
  ·rw [List.mem_singleton.mp q];exact Iz hk S.at_ S.dat sb
 refine wpAny_bind (wpAny_storeSet_of S.at_ S.dat ?_ (by rw [sizeLine_eq,ez];omega))
 have fl:SetTable.fill {t with place:=Bw,plain:=true}=es.size+1:=by
  unfold SetTable.fill;show Bw.size+t.dummies.size=_;rw [pz,S.tab.dm];rfl
 rcases Ke S.tab.sz (by omega) with ⟨lt,sz⟩|⟨ge,sz,le⟩
 ·have tf:SetTable.tooFull {t with place:=Bw,plain:=true}=false:=by
   unfold SetTable.tooFull;rw [fl];exact decide_eq_false (by show ¬_≥t.mask*3;omega)
  rw [tf];simp only [Bool.and_false,Bool.false_eq_true,if_false];exact wpAny_pure (h2 _ _ _ _ _ _ X5 ⟨ho1,S.ex,rfl,el,is1 X5 pm,⟨S.tab.dm,by rw [ez];exact pz,by rw [ez];exact sz,rfl,rs⟩⟩ pm rfl)
 ·have tf:SetTable.tooFull {t with place:=Bw,plain:=true}=true:=by
   unfold SetTable.tooFull;rw [fl];exact decide_eq_true (by show _≥t.mask*3;omega)
  rw [tf];simp only [Bool.not_false,Bool.and_self,if_true];refine wpAny_bind (G8 (s:={s with heap:=s.heap.update a (Obj.putSet es1 {t with place:=Bw,plain:=true})}) ho1 S.ex rfl ?_ el (by rw [ez];exact sz) le (fun es' t' xs' q1 q2 q3 q4 q5 q6 q7 q8=> ?_))
  ·unfold SetTable.fits
   rw [fl,ez];show (Bw.size==es.size+1&&decide (es.size+1<=t.mask))=true;rw [pz]
   have:es.size+1<=t.mask:=by
    rcases S.tab.sz with ⟨e,_⟩|⟨e,_⟩|⟨e,_⟩|⟨e,_⟩|⟨e,_⟩|⟨e,_⟩<;>omega
   simp [this]
  ·have sb2:=Heap.SameBut.update (s.heap.update a (Obj.putSet es1 {t with place:=Bw,plain:=true})) a (Obj.putSet es' t')
   have ho2:=Bu (es':=es') (t':=t') ho1 S.ex rfl;have sb:=X5.trans sb2;have VN:=q2.trans pm;exact wpAny_pure (h2 _ _ _ _ _ _ sb ⟨ho2,S.ex,rfl,q1,is1 sb VN,⟨q3,q4,q5,q6,q8⟩⟩ VN q7)
end
end L2
set_option Elab.async false
set_option linter.all false
set_option maxRecDepth 100000
set_option maxHeartbeats 1000000
namespace L2
open PySem PySem.Spec PyProof.Rows
def gU (xs l:List EK):Prop:=(∀x∈xs,x∈l)/\(∀y∈l,∃x∈xs,x.1=y.1)/\((l.map (·.1)).Nodup->xs.Perm l)/\xs.length<=l.length
theorem gU.nil:gU [] []:=⟨fun _ h=>h,fun _ h=>(by cases h),fun _=> .refl _,Nat.le_refl _⟩
theorem gU.there {xs l:List EK} {k:List Int} {a:Addr} (h:gU xs l) (q:∃y∈xs,y.1=k):gU xs (l++[(k,a)]):=by
 obtain ⟨h1,h2,h3,h4⟩:=h;obtain ⟨y,hy,ey⟩:=q;refine ⟨fun x hx=>List.mem_append_left _ (h1 x hx),fun z hz=> ?_,fun nd=> ?_,by rw [List.length_append];omega⟩
 ·rcases List.mem_append.mp hz with q|q
  ·exact h2 z q
  ·rw [List.mem_singleton.mp q];exact ⟨y,hy,ey⟩
 ·rw [List.map_append] at nd
  exact absurd ey ((List.nodup_append.mp nd).2.2 y.1 (List.mem_map.mpr ⟨y,h1 y hy,rfl⟩) k (by simp))
theorem gU.laid {xs xs' l:List EK} {k:List Int} {a:Addr} (h:gU xs l) (p:xs'.Perm (xs++[(k,a)])):gU xs' (l++[(k,a)]):=by
 obtain ⟨h1,h2,h3,h4⟩:=h;refine ⟨fun x hx=> ?_,fun z hz=> ?_,fun nd=> ?_,by rw [p.length_eq,List.length_append,List.length_append];simp only [List.length_singleton];omega⟩
 ·rcases List.mem_append.mp (p.mem_iff.mp hx) with q|q
  ·exact List.mem_append_left _ (h1 x q)
  ·exact List.mem_append_right _ q
 ·rcases List.mem_append.mp hz with q|q
  ·obtain ⟨x,hx,e⟩:=h2 z q
   exact ⟨x,p.mem_iff.mpr (List.mem_append_left _ hx),e⟩
  ·exact ⟨z,p.mem_iff.mpr (List.mem_append_right _ q),rfl⟩
 ·rw [List.map_append] at nd
  exact p.trans ((h3 (List.nodup_append.mp nd).1).append_right _)
theorem fV:plainId "set.update.loop" = true:=by decide +kernel
section
variable {prog:Program} {w:World} {A:Around} {E:Value->Shared->Prop} {s:Shared}
theorem xX:∀{vs:List Value} {ns:List Int},IntsAre vs ns->ItemsAre (intKind prog w) ns vs
 | _,_,.nil=> .nil
 | _,_,.cons n t h=> .cons (intKind_is _ _ _ _) (xX h)
theorem Ce {H:Hp} {h:Heap} {ks:List Int} {a:Addr} (ok:kW prog w H h) (e:H a=some (.tup (ks.map V.int))):(lN prog w).is h ks a:=by
 obtain ⟨_,its,r,o,ho,hc,n,hd⟩:=ok _ _ e;exact ⟨o,its.toArray,n,ho,hc,hd,xX (n6 r)⟩
theorem GZ {H:Hp} {h0:Heap} {d it p:Addr} {its:List Value} {as:List EK} {led:Bool} {R:Result->Shared->Prop} (hu:A.in1.units<cLine)
 (W:Walks prog w A.in1 it [it,p] [it] its.length (fun i v=>its[i]? = some v) (fun i h=>h.IsListIter it p i/\h.IsList p its.toArray))
 (ok:kW prog w H h0) (ei:its=as.map fun x=>Value.ref x.2) (hk:∀x∈as,H x.2=some (.tup (x.1.map V.int))) (hd:h0.get? d=none) (hi0:h0.get? it=none) (hp:∃o,h0.get? p=some o) (Tj:d≠it) (hz:as.length<=4914):
 ∀(m i:Nat) (s:Shared) (o:Obj) (es:Array (Int×Value)) (ep:Nat) (t:SetTable) (xs:List EK),its.length - i=m->i<=its.length->(s.heap.IsListIter it p i/\s.heap.IsList p its.toArray)->(∀b o,h0.get? b=some o->s.heap.get? b=some o) ->
  oG prog w s.heap d o es ep t xs->gU xs (as.take i)->t.led=led ->
  (∀h' tk o' es' ep' t' xs',(∀b o,h0.get? b=some o->h'.get? b=some o)->oG prog w h' d o' es' ep' t' xs'->gU xs' as->t'.led=led->R (.ok (.ret .none)) {s with heap:=h',toks:=tk}) ->
  codeAny (model prog w) A (.builtin "set.update.loop" ⟨[.ref d,.ref it],[]⟩) R s:=by
 have lens:its.length=as.length:=by rw [ei,List.length_map]
 have dp:d≠p:=fun z=>by obtain ⟨o,ho⟩:=hp;rw [←z,hd] at ho;cases ho
 have moved:∀{h h':Heap} {o:Obj} {es:Array (Int×Value)} {ep:Nat} {t:SetTable} {xs:List EK} {n:Nat},(∀b o,b≠it->h.get? b=some o->h'.get? b=some o)->(∀b o,h0.get? b=some o->h.get? b=some o)->oG prog w h d o es ep t xs->gU xs (as.take n) ->
  (∀b o,h0.get? b=some o->h'.get? b=some o)/\oG prog w h' d o es ep t xs:=fun {h h' o es ep t xs n} k k0 S fl=>by
  have k1:∀b o,h0.get? b=some o->h'.get? b=some o:=fun b o e=>k b o (fun z=>by rw [z,hi0] at e;cases e) (k0 b o e);exact ⟨k1,k d o Tj S.at_,S.ex,S.dat,S.els,fun x hx=>Ce (ok.kept k1) (hk x (List.mem_of_mem_take (fl.1 x hx))),S.tab⟩
 intro m
 induction m with
 | zero=>
   intro i s o es ep t xs hm hi st k0 S fl el hR;have hin:i=its.length:=by omega
   subst hin;refine codeAny_builtin F.entry_set_update_loop ?_;rw [Around.under_plainId fV _];show wpAny _ A.in1 (pyNext (.ref it) >>= _) _ _ s;refine wpAny_bind (W.done s _ _ st fun h' tk k=> ?_);obtain ⟨k1,S1⟩:=moved (h:=s.heap) (h':=h') (fun b o nb e=>k b o (by simpa using nb) e) k0 S fl;show wpAny _ A.in1 (ret Value.none) _ _ _;rw [lens,List.take_length] at fl;exact wpAny_pure (hR h' tk o es ep t xs k1 S1 fl el)
 | succ m ih=>
   intro i s o es ep t xs hm hi st k0 S fl el hR;have hlt:i<its.length:=by omega
   refine codeAny_builtin F.entry_set_update_loop ?_;rw [Around.under_plainId fV _];show wpAny _ A.in1 (pyNext (.ref it) >>= _) _ _ s;refine wpAny_bind (W.item i s _ _ hlt st fun v h1 tk hP st1 k=> ?_);obtain ⟨k1,S1⟩:=moved (h:=s.heap) (h':=h1) (fun b o nb e=>k b o (by simpa using nb) e) k0 S fl;have ha1:i<as.length:=by omega
   have ea:as[i]? = some as[i]:=by simp [ha1]
   have ev:v=Value.ref as[i].2:=by
    have hP:its[i]? = some v:=hP;rw [ei,List.getElem?_map,ea] at hP;exact (Option.some.inj hP).symm
   subst ev;have hka:=Ce (ok.kept k1) (hk as[i] (List.getElem_mem ha1))
   have tk1:as.take (i+1)=as.take i++[(as[i].1,as[i].2)]:=by
    rw [List.take_succ,ea];rfl
   show wpAny _ A.in1 (holding [Value.ref as[i].2] (setAdd d (.ref as[i].2)) >>= _) _ _ _;refine wpAny_bind (wpAny_holding ?_);unfold setAdd;refine wpAny_holding (wpAny_bind ((lN prog w).pyHash hu hka ?_));have fll:=fl.2.2.2;rw [List.length_take] at fll;refine Rf (s:={s with heap:=h1,toks:=tk+(lN prog w).draws as[i].1}) hu S1 hka (by omega) (fun q=> ?_) (fun h2 o' es' ep' t' xs' sb S' pm el'=> ?_)
   ·refine wpAny_pure ⟨plainId_quiet fV _,ih (i+1) _ o es ep t xs (by omega) (by omega) st1 k1 S1 (by rw [tk1];exact fl.there q) el fun h' tk' o' es' ep' t' xs' k' S' f' l'=>hR h' tk' o' es' ep' t' xs' k' S' f' l'⟩
   ·have k2:∀b o,h0.get? b=some o->h2.get? b=some o:=fun b o e=>(sb.2 b (fun z=>by rw [z,hd] at e;cases e)).trans (k1 b o e)
    refine wpAny_pure ⟨plainId_quiet fV _,ih (i+1) _ o' es' ep' t' xs' (by omega) (by omega) (W.frame _ _ _ st1 fun b hb o e=> ?_) k2 S' (by rw [tk1];exact fl.laid pm) (el'.trans el) fun h' tk' o' es' ep' t' xs' k' S' f' l'=>hR h' tk' o' es' ep' t' xs' k' S' f' l'⟩
    have:b≠d:=fun z=>by
     subst z;rcases List.mem_cons.mp hb with rfl|hb
     ·exact Tj rfl
     ·exact dp (by simpa using hb)
    exact (sb.2 b this).trans e
end
end L2
set_option Elab.async false
set_option linter.all false
set_option maxRecDepth 100000
set_option maxHeartbeats 3200000
namespace L2
open PySem PySem.Spec PyProof.Rows
section
variable {prog:Program} {w:World} {A:Around} {E:Value->Shared->Prop} {s:Shared}
def eV (w:World):Bool:=w.params.followText "set-order"
def nQ (led:Bool):Obj:={cls:= .type "set",dict:=none,data:= .set #[] 0 (.fresh 0 0 led)}
theorem Ks (a:Value) {Q1:Value->Shared->Prop} (h:Q1 (.ref s.heap.objs.size) {s with heap:=s.heap.push (nQ (!eV w))}):codeAny (model prog w) A (.call (.builtin "set.__new__") ⟨[.type "set",a],[]⟩) (wants Q1 E) s:=by
 refine codeAny_of_tree ?_;show wpAny _ A.in1 (do checkBuiltinCall "set.__new__" ⟨[Value.type "set",a],[]⟩;again (.builtin "set.__new__" ⟨[.type "set",a],[]⟩)) _ _ s;refine wpAny_bind (wpAny_of_eq (F.newCall_set_1 a) (wpAny_pure (And.intro (plainId_quiet F.plain_set_new _) (codeAny_builtin F.entry_set_new ?_))));rw [Around.under_plainId F.plain_set_new _];unfold Builtin.«set.__new__»;unfold Builtin.Frozenset.newClass;have hs1:=sub_set_self;obtain ⟨h0,g0,d0,t0,o0⟩:=s
 dsimp only;wp_walk;refine wpAny_askSetting (wpAny_pure ?_);dsimp only;simp only [newObj];exact wpAny_bind (wpAny_alloc (wpAny_pure (wpAny_pure h)))
theorem Kv (h:Heap) (led:Bool):oG prog w (h.push (nQ led)) h.objs.size (nQ led) #[] 0 (.fresh 0 0 led) []:=
 ⟨Heap.get?_push_size _ rfl,⟨rfl,rfl,rfl⟩,rfl,rfl,fun x hx=>(by cases hx),⟨rfl,rfl,.inl ⟨rfl,Nat.zero_le _⟩,rfl,by simp [SetTable.fresh]⟩⟩
theorem Fw {H:Hp} {p:Addr} {its:List Value} {as:List EK} {Q:Value->Shared->Prop} (hh:A.handled=none) (hu:A.units+8<cLine) (pl:PlainL s.heap p its.toArray)
 (ok:kW prog w H s.heap) (ei:its=as.map fun x=>Value.ref x.2) (hk:∀x∈as,H x.2=some (.tup (x.1.map V.int))) (hz:as.length<=4914)
 (h:∀h' tk o es ep t xs,(∀b o,s.heap.get? b=some o->h'.get? b=some o)->oG prog w h' s.heap.objs.size o es ep t xs->gU xs as->t.led = !eV w->Q (.ref s.heap.objs.size) {s with heap:=h',toks:=tk}):
 wpAny (model prog w) A (call (.type "set") [.ref p]) Q E s:=by
 obtain ⟨o,n,ho,hc,hd,hs⟩:=id pl;obtain ⟨mc,mt,fm⟩:=F.called_set.mro;have fa:=F.called_set.made;have fb:=F.called_set.sub
 refine wpAny_call (codeAny_of_tree ?_);show wpAny _ _ (callAny (.type "set") _) _ _ _
 refine wpAny_pure (And.intro (Code.quiet_builtin _ (by decide +kernel)) (codeAny_builtin F.entry_type_call ?_));rw [Around.under_plain (weight_type_call_type "set" [.ref p] []) rfl];have fc:=F.called_set.notType;have fd:=F.called_set.canCreate;have fe:=F.typeCall_set_1 (.ref p)
 repeat (any_goals (first |assumption|wp_step))
 refine codeAny_mono (Ks (.ref p) (E:=E) (Q1:=fun obj s1=>obj = .ref s.heap.objs.size/\s1={s with heap:=s.heap.push (nQ (!eV w))}) ⟨rfl,rfl⟩) fun r s1 hr=> ?_;cases r with
 | error e=>exact hr
 | ok fl=>
   cases fl with
   | ret obj=>
     obtain ⟨rfl,rfl⟩:=hr;have S0:=Kv (prog:=prog) (w:=w) s.heap (!eV w);have hT:Shared.TypeIs {s with heap:=s.heap.push (nQ (!eV w))} (.ref s.heap.objs.size) "set" :=⟨_,S0.at_,rfl⟩;have ff:=F.called_set.init.lookup;have fg:=F.called_set.init.bind (.ref s.heap.objs.size)
     repeat (any_goals (first |assumption|wp_step))
     refine codeAny_mono (codeAny_call_builtin (R:=wants (fun r s2=>r = .none /\ ∃h' tk o es ep t xs,s2={s with heap:=h',toks:=tk}/\(∀b o,s.heap.get? b=some o->h'.get? b=some o)/\oG prog w h' s.heap.objs.size o es ep t xs/\gU xs as/\t.led = !eV w) E) F.called_set.init.plain F.entry_set_init (check_set_init_1 hT ?_)) fun r2 s2 hr2=> ?_
     ·have ho1:(s.heap.push (nQ (!eV w))).get? p=some o:=Heap.get?_push_of_some _ ho
      obtain ⟨oc,od,odt,osl⟩:=o;simp only at hc hd hs;subst hc hd hs;have fh:=F.sub_list_set;have fi:=F.sub_list_frozenset
      have fj:(Value.type "list" == Value.type "dict")=false:=by decide
      have l1:(s.heap.push (nQ (!eV w))).IsList p its.toArray:=⟨_,ho1,rfl,n,rfl⟩;have sat:=S0.at_
      unfold nQ at sat ho1 ⊢;unfold Builtin.«set.__init__»;unfold noKeywords Builtin.Frozenset.updateFrom;generalize hPI:pyIter=PI;wp_walk;subst hPI;refine wpAny_pyIter_list l1 ?_;refine wpAny_bind (wpAny_runValue ?_);have hp0:s.heap.get? p=some {cls:= .type "list",dict:=none,data:= .seq its.toArray n,slots:=osl}:=ho;have Tv:s.heap.objs.size<(s.heap.push (nQ (!eV w))).objs.size:=by rw [Heap.size_push];exact Nat.lt_succ_self _
      have Tw:p<(s.heap.push (nQ (!eV w))).objs.size:=Heap.lt_size (Heap.get?_push_of_some _ hp0);have S1:oG prog w ((s.heap.push (nQ (!eV w))).push {cls:= .type "list_iterator",data:= .fields #[.ref p,.int 0 0]}) s.heap.objs.size (nQ (!eV w)) #[] 0 (.fresh 0 0 (!eV w)) []:=⟨Heap.get?_push_of_some _ S0.at_,S0.ex,S0.dat,S0.els,fun x hx=>(by cases hx),S0.tab⟩;have h3:A.in1.in1.in1.handled=none:=hh;refine GZ (A:=A.in1.in1) (H:=H) (h0:=s.heap) (d:=s.heap.objs.size) (it:=(s.heap.push (nQ (!eV w))).objs.size) (p:=p) (led:= !eV w) (by show A.units+1+1+1<cLine;omega) (iw h3 _ p (fun z=>by rw [z] at Tw;exact Nat.lt_irrefl _ Tw) its) ok ei hk (lB (Nat.le_refl _)) (lB (Nat.le_of_lt Tv)) ⟨_,hp0⟩ (Nat.ne_of_lt Tv) hz its.length 0 _ _ _ _ _ [] (by omega) (Nat.zero_le _) ⟨⟨_,Heap.get?_push_size _ rfl,rfl,rfl⟩,_,Heap.get?_push_of_some _ ho1,rfl,n,rfl⟩ (fun b q eb=>Heap.get?_push_of_some _ (Heap.get?_push_of_some _ eb)) S1 gU.nil rfl ?_;intro h' tk o' es' ep' t' xs' k' S' f' l';show wpAny _ _ (pure ()) _ _ _;refine wpAny_pure ?_;show wpAny _ _ (ret Value.none) _ _ _;exact wpAny_pure ⟨rfl,h',tk,o',es',ep',t',xs',rfl,k',S',f',l'⟩
     ·cases r2 with
      | error e=>exact hr2
      | ok fl2=>
        cases fl2 with
        | ret r=>
          obtain ⟨rfl,h',tk,o',es,ep,t,xs,rfl,q1,q2,q3,q4⟩:=hr2
          repeat (any_goals (first |assumption|wp_step))
          exact h _ _ _ _ _ _ _ q1 q2 q3 q4
        | _=>exact hr2.elim
   | _=>exact hr.elim
end
end L2
set_option Elab.async false
set_option linter.all false
set_option maxRecDepth 100000
set_option maxHeartbeats 1000000
namespace L2
open PySem PySem.Spec PyProof.Rows
theorem Q8:bootBuiltins "set" = some (.type "set"):=by kernel_rfl
def NP (P:Program) (w:World) (q:Addr) (xs:List EK) (h:Heap):Prop:=∃o es ep t,h.get? q=some o/\o.ExactSet/\o.data = .set es ep t/\es.toList=xs.map (QV P w)/\TabOk t es.size/\t.led = !eV w
def Aq (P:Program) (w:World) (q:Addr) (xs:List EK):HO:= .ext (NP P w q xs)
section
variable {X:Cx}
theorem Ku {P:Program} {w:World} {H:Hp} {h:Heap} {q:Addr} {xs:List EK} (f:NP P w q xs h):bO P w H h q (Aq P w q xs):=by
 refine ⟨f, ?_,fun h1 h2 f1 k=> ?_⟩
 ·obtain ⟨o,_,_,_,e,_⟩:=f
  exact ⟨o,e⟩
 ·obtain ⟨o,es,ep,t,e,r⟩:=f1
  exact ⟨o,es,ep,t,k _ e,r⟩
def Sv (P:Program) (w:World) (K:PySem.W.Frag):List V->Hp->VK->Prop:=fun vs H Q=>∃(p:Addr) (as:List EK),vs=[.ref p]/\aY K H p (as.map fun x=>V.ref x.2)/\(∀x∈as,H x.2=some (.tup (x.1.map V.int)))/\as.length<=4914 /\
 ∀q xs,H q=none->gU xs as->Q (.ref q) (upd H q (Aq P w q xs))
theorem Ab {K:PySem.W.Frag} (hK:X.K=K) (hc:X.calm=true) (hu:X.A.in1.units+64<cLine):gW X (.type "set") (Sv X.prog X.w K):=by
 subst hK;intro pins s σ H xs us Q I r h;obtain ⟨p,as,rfl,hq,hk,hz,q⟩:=h;obtain ⟨u,rfl,rx⟩:=vals1 r;cases rx;obtain ⟨its,rv,pl,_⟩:=I.list hq
 have ei:its=as.map fun x=>Value.ref x.2:=by
  have:∀{as:List EK} {its:List Value},Vals (as.map fun x=>V.ref x.2) its->its=as.map fun x=>Value.ref x.2:=by
   intro as
   induction as with
   | nil=>intro its r;cases r;rfl
   | cons a as ih=>
     intro its r;cases r with
     | cons r1 r2=>
       cases r1;rw [ih r2];rfl
  exact this rv
 refine Fw (H:=H) (I.ok.hd hc) (by have:X.A.units<=X.A.in1.units:=Nat.le_succ _;omega) pl I.hok ei hk hz fun h' tk o es ep t xs kp S fl el=> ?_;have hn:=I.hok.fresh (Nat.le_refl s.heap.objs.size);exact ⟨.ref s.heap.objs.size,_,I.laid (a:=s.heap.objs.size) (o:=Aq X.prog X.w s.heap.objs.size xs) kp (Nat.le_refl _) (Ku ⟨o,es,ep,t,S.at_,S.ex,S.dat,S.els,S.tab,el⟩),rfl,q _ _ hn fl⟩
end
end L2
set_option Elab.async false
set_option linter.all false
set_option maxRecDepth 100000
set_option maxHeartbeats 3200000
namespace L2
open PySem PySem.Spec PyProof.Rows
theorem BR:Manifest.owners.lookup (String.ofList ['r', 'o', 't', 'a', 'r', 'e', 't', 'i', '_', 't', 'e', 's'].reverse)=some Manifest.sig_set_iterator:=by kernel_rfl
theorem je:Slot "set_iterator" "__next__" "set_iterator.__next__" := .of (owner:= "set_iterator") (n:= "__next__") (by rw [typeLookup_type,builtinLookup_eq_fast];kernel_rfl) (by decide +kernel) (by decide +kernel) (by decide +kernel) (by first |exact .inl (by decide +kernel)|exact .inr (by decide +kernel)) (by rw [isSubtype_type];kernel_rfl)
theorem tK:entryFor table "set_iterator.__next__" = some Builtin.«set_iterator.__next__» :=entryFor_of_tree (by kernel_rfl)
theorem wK (a:Value):argsOk "set_iterator.__next__" ⟨[a],[]⟩:=by unfold argsOk;rw [signature?_of (id:= "set_iterator.__next__") (n:=['_', '_', 't', 'x', 'e', 'n', '_', '_']) (o:=['r', 'o', 't', 'a', 'r', 'e', 't', 'i', '_', 't', 'e', 's']) (by kernel_rfl) BR];kernel_rfl
theorem wJ:Slot "set_iterator" "__iter__" "set_iterator.__iter__" := .of (owner:= "set_iterator") (n:= "__iter__") (by rw [typeLookup_type,builtinLookup_eq_fast];kernel_rfl) (by decide +kernel) (by decide +kernel) (by decide +kernel) (by first |exact .inl (by decide +kernel)|exact .inr (by decide +kernel)) (by rw [isSubtype_type];kernel_rfl)
theorem GQ:entryFor table "set_iterator.__iter__" = some Builtin.«dict_keyiterator.__iter__» :=entryFor_alias (id':= "dict_keyiterator.__iter__") (by kernel_rfl) rfl (by decide +kernel) (by kernel_rfl)
theorem GR (a:Value):argsOk "set_iterator.__iter__" ⟨[a],[]⟩:=by unfold argsOk;rw [signature?_of (id:= "set_iterator.__iter__") (n:=['_', '_', 'r', 'e', 't', 'i', '_', '_']) (o:=['r', 'o', 't', 'a', 'r', 'e', 't', 'i', '_', 't', 'e', 's']) (by kernel_rfl) BR];kernel_rfl
theorem G3:entryFor table "set.__iter__" = some Builtin.«frozenset.__iter__» :=entryFor_alias (id':= "frozenset.__iter__") (by kernel_rfl) rfl (by decide +kernel) (by kernel_rfl)
theorem tV {α:Type} (f:Nat->Nat):∀(n k:Nat) (l:List α) (out:Array α),n=l.length->(pickOrder.go f n k l out).toList.Perm (out.toList++l)
 | 0,k,l,out,h=>by
   cases l with
   | nil=>unfold pickOrder.go;simp
   | cons x l=>simp at h
 | n+1,k,l,out,h=>by
   unfold pickOrder.go;have hl:f k % l.length<l.length:=Nat.mod_lt _ (by omega);have e:l[f k % l.length]? = some (l[f k % l.length]):=by simp [hl]
   rw [e];dsimp only;refine (tV f n (k+1) _ _ (by rw [List.length_eraseIdx,if_pos hl];omega)).trans ?_;rw [Array.toList_push,List.append_assoc];refine List.Perm.append_left _ ?_;show (l[f k % l.length]::l.eraseIdx (f k % l.length)).Perm l;rw [List.eraseIdx_eq_take_drop_succ];have h1:=(List.take_append_drop (f k % l.length) l);rw [List.drop_eq_getElem_cons hl] at h1
   conv=>rhs;rw [←h1]
   exact List.perm_middle.symm
section
variable {prog:Program} {w:World} {A:Around} {E:Value->Shared->Prop} {s:Shared} {q it:Addr} {o:Obj} {es:Array (Int×Value)} {ep:Nat} {t:SetTable}
def wD (w:World) (q:Addr) (ep:Nat) (es:Array (Int×Value)):Array (Int×Value):=if eV w then pickOrder (w.params.setOrder q ep) es else es
theorem Az:(wD w q ep es).toList.Perm es.toList:=by
 unfold wD;split
 ·have:=tV (w.params.setOrder q ep) es.size 0 es.toList #[] (by simp)
  simpa [pickOrder] using this
 ·exact .refl _
theorem Ay:(wD w q ep es).size=es.size:=by rw [←Array.length_toList,Az.length_eq,Array.length_toList]
def Ao (h:Heap) (it q:Addr) (slot i n ep:Nat):Prop:=∃o,h.get? it=some o/\o.cls = .type "set_iterator" /\ o.data = .fields #[rawInt slot,rawInt i,.ref q,rawInt n,rawInt ep]
theorem BZ {slot i:Nat} {Q:Option (Value×Nat)->Shared->Prop} (ho:s.heap.get? q=some o) (hd:o.data = .set es ep t) (T:TabOk t es.size) (el:t.led = !eV w) (bs:eV w=false->SetTable.below t.place slot=i)
 (h1:∀e slot',(wD w q ep es)[i]? = some e->(eV w=false->SetTable.below t.place slot'=i+1)->Q (some (e.2,slot')) s) (h2:(wD w q ep es)[i]? = none->Q none s):wpAny (model prog w) A (setNext q slot i ep) Q E s:=by
 unfold setNext;refine wpAny_bind (wpAny_setState_of ho hd T.fits ?_);dsimp only;unfold setsByText;refine wpAny_bind (wpAny_bind (wpAny_askSetting (wpAny_pure ?_)));show wpAny _ _ (if eV w=true then _ else _) _ _ _;cases hb:eV w with
 | true=>
   simp only [if_true];rw [if_neg (by simp)];unfold setWalk setsByText;refine wpAny_bind (wpAny_bind (wpAny_setState_of ho hd T.fits ?_));dsimp only;refine wpAny_bind (wpAny_bind (wpAny_askSetting (wpAny_pure ?_)));show wpAny _ _ (if eV w=true then _ else _) _ _ _;rw [hb];simp only [if_true];refine wpAny_bind (wpAny_askSetting (wpAny_pure ?_));show wpAny _ _ (pure _) _ _ _;refine wpAny_pure ?_;have ew:wD w q ep es=pickOrder (w.params.setOrder q ep) es:=by unfold wD;rw [if_pos hb]
   cases e:(wD w q ep es)[i]? with
   | none=>
     rw [ew] at e;show Q (((pickOrder (w.params.setOrder q ep) es)[i]?).map _) s;rw [e];exact h2 (by rw [ew];exact e)
   | some x=>
     have:=h1 x slot e fun z=>by rw [hb] at z;cases z
     rw [ew] at e;show Q (((pickOrder (w.params.setOrder q ep) es)[i]?).map _) s;rw [e];exact this
 | false=>
   simp only [Bool.false_eq_true,if_false];have ew:wD w q ep es=es:=by unfold wD;rw [if_neg (by rw [hb];simp)]
   have led:t.led=true:=by rw [el,hb];rfl
   show wpAny _ _ (if (!t.plain&&decide (es.size>1))=true then _ else _) _ _ _;rw [T.plain];simp only [Bool.not_true,Bool.false_and,Bool.false_eq_true,if_false];show wpAny _ _ ((do if (!t.led && !es.isEmpty)=true then unsupported "set:maker-not-led" else pure ()) >>= _) _ _ _;rw [led];simp only [Bool.not_true,Bool.false_and,Bool.false_eq_true,if_false];refine wpAny_bind (wpAny_pure ?_);rw [bs hb];rw [ew] at h1 h2;cases e:es[i]? with
   | none=>exact wpAny_pure (h2 e)
   | some x=>
     have il:i<es.size:=(Array.getElem?_eq_some_iff.mp e).1;have ep':t.place[i]? = some (t.place[i]'(by rw [T.pl];exact il)):=by simp [T.pl,il]
     rw [ep'];exact wpAny_pure (h1 x _ e fun _=>Ai T.X8 ep')
end
end L2
set_option Elab.async false
set_option linter.all false
set_option maxRecDepth 100000
set_option maxHeartbeats 3200000
namespace L2
open PySem PySem.Spec PyProof.Rows
section
variable {prog:Program} {w:World} {A:Around} {E:Value->Shared->Prop} {s:Shared} {q it:Addr} {o:Obj} {es:Array (Int×Value)} {ep:Nat} {t:SetTable}
theorem Dm {Q:Value->Shared->Prop} (ho:s.heap.get? q=some o) (hx:o.ExactSet) (hd:o.data = .set es ep t) (T:TabOk t es.size)
 (k:Q (.ref s.heap.objs.size) {s with heap:=s.heap.push {cls:= .type "set_iterator",data:= .fields #[rawInt 0,rawInt 0,.ref q,rawInt es.size,rawInt ep]}}):wpAny (model prog w) A (pyIter (.ref q)) Q E s:=by
 have ty:s.TypeIs (.ref q) "set" :=⟨o,ho,hx.1⟩;refine wpAny_pyIter_slot ty F.slot_set_iter (wpAny_call_entry F.slot_set_iter ty G3 ?_ (F.args_set_iter_1 _));unfold Builtin.«frozenset.__iter__»;refine wpAny_bind (wpAny_of_eq (show Builtin.Frozenset.slot0 "__iter__" ⟨[.ref q],[]⟩=pure q from rfl) ?_);unfold Builtin.Frozenset.sizeOf;refine wpAny_bind (wpAny_bind (wpAny_setEntries_of ho hd T.fits (wpAny_pure ?_)));unfold setDrawn setsByText;refine wpAny_bind (wpAny_bind (wpAny_setState_of ho hd T.fits (wpAny_bind (wpAny_bind (wpAny_askSetting (wpAny_pure (wpAny_pure ?_)))))));show wpAny _ _ (if (!eV w&&(!t.plain&&decide (es.size>1)))=true then _ else _) _ _ _;rw [T.plain];simp only [Bool.not_true,Bool.false_and,Bool.and_false,Bool.false_eq_true,if_false];refine wpAny_bind (wpAny_pure (wpAny_bind (wpAny_setEpoch_of ho hd T.fits ?_)));unfold newFields;refine wpAny_bind (wpAny_newObj_type ?_);exact wpAny_pure ⟨_,rfl,"set_iterator",_,⟨_,Heap.get?_push_size _ rfl,rfl⟩,je.lookup,k⟩
theorem GP {slot i:Nat} {Q:Option Value->Shared->Prop} (st:Ao s.heap it q slot i es.size ep) (ho:s.heap.get? q=some o) (hd:o.data = .set es ep t) (T:TabOk t es.size) (el:t.led = !eV w) (bs:eV w=false->SetTable.below t.place slot=i) {e:Int×Value} (he:(wD w q ep es)[i]? = some e)
 (k:∀h' slot',Ao h' it q slot' (i+1) es.size ep->(eV w=false->SetTable.below t.place slot'=i+1)->Heap.SameBut it s.heap h'->Q (some e.2) {s with heap:=h'}):wpAny (model prog w) A (pyNext (.ref it)) Q E s:=by
 obtain ⟨oi,hoi,ci,di⟩:=id st;have ty:s.TypeIs (.ref it) "set_iterator" :=⟨oi,hoi,ci⟩;unfold pyNext;refine wpAny_bind (wpAny_attempt (wpAny_callSpecial?_slot (name:=Str.ofString "__next__") ty je (wpAny_call_entry je ty tK ?_ (wK _))));unfold Builtin.«set_iterator.__next__»;refine wpAny_bind (wpAny_of_eq (show slotArgs "__next__" 0 ⟨[.ref it],[]⟩=pure (Value.ref it,[]) from rfl) ?_);refine wpAny_bind (wpAny_fieldsOf hoi di ?_);show wpAny _ _ (setEntries q >>= _) _ _ s;refine wpAny_bind (wpAny_setEntries_of ho hd T.fits ?_);rw [if_neg (by simp)];show wpAny _ _ (setNext q slot i ep >>= _) _ _ s;refine wpAny_bind (BZ ho hd T el bs (fun e' slot' he' b'=> ?_) (fun hn=>by rw [he] at hn;cases hn));rw [he] at he';cases he';have d1:=Obj.data_mapFields di (·.setIfInBounds 0 (rawInt slot'));have g1:(s.heap.update it (Obj.mapFields (·.setIfInBounds 0 (rawInt slot')))).get? it=some (Obj.mapFields (·.setIfInBounds 0 (rawInt slot')) oi):=Heap.get?_update_self _ hoi (Obj.isFreed_of_fields d1);have d2:=Obj.data_mapFields d1 (·.setIfInBounds 1 (rawInt ((i:Int)+1)));have g2:((s.heap.update it (Obj.mapFields (·.setIfInBounds 0 (rawInt slot')))).update it (Obj.mapFields (·.setIfInBounds 1 (rawInt ((i:Int)+1))))).get? it=some (Obj.mapFields (·.setIfInBounds 1 (rawInt ((i:Int)+1))) (Obj.mapFields (·.setIfInBounds 0 (rawInt slot')) oi)):=Heap.get?_update_self _ g1 (Obj.isFreed_of_fields d2);refine wpAny_bind (wpAny_setField hoi di (by simp) ?_);refine wpAny_bind (wpAny_setField (s:={s with heap:=s.heap.update it (Obj.mapFields (·.setIfInBounds 0 (rawInt slot')))}) g1 d1 (by simp) ?_);refine wpAny_pure ⟨_,rfl,wpAny_pure (k _ slot' ⟨_,g2,by rw [Obj.cls_mapFields,Obj.cls_mapFields];exact ci,by rw [d2];simp [rawInt]⟩ b' ((Heap.SameBut.update ..).trans (Heap.SameBut.update ..)))⟩
theorem Kr {slot i:Nat} {Q:Option Value->Shared->Prop} (calm:A.handled=none) (st:Ao s.heap it q slot i es.size ep) (ho:s.heap.get? q=some o) (hd:o.data = .set es ep t) (T:TabOk t es.size) (el:t.led = !eV w) (bs:eV w=false->SetTable.below t.place slot=i) (he:(wD w q ep es)[i]? = none)
 (k:∀h',Heap.ExtBut it s.heap h'->Q none {s with heap:=h'}):wpAny (model prog w) A (pyNext (.ref it)) Q E s:=by
 obtain ⟨oi,hoi,ci,di⟩:=id st;have ty:s.TypeIs (.ref it) "set_iterator" :=⟨oi,hoi,ci⟩;unfold pyNext;refine wpAny_bind (wpAny_attempt (wpAny_callSpecial?_slot (name:=Str.ofString "__next__") ty je (wpAny_call_entry je ty tK ?_ (wK _))));unfold Builtin.«set_iterator.__next__»;refine wpAny_bind (wpAny_of_eq (show slotArgs "__next__" 0 ⟨[.ref it],[]⟩=pure (Value.ref it,[]) from rfl) ?_);refine wpAny_bind (wpAny_fieldsOf hoi di ?_);show wpAny _ _ (setEntries q >>= _) _ _ s;refine wpAny_bind (wpAny_setEntries_of ho hd T.fits ?_);rw [if_neg (by simp)];show wpAny _ _ (setNext q slot i ep >>= _) _ _ s;refine wpAny_bind (BZ ho hd T el bs (fun e' slot' he' b'=>by rw [he] at he';cases he') (fun hn=> ?_));show wpAny _ _ (setField (.ref it) 2 .none >>= _) _ _ s;refine wpAny_bind (wpAny_setField hoi di (by simp) ?_);show wpAny _ _ (newExc (.type "StopIteration") [] >>= _) _ _ _;refine wpAny_bind ?_;simp only [newExc,newTuple];refine wpAny_bind (wpAny_newObj_type ?_ (by size_fits));refine wpAny_bind (m:=firstArgMember _ _) (wpAny_of_eq (a:=Value.none) (by first |rfl|(simp only [firstArgMember];rfl)) (wpAny_newObj_type ?_ (by size_fits)));simp only [raiseNew];refine wpAny_bind (wpAny_handled ?_);rw [show A.in1.handled=none from calm];refine wpAny_bind (wpAny_pure (wpAny_throw ?_));refine wpAny_bind (wpAny_isInstance (T:= "StopIteration") (b:=true) ⟨_,Heap.get?_push_size _ rfl,rfl⟩ isSubtype_stop ?_);exact wpAny_pure (k _ (((Heap.SameBut.update ..).extBut.push _).push _))
theorem Ao.at {h h':Heap} {slot i n:Nat} (st:Ao h it q slot i n ep) (k:∀o,h.get? it=some o->h'.get? it=some o):Ao h' it q slot i n ep:=by
 obtain ⟨o,e,r⟩:=st;exact ⟨o,k o e,r⟩
def R_ (w:World) (q it:Addr) (o:Obj) (es:Array (Int×Value)) (ep:Nat) (t:SetTable) (i:Nat) (h:Heap):Prop:=(∃slot,Ao h it q slot i es.size ep/\(eV w=false->SetTable.below t.place slot=i))/\h.get? q=some o
theorem Gr (hh:A.handled=none) (it q:Addr) (hne:q≠it) (hd:o.data = .set es ep t) (T:TabOk t es.size) (el:t.led = !eV w):
 Walks prog w A it [it,q] [it] es.size (fun i v=>∃e,(wD w q ep es)[i]? = some e/\v=e.2) (R_ w q it o es ep t) where
 sub:=fun b hb=>by rw [List.mem_singleton.mp hb];exact List.mem_cons_self ..
 frame:=fun _ _ _ ⟨⟨slot,st,b⟩,hq⟩ hk=>⟨⟨slot,st.at fun o e=>hk it (by simp) o e,b⟩,hk q (by simp) _ hq⟩
 item:=fun i s Q E hi ⟨⟨slot,st,b⟩,hq⟩ hQ=>by
  have hl:i<(wD w q ep es).size:=by rw [Ay];exact hi
  have he:(wD w q ep es)[i]? = some (wD w q ep es)[i]:=by simp [hl]
  exact GP st hq hd T el b he fun h' slot' st' b' sb=>hQ _ h' s.toks ⟨_,he,rfl⟩ ⟨⟨slot',st',b'⟩,(sb.2 q hne).trans hq⟩ fun b o hb e=>sb.extBut b o (fun h=>hb (by simp [h])) e
 done:=fun s Q E ⟨⟨slot,st,b⟩,hq⟩ hQ=>Kr hh st hq hd T el b (Array.getElem?_eq_none (by rw [Ay];exact Nat.le_refl _)) fun h' eb=>hQ h' s.toks fun b o hb e=>eb b o (fun h=>hb (by simp [h])) e
 self:=fun _ _ _ _ ⟨⟨slot,st,b⟩,hq⟩ hQ=>by
  obtain ⟨oi,hoi,ci,di⟩:=st;refine wpAny_pyIter_slot ⟨oi,hoi,ci⟩ wJ (wpAny_call_entry wJ ⟨oi,hoi,ci⟩ GQ ?_ (GR _));exact wpAny_pure ⟨_,rfl,"set_iterator",_,⟨oi,hoi,ci⟩,je.lookup,hQ⟩
theorem Jc {r:Addr} {Q:Bool->Shared->Prop} (hT:s.TypeIs (.ref r) "set") (h:Q false s):wpAny (model prog w) A (Builtin.List.listLengthHint (.ref r)) Q E s:=by
 unfold Builtin.List.listLengthHint;refine wpAny_bind (wpAny_specialOf hT PySem.F.slot_set_len.lookup ?_);generalize hid:("set.__len__" :String)=i0;wp_delta;rw [show splitId i0=some ("set","__len__") from by subst hid;decide +kernel];subst hid;refine wpAny_bind (wpAny_isInstance (T:= "set") (b:=true) hT (by rw [isSubtype_type];kernel_rfl) ?_);refine wpAny_ite_split (fun z=>absurd z (by decide)) (fun _=> ?_);refine wpAny_ite_split (fun _=> ?_) (fun z=>absurd (by decide +kernel) z);exact wpAny_bind (wpAny_typeOf hT (wpAny_pure h))
theorem Kh (hx:o.ExactSet) (hd:o.data = .set es ep t) (T:TabOk t es.size) (el:t.led = !eV w):PySem.W.KdlSrc prog w "set" q q es.size (fun i v=>∃e,(wD w q ep es)[i]? = some e/\v=e.2) (fun h=>h.get? q=some o) where
 type:=fun _ hm=>⟨o,hm,hx.1⟩
 there:=fun _ hm=>⟨Heap.lt_size hm,Heap.lt_size hm⟩
 keep:=fun _ _ hm hk=>hk q (.inl rfl) o hm
 notList:=by decide
 notTuple:=by decide
 hint:=fun _ _ s _ hm hq=>Jc ⟨o,hm,hx.1⟩ hq
 iter:=fun _ s hh hm=>⟨_,_,(fun _ _ hq=>Dm hm hx hd T hq),Gr hh _ q (Nat.ne_of_lt (Heap.lt_size hm)) hd T el,⟨⟨0,⟨_,Heap.get?_push_size _ rfl,rfl,rfl⟩,fun _=>by
  have b:=rF (j:=0) T.X8;refine Classical.byContradiction fun z=> ?_;have l0:0<t.place.size:=by have:=b.1;omega
  exact absurd (b.2.1 0 t.place[0] (by omega) (by simp [l0])) (Nat.not_lt_zero _)⟩,Heap.get?_push_of_some _ hm⟩⟩
end
end L2
set_option Elab.async false
set_option linter.all false
set_option maxRecDepth 100000
set_option maxHeartbeats 1000000
namespace L2
open PySem PySem.Spec PyProof.Rows
theorem qt {α β:Type} (f:α->β) {out m:List β} (p:out.Perm m):∀l:List α,m=l.map f -> ∃zs:List α,zs.Perm l/\out=zs.map f:=by
 induction p with
 | nil=>intro l e;cases l with
   | nil=>exact ⟨[],.refl _,rfl⟩
   | cons a l=>cases e
 | cons x _ ih=>intro l e;cases l with
   | nil=>cases e
   | cons a l=>
     cases e;obtain ⟨zs,z1,z2⟩:=ih l rfl;exact ⟨a::zs,z1.cons a,by rw [z2];rfl⟩
 | swap x y r=>intro l e;match l,e with
   | a::b::l,e=>
     cases e;exact ⟨b::a::l,.swap ..,rfl⟩
 | trans _ _ ih1 ih2=>
   intro l e;obtain ⟨zs,z1,z2⟩:=ih2 l e;obtain ⟨ys,y1,y2⟩:=ih1 zs z2;exact ⟨ys,y1.trans z1,y2⟩
section
variable {X:Cx}
def O5 (P:Program) (w:World):List V->Hp->VK->Prop:=fun vs H Q=>∃(q:Addr) (xs:List EK) (k:Nat),vs=[.ref q]/\H q=some (Aq P w q xs)/\1<=k/\(∀x∈xs,H x.2=some (.tup (x.1.map V.int))/\x.1.length=k) /\
 ∀(p:Addr) (zs:List EK),H p=none->zs.Perm xs->zs.Pairwise (fun x y=>Tim.jK y.1 x.1=false)->Q (.ref p) (upd H p (.lst (zs.map fun x=>V.ref x.2)))
theorem vV (hc:X.calm=true):gW X (.builtin "sorted") (O5 X.prog X.w):=by
 intro pins s σ H vs us Q I r h;obtain ⟨q,xs,k,rfl,hq,hk,hl,k1⟩:=h;obtain ⟨u,rfl,ru⟩:=vals1 r;cases ru;obtain ⟨⟨o,es,ep,t,e1,e2,e3,e4,e5,e6⟩,_⟩:=(show bO X.prog X.w H s.heap q (Aq X.prog X.w q xs) from I.hok q _ hq);have le:es.size=xs.length:=by rw [←Array.length_toList,e4,List.length_map]
 have small:=e5.sz.pow;refine Tim.zJ (Kh e2 e3 e5 e6) (I.ok.hd hc) e1 (by rw [sizeLine_eq];omega) fun vs tk hv hP=> ?_;obtain ⟨ys,y1,y2⟩:=qt (QV X.prog X.w) (Az (w:=X.w) (q:=q) (ep:=ep) (es:=es)) xs e4
 have ev:vs=ys.map fun x=>Value.ref x.2:=by
  refine List.ext_getElem? fun i=> ?_;cases e:vs[i]? with
  | none=>
    rw [List.getElem?_eq_none_iff] at e;rw [List.getElem?_eq_none (by rw [List.length_map,y1.length_eq];omega)]
  | some v=>
    obtain ⟨en,ee,rfl⟩:=hP i v e;rw [←Array.getElem?_toList,y2,List.getElem?_map] at ee;cases ey:ys[i]? with
    | none=>rw [ey] at ee;cases ee
    | some y=>
      rw [ey] at ee;cases ee;rw [List.getElem?_map,ey];rfl
 have item:∀x∈ys,∃jts,IsTup s.heap x.2 jts.toArray/\IntsAre jts x.1/\x.1.length=k:=fun x hx=>by
  obtain ⟨eh,hl'⟩:=hl x (y1.mem_iff.mp hx);obtain ⟨jts,rj,tj,_⟩:=I.tuple (cH.of eh);exact ⟨jts,tj,n6 rj,hl'⟩
 have T:C_ s.heap k vs:=fun v hv'=>by
  rw [ev] at hv';obtain ⟨y,hy,rfl⟩:=List.mem_map.mp hv';obtain ⟨jts,e1,e2,e3⟩:=item y hy;exact ⟨_,jts,_,rfl,e1,e2,e3⟩
 refine ⟨tuples' true,Tim.j7 (fun a b=>Tim.jK (keyOf s.heap a) (keyOf s.heap b)) vs,fun h2 h' kp=>⟨fun Q E hQ=>Di (s:={s with heap:=h',toks:=tk}) hk T h2 kp hQ,Gx (s:={s with heap:=h',toks:=tk}) T kp⟩,fun h0 h' D c out k0 kp hD hdl hp hs=> ?_⟩;obtain ⟨zs,z1,z2⟩:=qt (fun x:EK=>Value.ref x.2) hp ys ev;have zx:=z1.trans y1;have I1:Inv X pins σ H {s with heap:=h0,toks:=tk}:=I.kept (t':=tk) k0
 have rv:∀l:List EK,Vals (l.map fun q=>V.ref q.2) (l.map fun q=>Value.ref q.2):=fun l=>by
  induction l with
  | nil=>exact .nil
  | cons a l ih=>exact .cons rfl ih
 have hzl:(zs.map fun x=>V.ref x.2).length<=sizeLine:=by rw [List.length_map,zx.length_eq,sizeLine_eq];omega
 refine ⟨.ref D,_,I1.laid (t':=tk) kp hD (show bO X.prog X.w _ h' _ (.lst (zs.map fun x=>V.ref x.2)) from ⟨hzl,out,c,by rw [z2];exact rv zs,hdl⟩),rfl,k1 D zs (I1.hok.fresh hD) zx ?_⟩;rw [z2,List.pairwise_map] at hs;refine List.Pairwise.imp_of_mem (fun {x y} hx hy huv=> ?_) hs;have mx:Value.ref x.2∈vs:=by rw [ev];exact List.mem_map.mpr ⟨x,z1.mem_iff.mp hx,rfl⟩
 have my:Value.ref y.2∈vs:=by rw [ev];exact List.mem_map.mpr ⟨y,z1.mem_iff.mp hy,rfl⟩
 have:=Tim.Kz (Tim.Bc (keyOf s.heap)) my huv;obtain ⟨jx,a1,a2,_⟩:=item x (z1.mem_iff.mp hx);obtain ⟨jy,b1,b2,_⟩:=item y (z1.mem_iff.mp hy);rwa [lD a1 a2,lD b1 b2] at this
end
end L2
set_option Elab.async false
set_option linter.all false
set_option maxRecDepth 100000
set_option maxHeartbeats 4000000
namespace L2
open PySem PySem.Spec PyProof.Rows
section
variable {prog:Program} {w:World} {A:Around} {R:Result->Shared->Prop} {it:Addr} {rd wt:List Addr} {n:Nat} {P:Nat->Value->Prop} {St:Nat->Heap->Prop}
def Rq (P:Nat->Value->Prop) (val:Nat->Int) (i:Nat) (arr:Array Value):Prop:=(i=0/\arr = #[]) \/ ∃b v,b<i/\P b v/\(∀j,j<i->val b<=val j)/\arr = #[v,v]
theorem lC:(toString "min" ++ toString ".loop" :String) = "min.loop" :=by decide
theorem Ef (W:Walks prog w A.in1 it rd wt n P St) (val:Nat->Int) (hc:CmpOf prog w A.in1 .Lt P fun i j=>decide (val i<val j)) (S:Addr) (hn:S∉rd) (d:Value):
 ∀(k i:Nat) (s:Shared) (arr:Array Value) (c:Nat),n - i=k->i<=n->St i s.heap->Rq P val i arr ->
 s.heap.get? S=some {cls:= .type "list",dict:=none,data:= .seq arr c,slots:= #[]} ->
 (∀v h' tk,((n=0/\v=d) \/ ∃b,b<n/\P b v /\ ∀j,j<n->val b<=val j)->(∀b o,b∉wt->b≠S->s.heap.get? b=some o->h'.get? b=some o)->R (.ok (.ret v)) {s with heap:=h',toks:=tk}) ->
 codeAny (model prog w) A (.builtin "min.loop" ⟨[.ref it,.none,.ref S],[(Str.ofString "default",d)]⟩) R s:=by
 have nw:S∉wt:=fun z=>hn (W.sub _ z);intro k
 induction k with
 | zero=>
   intro i s arr c ek li st best eS done;obtain rfl:i=n:=by omega
   refine codeAny_builtin F.entry_min_loop ?_;rw [Around.under_plainId F.plain_min_loop _];refine (show wpAny _ A.in1 (seqItems? (.ref S) >>= _) _ _ s from wpAny_bind (wpAny_seqItems eS rfl ?_));refine (show wpAny _ A.in1 (tryCatch (pyNext (.ref it)) _ >>= _) _ _ s from wpAny_bind (wpAny_tryCatch (W.done s _ _ st fun h' tk kp=> ?_)));have eS':=kp S _ nw eS;rcases best with ⟨z,rfl⟩|⟨b,v,lb,pb,top,rfl⟩
   ·refine (show wpAny _ A.in1 (rule _ >>= _) _ _ _ from wpAny_bind (wpAny_rule (wpAny_pure (done d h' tk (.inl ⟨z,rfl⟩) fun b o nb _ e=>kp b o nb e))))
   ·refine (show wpAny _ A.in1 (updateSeq S (fun _=> #[]) >>= _) _ _ _ from wpAny_bind (wpAny_updateSeq eS' rfl (wpAny_bind (wpAny_letGo (wpAny_pure (done v _ tk (.inr ⟨b,lb,pb,top⟩) fun b o nb nS e=> ?_))))))
    exact (Heap.get?_update_other _ _ (Ne.symm nS)).trans (kp b o nb e)
 | succ k ih=>
   intro i s arr c ek li st best eS done;have lt:i<n:=by omega
   refine codeAny_builtin F.entry_min_loop ?_;rw [Around.under_plainId F.plain_min_loop _];refine (show wpAny _ A.in1 (seqItems? (.ref S) >>= _) _ _ s from wpAny_bind (wpAny_seqItems eS rfl ?_));refine (show wpAny _ A.in1 (tryCatch (pyNext (.ref it)) _ >>= _) _ _ s from wpAny_bind (wpAny_tryCatch (W.item i s _ _ lt st fun v h' tk pv st' kp=> ?_)));have eS':=kp S _ nw eS;rcases best with ⟨z,rfl⟩|⟨b,u,lb,pb,top,rfl⟩
   ·refine (show wpAny _ A.in1 (updateSeq S (fun _=> #[v,v]) >>= _) _ _ _ from wpAny_bind (wpAny_updateSeq eS' rfl ?_))
    rw [lC];refine wpAny_pure ⟨plainId_quiet F.plain_min_loop _,ih (i+1) _ #[v,v] _ (by omega) lt (W.frame _ _ _ st' fun b hb o e=>(Heap.get?_update_other _ _ (fun z:S=b=>hn (z▸hb))).trans e) (.inr ⟨i,v,by omega,pv,fun j hj=>by rw [show j=i by omega];exact Int.le_refl _,rfl⟩) (Heap.get?_update_self _ eS' rfl) fun v' h2 tk2 hv TJ=> ?_⟩;exact done v' h2 tk2 hv fun b o nb nS e=>TJ b o nb nS ((Heap.get?_update_other _ _ (Ne.symm nS)).trans (kp b o nb e))
   ·refine (show wpAny _ A.in1 (tryCatch (holding [v,v] (richCompare .Lt v u >>= _)) _ >>= _) _ _ _ from wpAny_bind (wpAny_tryCatch (wpAny_holding (wpAny_bind (hc i b v u _ _ _ pv pb (wpAny_bind (wpAny_holding (wpAny_truthy_bool (wpAny_bind (wpAny_letGo (wpAny_pure ?_)))))))))))
    by_cases more:val i<val b
    ·rw [if_pos (show ((fun i j=>decide (val i<val j)) i b)=true from decide_eq_true more)]
     refine wpAny_bind (wpAny_updateSeq eS' rfl (wpAny_bind (wpAny_letGo (by rw [lC];exact wpAny_pure ⟨plainId_quiet F.plain_min_loop _,ih (i+1) _ #[v,v] _ (by omega) lt (W.frame _ _ _ st' fun b hb o e=>(Heap.get?_update_other _ _ (fun z:S=b=>hn (z▸hb))).trans e) (.inr ⟨i,v,by omega,pv,fun j hj=>by
      by_cases z:j=i
      ·rw [z];exact Int.le_refl _
      ·have:=top j (by omega);omega,rfl⟩) (Heap.get?_update_self _ eS' rfl) fun v' h2 tk2 hv TJ=>done v' h2 tk2 hv fun b o nb nS e=>TJ b o nb nS ((Heap.get?_update_other _ _ (Ne.symm nS)).trans (kp b o nb e))⟩))))
    ·rw [if_neg (show ¬((fun i j=>decide (val i<val j)) i b)=true from fun z=>more (of_decide_eq_true z))]
     refine wpAny_bind (wpAny_letGo (by rw [lC];exact wpAny_pure ⟨plainId_quiet F.plain_min_loop _,ih (i+1) _ #[u,u] c (by omega) lt st' (.inr ⟨b,u,by omega,pb,fun j hj=>by
      by_cases z:j=i
      ·rw [z];omega
      ·exact top j (by omega),rfl⟩) eS' fun v' h2 tk2 hv TJ=>done v' h2 tk2 hv fun b o nb nS e=>TJ b o nb nS (kp b o nb e)⟩))
theorem Eh {E:Value->Shared->Prop} {s:Shared} {x d:Value} {Q:Value->Shared->Prop}
 (h:wpAny (model prog w) A.in1 (pyIter x) (fun y s2=>∃(it:Addr) (rd wt:List Addr) (n:Nat) (P:Nat->Value->Prop) (St:Nat->Heap->Prop) (val:Nat->Int),y = .ref it/\Walks prog w A.in1 it rd wt n P St/\St 0 s2.heap/\(∀b∈rd,b<s2.heap.objs.size)/\CmpOf prog w A.in1 .Lt P (fun i j=>decide (val i<val j)) /\
   ∀v h' tk,((n=0/\v=d) \/ ∃b,b<n/\P b v /\ ∀j,j<n->val b<=val j)->(∀b o,b∉wt->s2.heap.get? b=some o->h'.get? b=some o)->Q v {s2 with heap:=h',toks:=tk}) E s):
 wpAny (model prog w) A (call (.builtin "min") [x] [(Str.ofString "default",d)]) Q E s:=by
 have ok:argsOk "min" ⟨[x],[(Str.ofString "default",d)]⟩:=by unfold argsOk;kernel_rfl
 refine wpAny_call (codeAny_call_builtin F.plain_min F.entry_min ?_);simp only [checkBuiltinCall,F.kind_min]
 have run:wpAny (model prog w) A.in1 (Builtin.«min» ⟨[x],[(Str.ofString "default",d)]⟩) (fun fin s'=>match fin with | .done f=>(match (Except.ok f:Result) with | .ok (.ret v)=>Q v s' | .ok _=>False | .error e=>E e s') | .again c'=>c'.quiet=true/\codeAny (model prog w) A c' (fun r s'=>match r with | .ok (.ret v)=>Q v s' | .ok _=>False | .error e=>E e s') s') E s:=by
  refine (show wpAny _ A.in1 (Builtin.Builtins.bindParams "min" ["key","default"] 0 ⟨[],[(Str.ofString "default",d)]⟩ >>= _) _ _ s from wpAny_bind (wpAny_of_eq (show _=pure [none,some d] from rfl) (wpAny_bind (wpAny_pure (wpAny_bind (wpAny_mono h (fun y s2 h2=> ?_) fun _ _ z=>z))))));obtain ⟨it,rd,wt,n,P,St,val,rfl,W,st,lt,hc,k⟩:=h2;refine wpAny_bind (wpAny_newObj_type ?_);rw [lC];refine wpAny_pure ⟨plainId_quiet F.plain_min_loop _,Ef W val hc s2.heap.objs.size (fun z=>Nat.lt_irrefl _ (lt _ z)) d n 0 _ #[] _ rfl (Nat.zero_le _) (W.frame _ _ _ st fun b _ o e=>Heap.get?_push_of_some _ e) (.inl ⟨rfl,rfl⟩) (Heap.get?_push_size _ rfl) fun v h' tk hv kp=> ?_⟩;exact k v h' tk hv fun b o nb e=>kp b o nb (Nat.ne_of_lt (Heap.lt_size e)) (Heap.get?_push_of_some _ e)
 cases sg:Manifest.signature? "min" with
 | none=>exact wpAny_pure run
 | some sig=>
   have eq:Bind.checkArgs "min" sig ⟨[x],[(Str.ofString "default",d)]⟩=pure ():=by simpa only [argsOk,sg] using ok
   simp only [eq];exact wpAny_pure run
end
end L2
set_option Elab.async false
set_option linter.all false
set_option maxRecDepth 100000
set_option maxHeartbeats 4000000
namespace L2
open PySem PySem.Spec PyProof.Rows
def RQ (K:PySem.W.Frag) (ta:TA) (td:TE):TE:=fun σ H Q=>ta σ H fun vs H1=>td σ H1 fun dv H2=>∃(p:Addr) (ns:List Int) (d:Int),vs=[.ref p]/\dv = .int d/\aY K H2 p (ns.map V.int) /\ ∀m,(ns=[]/\m=d)\/(m∈ns /\ ∀a∈ns,m<=a)->Q (.int m) H2
section
variable {X:Cx} {K:PySem.W.Frag} {a dE:Expr} {ta:TA} {td:TE} {p pos kp:Pos}
theorem K4 (hK:X.K=K) (hc:X.calm=true) (hg:Gl X "min") (hm:X.mg "min" = none) (hv:bootBuiltins "min" = some (.builtin "min")) (ha:PA X [a] ta) (hd:PE X dE td)
 (he:backTo pos (starEach [a] X.env)=(false,eval a X.env)::backTo pos (starEach [] X.env):=by rfl)
 (hplain:(backTo pos (starEach [a] X.env)).any (·.1)=false:=by rfl):
 PE X (.Call (.Name "min" p) [a] [⟨some "default",dE,kp⟩] pos) (RQ K ta td):=by
 subst hK;intro pins s σ H Q I h;refine wpAny_Call_Name_kw (nY I hg hm hv ?_ (by decide) (by decide));refine PyProof.Rows.callWith_kw (cC (ha pos pins s σ H _ I h) fun us s1 ⟨vs,H1,I1,r1,q1⟩=> ?_) he hplain;refine PyProof.Rows.kws_cons (cC (hd pins s1 σ H1 _ I1 q1) fun dv s2 ⟨x,H2,I2,r2,q2⟩=>PyProof.Rows.kws_nil ?_);obtain ⟨p,ns,d,rfl,rfl,hq,q⟩:=q2;obtain ⟨u,rfl,rx⟩:=vals1 r1;cases rx;obtain ⟨td',rfl⟩:=r2;obtain ⟨its,rv,pl,hz⟩:=I2.list hq;have hlen:its.length=ns.length:=by rw [←rv.length,List.length_map]
 have item:∀(i:Nat) (v:Value),its[i]? = some v -> ∃t,v=Value.int ((ns[i]?).getD 0) t/\ns[i]? = some ((ns[i]?).getD 0):=by
  intro i v hP;have hi:i<its.length:=(List.getElem?_eq_some_iff.mp hP).1;obtain ⟨u,hu,ru⟩:=rv.get (i:=i) (x:=V.int (ns[i]'(by omega))) (by simp [show i<ns.length by omega]);rw [hP] at hu;cases hu;obtain ⟨t,ht⟩:=ru;exact ⟨t,by simp [show i<ns.length by omega,ht],by simp [show i<ns.length by omega]⟩
 show wpAny (model X.prog X.w) X.A (call (.builtin "min") [.ref p] [(Str.ofString "default",Value.int d td')]) _ _ s2
 refine Eh (wpAny_pyIter_list pl.isList ⟨s2.heap.objs.size,[s2.heap.objs.size,p],[s2.heap.objs.size],its.length,_,_,fun i=>(ns[i]?).getD 0,rfl,
  iw (show X.A.in1.handled=none from I2.ok.hd hc) s2.heap.objs.size p ?_ its,⟨⟨_,Heap.get?_push_size _ rfl,rfl,rfl⟩, ?_⟩, ?_, ?_, ?_⟩)
 ·intro z
  obtain ⟨o,ho,_⟩:=pl.isList;have:=Heap.lt_size ho;rw [←z] at this;exact Nat.lt_irrefl _ this
 ·obtain ⟨o,ho,hcl⟩:=pl.isList
  exact ⟨o,Heap.get?_push_of_some _ ho,hcl⟩
 ·intro b hb
  have hsz:(s2.heap.push {cls:= .type "list_iterator",data:= .fields #[.ref p,.int 0 0]}).objs.size=s2.heap.objs.size+1:=by simp [Heap.push]
  have hb':b=s2.heap.objs.size\/b=p:=by simpa using hb
  show b<(s2.heap.push _).objs.size;rw [hsz];rcases hb' with rfl|rfl
  ·exact Nat.lt_succ_self _
  ·obtain ⟨o,ho,_⟩:=pl.isList
   exact Nat.lt_succ_of_lt (Heap.lt_size ho)
 ·intro i j vi vj s' Q' E' hi hj hQ
  obtain ⟨t,rfl,_⟩:=item i vi hi;obtain ⟨t',rfl,_⟩:=item j vj hj;exact lt_int hQ
 ·intro v h' tk hv k
  have f:=I2.vP (H':=H2) (b:=s2.heap.objs.size) (Nat.le_refl _) (I2.hok.fresh (Nat.le_refl _));have I3:Inv X pins σ H2 {s2 with heap:=h',toks:=tk}:=I2.turned (h':=h') (t':=tk) (it:=s2.heap.objs.size) (fun b o hb e=>k b o (by simpa using hb) (Heap.get?_push_of_some _ e)) f.1 f.2.1 f.2.2.2.1 f.2.2.2.2.1 f.2.2.2.2.2;rcases hv with ⟨n0,rfl⟩|⟨b,lb,hP,top⟩
  ·exact ⟨.int d,H2,I3,⟨_,rfl⟩,q d (.inl ⟨List.eq_nil_of_length_eq_zero (by omega),rfl⟩)⟩
  ·obtain ⟨t,rfl,hm⟩:=item b v hP
   refine ⟨.int _,H2,I3,⟨_,rfl⟩,q _ (.inr ⟨List.mem_of_getElem? hm,fun a ha=> ?_⟩)⟩;obtain ⟨j,hj⟩:=List.getElem?_of_mem ha;have hjl:=(List.getElem?_eq_some_iff.mp hj).1;have:=top j (by omega);simpa [hj] using this
end
end L2
set_option Elab.async false
set_option linter.all false
set_option maxRecDepth 100000
set_option maxHeartbeats 4000000
namespace Prf
open PySem L2
def top (i:Nat):Stmt:=PySem.Challenge.pw_fewnotes_k40_whole_order_or_ring.main.body.getD i (.Pass ⟨0,0,0,0⟩)
abbrev cV:Stmt:=top 4
abbrev cW:Stmt:=top 5
abbrev dZ:Stmt:=top 7
abbrev bR:Stmt:=top 9
abbrev jC:Stmt:=top 10
abbrev cu:Stmt:=top 11
abbrev bT:Stmt:=top 12
abbrev cA:Stmt:=top 13
abbrev mV:Stmt:=top 14
abbrev cM:Stmt:=top 15
abbrev d7:Stmt:=top 16
abbrev cB:Stmt:=top 17
abbrev cU:Stmt:=top 18
abbrev cL:Stmt:=top 19
abbrev bJ:Stmt:=top 20
abbrev jD:Stmt:=top 22
abbrev gZ:Stmt:=top 23
abbrev g_:Stmt:=top 24
abbrev d_:Stmt:=top 25
abbrev fO:Stmt:=top 26
abbrev fM:Stmt:=top 27
abbrev g8:Stmt:=top 28
abbrev d8:Stmt:=top 29
abbrev h_:Stmt:=top 30
abbrev cX:Stmt:=top 31
abbrev fQ:Stmt:=top 32
abbrev fP:Stmt:=top 33
abbrev d9:Stmt:=top 34
abbrev bU:Stmt:=top 35
abbrev fU:Stmt:=top 36
abbrev mU:Stmt:=top 37
structure o7 (mg:Str->Option Value):Prop where
 yJ:mg "all" = none
 JH:mg "bool" = none
 Rc:mg "dict" = none
 Nz:mg "int" = none
 dg:mg "isinstance" = none
 cj:mg "len" = none
 kO:mg "list" = none
 Vh:mg "max" = none
 Vg:mg "min" = none
 dJ:mg "range" = none
 Vf:mg "set" = none
 JG:mg "sorted" = none
 Ny:mg "sum" = none
 CZ:mg "tuple" = none
 Ve:mg "zip" = none
theorem wM:bw ["value"] ["value"] (aB cV):=⟨rfl,rfl,rfl,by decide +kernel,rfl,by decide +kernel,by decide +kernel⟩
theorem wN:bw ["value","count"] ["value","count"] (aB cW):=⟨rfl,rfl,rfl,by decide +kernel,rfl,by decide +kernel,by decide +kernel⟩
theorem zK:bw ["value"] ["value"] (aB dZ):=⟨rfl,rfl,rfl,by decide +kernel,rfl,by decide +kernel,by decide +kernel⟩
theorem dR:bw ["record","firsts","done","order","free"] ["record"] (aB bR):=⟨rfl,rfl,rfl,by decide +kernel,rfl,by decide +kernel,by decide +kernel⟩
theorem k_:bw ["record","shortest","starts","start","found"] ["record"] (aB jC):=⟨rfl,rfl,rfl,by decide +kernel,rfl,by decide +kernel,by decide +kernel⟩
theorem sG:bw ["record","some"] ["record","some"] (aB cu):=⟨rfl,rfl,rfl,by decide +kernel,rfl,by decide +kernel,by decide +kernel⟩
theorem pY:bw ["record"] ["record"] (aB bT):=⟨rfl,rfl,rfl,by decide +kernel,rfl,by decide +kernel,by decide +kernel⟩
theorem sH:bw ["counts","note"] ["counts","note"] (aB cA):=⟨rfl,rfl,rfl,by decide +kernel,rfl,by decide +kernel,by decide +kernel⟩
theorem Ow:bw ["done","touch"] ["done","touch"] (aB mV):=⟨rfl,rfl,rfl,by decide +kernel,rfl,by decide +kernel,by decide +kernel⟩
theorem jA:bw ["record","firsts","note"] ["record"] (aB cM):=⟨rfl,rfl,rfl,by decide +kernel,rfl,by decide +kernel,by decide +kernel⟩
theorem zL:bw ["counts","firsts","done","hand"] ["counts","firsts","done","hand"] (aB d7):=⟨rfl,rfl,rfl,by decide +kernel,rfl,by decide +kernel,by decide +kernel⟩
theorem sI:bw ["counts","firsts","done"] ["counts","firsts","done"] (aB cB):=⟨rfl,rfl,rfl,by decide +kernel,rfl,by decide +kernel,by decide +kernel⟩
theorem wL:bw ["note","following"] ["note","following"] (aB cU):=⟨rfl,rfl,rfl,by decide +kernel,rfl,by decide +kernel,by decide +kernel⟩
theorem fK:bw ["record","start","chains","length","back"] ["record","start"] (aB cL):=⟨rfl,rfl,rfl,by decide +kernel,rfl,by decide +kernel,by decide +kernel⟩
theorem dY:bw ["record","chains","longer","note","chain"] ["record","chains"] (aB bJ):=⟨rfl,rfl,rfl,by decide +kernel,rfl,by decide +kernel,by decide +kernel⟩
theorem o9:bw ["script","total","cell"] ["script"] (aB jD):=⟨rfl,rfl,rfl,by decide +kernel,rfl,by decide +kernel,by decide +kernel⟩
theorem pZ:bw ["number","place","one","two"] ["number","place"] (aB gZ):=⟨rfl,rfl,rfl,by decide +kernel,rfl,by decide +kernel,by decide +kernel⟩
theorem p7:bw ["bag","many","cell","found"] ["bag","many"] (aB g_):=⟨rfl,rfl,rfl,by decide +kernel,rfl,by decide +kernel,by decide +kernel⟩
theorem jB:bw ["bag","great","few","hands","top"] ["bag","great"] (aB d_):=⟨rfl,rfl,rfl,by decide +kernel,rfl,by decide +kernel,by decide +kernel⟩
theorem jf:bw ["bag","counts","left","order","step","some"] ["bag","counts"] (aB fO):=⟨rfl,rfl,rfl,by decide +kernel,rfl,by decide +kernel,by decide +kernel⟩
theorem lu:bw ["order","found","many","at"] ["order"] (aB fM):=⟨rfl,rfl,rfl,by decide +kernel,rfl,by decide +kernel,by decide +kernel⟩
theorem mR:bw ["bag","counts","some","i","j"] ["bag","counts"] (aB g8):=⟨rfl,rfl,rfl,by decide +kernel,rfl,by decide +kernel,by decide +kernel⟩
theorem cP:bw ["bag","great","mode","twice","counts","spots","ties","step","note","along"] ["bag","great"] (aB d8):=⟨rfl,rfl,rfl,by decide +kernel,rfl,by decide +kernel,by decide +kernel⟩
theorem G4:bw ["record"] ["record"] (aB h_):=⟨rfl,rfl,rfl,by decide +kernel,rfl,by decide +kernel,by decide +kernel⟩
theorem bN:bw ["bag","record","near","counts","ties","some","hands","step","leaves","comes","at","loop","j","to"] ["bag","record","near"] (aB cX):=⟨rfl,rfl,rfl,by decide +kernel,rfl,by decide +kernel,by decide +kernel⟩
theorem Dr:bw ["tie","later"] ["tie","later"] (aB fQ):=⟨rfl,rfl,rfl,by decide +kernel,rfl,by decide +kernel,by decide +kernel⟩
theorem gq:bw ["ties","first","steps","row","at","here","later"] ["ties","first"] (aB fP):=⟨rfl,rfl,rfl,by decide +kernel,rfl,by decide +kernel,by decide +kernel⟩
theorem lX:bw ["ties","some","found"] ["ties"] (aB d9):=⟨rfl,rfl,rfl,by decide +kernel,rfl,by decide +kernel,by decide +kernel⟩
theorem j6:bw ["record","found","at"] ["record","found"] (aB bU):=⟨rfl,rfl,rfl,by decide +kernel,rfl,by decide +kernel,by decide +kernel⟩
theorem tM:bw ["record","order","spots"] ["record","order"] (aB fU):=⟨rfl,rfl,rfl,by decide +kernel,rfl,by decide +kernel,by decide +kernel⟩
theorem jz:bw ["script","bag","great","planted","record","handed","order","found","held"] ["script"] (aB mU):=⟨rfl,rfl,rfl,by decide +kernel,rfl,by decide +kernel,by decide +kernel⟩
section
variable {P:Program} {w:World} {K:PySem.W.Frag} {mg:Str->Option Value} {base:Heap}
def bD (H:Hp) (r b:Addr) (n:Nat):Prop:=∃(ns:List Int) (i f c t:Int),H r=some (.lst [.ref b,.int i,.int f,.int c,.int t])/\H b=some (.lst (ns.map V.int))/\b≠r/\0<=i/\i<=ns.length/\0<=f/\0<=c/\c<=n
theorem bD.keep {H H':Hp} {r b:Addr} {n:Nat} (h:bD H r b n) (k:Same H H'):bD H' r b n:=by
 obtain ⟨ns,i,f,c,t,e1,e2,q⟩:=h;exact ⟨ns,i,f,c,t,k _ _ e1,k _ _ e2,q⟩
theorem bD.kp {H H':Hp} {r b p:Addr} {n:Nat} (h:bD H r b n) (k:Kp p H H') (n1:r≠p) (n2:b≠p):bD H' r b n:=by
 obtain ⟨ns,i,f,c,t,e1,e2,q⟩:=h;exact ⟨ns,i,f,c,t,k _ _ e1 n1,k _ _ e2 n2,q⟩
theorem bD.mono {H:Hp} {r b:Addr} {n m:Nat} (h:bD H r b n) (k:n<=m):bD H r b m:=by
 obtain ⟨ns,i,f,c,t,e1,e2,q0,q1,q2,q3,q4,q5⟩:=h;exact ⟨ns,i,f,c,t,e1,e2,q0,q1,q2,q3,q4,by (clear q4 q3 q2 q1 q0 e2 e1;omega)⟩
theorem bD.lst {H:Hp} {r b:Addr} {n:Nat} (h:bD H r b n):∃ys,H r=some (.lst ys):=by
 obtain ⟨ns,i,f,c,t,e1,_⟩:=h;exact ⟨_,e1⟩
theorem bD.ne {H:Hp} {r b p:Addr} {n:Nat} (h:bD H r b n) (hp:H p=none):p≠r/\p≠b:=by
 obtain ⟨ns,i,f,c,t,e1,e2,_⟩:=h;exact ⟨(aC e1 hp).symm,(aC e2 hp).symm⟩
theorem Kp.new {H H':Hp} {r p:Addr} (k:Kp r H H') (hp:H' p=none) (hr:∃o,H' r=some o):H p=none:=by
 cases e:H p with
 | none=>rfl
 | some o=>
   by_cases n:p=r
   ·subst n
    obtain ⟨o',ho⟩:=hr;rw [hp] at ho;cases ho
   ·rw [k _ _ e n] at hp
    cases hp
theorem bD.at {H:Hp} {r b:Addr} {n:Nat} (h:bD H r b n):∃o,H r=some o:=by
 obtain ⟨ns,i,f,c,t,e1,_⟩:=h;exact ⟨_,e1⟩
theorem bD.tups {H H':Hp} {r b:Addr} {n:Nat} (h:bD H r b n) (k:Kp r H H'):∀a xs,H a=some (HO.tup xs)->H' a=some (HO.tup xs):=by
 obtain ⟨ys,e⟩:=h.lst;exact k.tups e
def zB (K:PySem.W.Frag):Sp:=fun vs H Q _=>∃(x p:Int),vs=[.int x,.int p]/\0<=p/\p<2 ^ 62 /\ ∀z:Int,0<=z->Q (.int z) H
theorem K_ {f:Addr} {fd:FuncData} (F:jX K "_law_stir" "_law_stir" gZ f fd):cT P w K mg base jV 1 f fd ["number","place"] (zB K):=by
 refine F.ok pZ (fun vs H Q E h=> ?_) (fun cdv A outer s H vs Q E hr h=> ?_)
 ·obtain ⟨x,p,rfl,_⟩:=h
  rfl
 ·obtain ⟨x,p,rfl,p0,p1,k⟩:=h
  refine ⟨_,(au (aU (i:=2) pZ.nd rfl (Or.inl rfl) (bx gP (bx cF (bx cF (bx lZ (pv 0) ao) (bx lZ (pv 1) ao)) ao) ao))
   (au (aU (i:=3) pZ.nd rfl (Or.inl rfl) (bx gP (bx lZ (pv 2) (pv 2)) ao))
   (aF (aW (bx u_ (bx gP (bx cF (bx cF (bx lZ (pv 3) ao) (bx lZ (bx lZ (pv 1) (pv 1)) ao)) (bx u_ (pv 2) ao)) ao) ao))))), ?_⟩
  refine ⟨_,rfl,_,_,rfl,rfl,.inr ⟨by decide,by decide⟩,_,rfl,_,_,rfl,rfl,.inr ⟨by decide,by decide⟩,_,_,rfl,rfl,_,_,rfl,rfl,_,_,rfl,rfl,(by show (0:Int)<2305843009213693951;decide), ?_⟩;have o0:(0:Int)<=(x*998244353+p*1000000007+5) % 2305843009213693951:=Int.emod_nonneg _ (by decide);have o1:(x*998244353+p*1000000007+5) % 2305843009213693951<2305843009213693951:=Int.emod_lt_of_pos _ (by decide);generalize (x*998244353+p*1000000007+5) % 2305843009213693951=one at o0 o1;refine ⟨_,rfl,_,rfl,_,_,rfl,rfl,.inl ⟨by (clear o1 o0 p1 p0;omega),by (clear o1 o0 p1 p0;omega)⟩,_,_,rfl,rfl,(by show (0:Int)<2305843009213693951;decide), ?_⟩;refine ⟨_,rfl,_,_,rfl,rfl,.inr ⟨by decide,by decide⟩,_,rfl,_,rfl,_,_,rfl,rfl,.inl ⟨by (clear o1 o0 p1;omega),by (clear o1 o0 p0;omega)⟩,_,_,rfl,rfl,.inr ⟨by decide,by decide⟩,_,_,rfl,rfl,_,rfl,_,_,rfl,rfl,(by show MJ _ 3;exact ⟨by decide,by decide⟩),_,_,rfl,rfl,_,_,rfl,rfl,(by show (0:Int)<2305843009213693921;decide),_,_,rfl,rfl,(by show MJ _ 1024;exact ⟨by decide,by decide⟩), ?_⟩;exact k _ (Int.ediv_nonneg (Int.emod_nonneg _ (by decide)) (by decide))
def j4 (K:PySem.W.Frag):Sp:=fun vs H Q _=>∃(r b:Addr) (m:Int) (n:Nat),vs=[.ref r,.int m]/\bD H r b n/\n<1099511627776/\0<m/\m<1329227995784915872903807060280344576 /\ ∀(z:Int) (H':Hp),0<=z->z<m->bD H' r b (n+1)->Kp r H H'->Q (.int z) H'
theorem Ld {f:Addr} {fd:FuncData} (F:jX K "_law_draw" "_law_draw" g_ f fd) (Dd:FnAt P w K mg base 1 "_law_stir" ["number","place"] (zB K)) (Bt:o7 mg):cT P w K mg base jV 2 f fd ["bag","many"] (j4 K):=by
 refine F.ok p7 (fun vs H Q E h=> ?_) (fun cdv A outer s H vs Q E hr h=> ?_)
 ·obtain ⟨r,b,m,n,rfl,_⟩:=h
  rfl
 ·obtain ⟨r,b,m,n,rfl,⟨ns,i,f,c,t,hR,hB,nb,i0,i1,f0,c0,c1⟩,hn,m0,m1,k⟩:=h
  have dN:=hr.units
  refine ⟨_,(au (b_ (aX jP (pv 1) ao (aV _)) (aF (aW ao)) bh)
   (au (lY (bx cF (aL (aJ (K:=K) rfl) (pv 0) ao (fun _ _=>rfl)) ao) (nR (pv 0) ao set_list))
   (au (b_ (PW.pt (j8 (aX j9 (aL (aJ (K:=K) rfl) (pv 0) ao (fun _ _=>rfl)) ao (aV _)) (iI (aX jP (aL (aJ (K:=K) rfl) (pv 0) ao (fun _ _=>rfl)) (aN (aH (K:=K) rfl) (by rfl) Bt.cj bH (aj (aL (aJ (K:=K) rfl) (pv 0) ao (fun _ _=>rfl)) ak)) (aV _))))) (aF (aW (bx gP (aZ Dd (hr.mono (by decide)) (by rfl) (aj (aL (aJ (K:=K) rfl) (pv 0) ao (fun _ _=>rfl)) (aj (aL (aJ (K:=K) rfl) (pv 0) ao (fun _ _=>rfl)) ak))) (pv 1)))) bh)
   (au (b_ (aX j9 (aL (aJ (K:=K) rfl) (pv 0) ao (fun _ _=>rfl)) ao (aV _)) (au (aU (i:=2) p7.nd rfl (Or.inl rfl) (aL (aJ (K:=K) rfl) (aL (aJ (K:=K) rfl) (pv 0) ao (fun _ _=>rfl)) (aL (aJ (K:=K) rfl) (pv 0) ao (fun _ _=>rfl)) (fun _ _=>rfl)))
   (au (lY (bx cF (aL (aJ (K:=K) rfl) (pv 0) ao (fun _ _=>rfl)) ao) (nR (pv 0) ao set_list))
   (au (b_ (aX j9 (pv 2) (bx Hy ao ao) (aV _)) (aF (aW (bx gP (aZ Dd (hr.mono (by decide)) (by rfl) (aj (bx gP (pv 2) ao) (aj (aL (aJ (K:=K) rfl) (pv 0) ao (fun _ _=>rfl)) ak))) (pv 1)))) bh)
   (aF (lY (bx nT (pv 2) (bx Hy ao ao)) (nR (pv 0) ao set_list)))))) bh)
   (au (aU (i:=3) p7.nd rfl (Or.inl rfl) (bx gP (aL (aJ (K:=K) rfl) (pv 0) ao (fun _ _=>rfl)) (pv 1)))
   (au (lY (bx HB (aL (aJ (K:=K) rfl) (pv 0) ao (fun _ _=>rfl)) (pv 1)) (nR (pv 0) ao set_list))
   (aF (aW (pv 3))))))))), ?_⟩
  refine ⟨_,rfl,rfl,_,rfl, ?_⟩;refine dG (fun h0=> ?_) (fun h0=> ?_)
  ·have e:m=1:=by injection (of_decide_eq_true h0)
   subst e;exact k 0 H (by decide) (by decide) ⟨ns,i,f,c,t,hR,hB,nb,i0,i1,f0,c0,by (clear h0 m1 m0 dN hn c0 f0 i1 i0 nb hB hR;omega)⟩ (Kp.refl _ _)
  ·
   refine ⟨_,rfl,_,_,_,_,rfl,rfl,aY.of hR,rfl,_,_,rfl,rfl,_,rfl,_,_,_,_,rfl,rfl,hR,rfl, ?_⟩;have k1:Kp r H (upd H r (.lst [.ref b,.int i,.int f,.int (c+1),.int t])):=Kp.set;have lU:(upd H r (.lst [.ref b,.int i,.int f,.int (c+1),.int t])) r=some (.lst [.ref b,.int i,.int f,.int (c+1),.int t]):=aA;have jq:=k1 _ _ hB nb;have ln:(List.map V.int ns).length=ns.length:=List.length_map ..;have rW:(0:Int)<=c+1:=by (clear ln jq lU h0 dN m1 m0 hn c1 f0 i1 i0 nb hB hR;omega)
   have w5:c+1<2 ^ 62:=by (clear rW ln jq lU h0 dN m1 m0 c0 f0 i1 i0 nb hB hR;omega)
   have V4:∀z:Int,0<=z % m:=fun z=>Int.emod_nonneg _ (by (clear w5 rW ln jq lU h0 dN m1 hn c1 c0 f0 i1 i0 nb hB hR;omega));have V3:∀z:Int,z % m<m:=fun z=>Int.emod_lt_of_pos _ m0;refine ⟨_,rfl,_,_,_,_,rfl,rfl,aY.of lU,rfl,_,_,rfl,rfl,_,rfl, ?_⟩
   by_cases f2:f<2
   ·rw [decide_eq_true f2]
    refine iB ?_;refine ⟨_,rfl,_,_,_,_,rfl,rfl,aY.of lU,rfl,_,rfl,_,_,_,_,rfl,rfl,aY.of lU,rfl,b,_,rfl,.inl (aY.of jq),rfl,_,rfl, ?_⟩;refine dG (fun h1=> ?_) (fun h1=> ?_)
    ·refine ⟨_,rfl,_,_,_,_,rfl,rfl,aY.of lU,rfl,_,rfl,_,_,_,_,rfl,rfl,aY.of lU,rfl,t,c+1,rfl,rW,w5,fun z z0=> ?_⟩
     refine ⟨_,rfl,_,_,rfl,rfl,m0, ?_⟩;exact k _ _ (V4 z) (V3 z) ⟨ns,i,f,c+1,t,lU,jq,nb,i0,i1,f0,rW,by (clear z0 h1 f2 w5 rW ln jq lU h0 dN m1 m0 hn c0 f0 i1 i0 nb hB hR;omega)⟩ k1
    ·have hlt:i<ns.length:=by
      have:¬i=(ns.length:Int):=fun z=>h1 (decide_eq_true (by rw [ln,z]));omega
     obtain ⟨cell,hc,_⟩:∃cell:Int,rY (ns.map V.int) i=some (V.int cell)/\True:=by
      obtain ⟨m',rfl⟩:=Int.eq_ofNat_of_zero_le i0;have:m'<ns.length:=by (clear h1 jq lU i1 i0 hR f2 w5 rW ln h0 dN m1 m0 hn c1 c0 f0 nb hB;omega)
      exact ⟨ns[m'],fD (by simp [this]),trivial⟩
     refine ⟨_,rfl,_,_,_,_,rfl,rfl,aY.of lU,rfl,_,_,rfl,rfl,_,rfl, ?_⟩;rw [decide_eq_true f2];refine iB ?_;refine ⟨_,rfl,_,_,_,_,rfl,rfl,aY.of lU,rfl,_,rfl,_,_,_,_,rfl,rfl,aY.of lU,rfl,_,_,_,_,rfl,rfl,aY.of jq,hc, ?_⟩;refine ⟨_,rfl,_,_,_,_,rfl,rfl,aY.of lU,rfl,_,_,rfl,rfl,_,rfl,_,_,_,_,rfl,rfl,lU,rfl, ?_⟩;have k2:Kp r (upd H r (.lst [.ref b,.int i,.int f,.int (c+1),.int t])) (upd (upd H r (.lst [.ref b,.int i,.int f,.int (c+1),.int t])) r (.lst [.ref b,.int (i+1),.int f,.int (c+1),.int t])):=Kp.set;have Jg:(upd (upd H r (.lst [.ref b,.int i,.int f,.int (c+1),.int t])) r (.lst [.ref b,.int (i+1),.int f,.int (c+1),.int t])) r=some (.lst [.ref b,.int (i+1),.int f,.int (c+1),.int t]):=aA;have hB2:=k2 _ _ jq nb;refine ⟨_,rfl,_,_,rfl,rfl,(by show Rn 10 18;exact ⟨by decide,by decide,by decide⟩),_,_,rfl,rfl,_,rfl, ?_⟩;refine dG (fun h2=> ?_) (fun h2=> ?_)
     ·refine ⟨_,rfl,_,_,rfl,rfl,(by show (0:Int)<2305843009213693951;decide),_,rfl,_,_,_,_,rfl,rfl,aY.of Jg,rfl,_,c+1,rfl,rW,w5,fun z z0=> ?_⟩
      refine ⟨_,rfl,_,_,rfl,rfl,m0, ?_⟩;exact k _ _ (V4 z) (V3 z) ⟨ns,i+1,f,c+1,t,Jg,hB2,nb,by (clear z0 h2 hB2 Jg hc hlt h1 f2 w5 rW ln jq lU h0 dN m1 m0 hn c1 c0 f0 i1 nb hB hR;omega),by (clear z0 h2 hB2 Jg hc h1 f2 w5 rW ln jq lU h0 dN m1 m0 hn c1 c0 f0 i1 i0 nb hB hR;omega),f0,rW,by (clear z0 h2 hB2 Jg hc hlt h1 f2 w5 rW ln jq lU h0 dN m1 m0 hn c0 f0 i1 i0 nb hB hR;omega)⟩ (k1.trans k2)
     ·have hbig:(0:Int)<=cell - 10 ^ ((18:Int).toNat):=by
       have h2':(1000000000000000000:Int)<=cell:=by simpa using h2
       show (0:Int)<=cell - 1000000000000000000
       (clear h2 hB2 Jg hc hlt h1 f2 w5 rW ln jq lU h0 dN m1 m0 hn c1 c0 f0 i1 i0 nb hB hR;omega)
      refine ⟨_,rfl,_,_,rfl,rfl,(by show Rn 10 18;exact ⟨by decide,by decide,by decide⟩),_,_,rfl,rfl,_,rfl,_,_,_,_,rfl,rfl,Jg,rfl, ?_⟩;have QF:(upd (upd (upd H r (.lst [.ref b,.int i,.int f,.int (c+1),.int t])) r (.lst [.ref b,.int (i+1),.int f,.int (c+1),.int t])) r (.lst [.ref b,.int (i+1),.int (cell - 10 ^ ((18:Int).toNat)),.int (c+1),.int t])) r=some (.lst [.ref b,.int (i+1),.int (cell - 10 ^ ((18:Int).toNat)),.int (c+1),.int t]):=aA;have k3:Kp r (upd (upd H r (.lst [.ref b,.int i,.int f,.int (c+1),.int t])) r (.lst [.ref b,.int (i+1),.int f,.int (c+1),.int t])) (upd (upd (upd H r (.lst [.ref b,.int i,.int f,.int (c+1),.int t])) r (.lst [.ref b,.int (i+1),.int f,.int (c+1),.int t])) r (.lst [.ref b,.int (i+1),.int (cell - 10 ^ ((18:Int).toNat)),.int (c+1),.int t])):=Kp.set;have hB3:=k3 _ _ hB2 nb;refine ⟨_,rfl,_,_,_,_,rfl,rfl,aY.of QF,rfl,_,rfl,_,_,rfl,rfl,m0, ?_⟩;refine ⟨_,rfl,_,_,_,_,rfl,rfl,aY.of QF,rfl,_,rfl,_,_,rfl,rfl,⟨m0,m1⟩,_,rfl,_,_,_,_,rfl,rfl,QF,rfl, ?_⟩;refine ⟨_,rfl, ?_⟩;refine k _ _ (V4 _) (V3 _) ⟨ns,i+1,_,c+1,t,aA, ?_,nb,by (clear hB3 QF hbig h2 hB2 Jg hc hlt h1 f2 w5 rW ln jq lU h0 dN m1 m0 hn c1 c0 f0 i1 nb hB hR;omega),by (clear hB3 QF hbig h2 hB2 Jg hc h1 f2 w5 rW ln jq lU h0 dN m1 m0 hn c1 c0 f0 i1 i0 nb hB hR;omega),Int.ediv_nonneg hbig (by (clear hB3 QF hbig h2 hB2 Jg hc hlt h1 f2 w5 rW ln jq lU h0 dN m1 hn c1 c0 f0 i1 i0 nb hB hR;omega)),rW,by (clear hB3 QF hbig h2 hB2 Jg hc hlt h1 f2 w5 rW ln jq lU h0 dN m1 m0 hn c0 f0 i1 i0 nb hB hR;omega)⟩ (((k1.trans k2).trans k3).trans Kp.set);rw [bA nb];exact hB3
   ·have Rx:decide (f<2)=false:=decide_eq_false f2
    rw [Rx];refine dj ?_;refine ⟨_,rfl,_,_,_,_,rfl,rfl,aY.of lU,rfl,_,_,rfl,rfl,_,rfl, ?_⟩;rw [Rx];refine dj ?_;refine ⟨_,rfl,_,_,_,_,rfl,rfl,aY.of lU,rfl,_,rfl,_,_,rfl,rfl,m0, ?_⟩;refine ⟨_,rfl,_,_,_,_,rfl,rfl,aY.of lU,rfl,_,rfl,_,_,rfl,rfl,⟨m0,m1⟩,_,rfl,_,_,_,_,rfl,rfl,lU,rfl, ?_⟩;refine ⟨_,rfl, ?_⟩;refine k _ _ (V4 _) (V3 _) ⟨ns,i,_,c+1,t,aA, ?_,nb,by (clear Rx f2 w5 rW ln jq lU h0 dN m1 m0 hn c1 c0 f0 i1 nb hB hR;omega),by (clear Rx f2 w5 rW ln jq lU h0 dN m1 m0 hn c1 c0 f0 i0 nb hB hR;omega),Int.ediv_nonneg f0 (by (clear Rx f2 w5 rW ln jq lU h0 dN m1 hn c1 c0 f0 i1 i0 nb hB hR;omega)),rW,by (clear Rx f2 w5 rW ln jq lU h0 dN m1 m0 hn c0 f0 i1 i0 nb hB hR;omega)⟩ (k1.trans Kp.set);rw [bA nb];exact jq
def GK (K:PySem.W.Frag):Sp:=fun vs H Q _=>∃(a:Addr) (ns:List Int),vs=[.ref a]/\aY K H a (ns.map V.int)/\ns.length<=63 /\ ∀(r b:Addr) (H':Hp),H r=none->H b=none->bD H' r b 0->Same H H'->Q (.ref r) H'
theorem P0 {f:Addr} {fd:FuncData} (F:jX K "_law_bag" "_law_bag" jD f fd) (Bt:o7 mg):cT P w K mg base jV 1 f fd ["script"] (GK K):=by
 refine F.ok o9 (fun vs H Q E h=> ?_) (fun cdv A outer s H vs Q E hr h=> ?_)
 ·obtain ⟨a,ns,rfl,_⟩:=h
  rfl
 ·obtain ⟨a,ns,rfl,hs,hlen,k⟩:=h
  refine ⟨_,(au (aU (i:=1) o9.nd rfl (Or.inl rfl) ao)
   (au (gM PassesOwn.never rfl (cN (K:=K) rfl (pv 0)) (bf (i:=2) o9.nd rfl (Or.inl rfl))
   (aF (aU (i:=1) o9.nd rfl (Or.inl rfl) (bx gP (bx cF (bx cF (bx lZ (pv 1) ao) (bx gP (pv 2) ao)) ao) ao))))
   (aF (aW (cY (aj (eG (dF (K:=K) rfl) (by rfl) Bt.kO iR (aj (pv 0) ak)) (aj ao (aj ao (aj ao (aj (pv 1) ak)))))))))), ?_⟩
  refine ⟨_,rfl,a,rfl,⟨_,hs⟩,m9 (K:=K) (a:=a) (xs:=ns.map V.int) (fun i σ H2=>∃(t:Int) (v:Option V),σ=[some (.ref a),some (.int t),v]/\H2=H)
   ⟨1,none,rfl,rfl⟩ (fun i σ H2 _ ⟨_,_,_,e⟩=>by rw [e];exact hs) ?_ ?_⟩
  ·rintro i y σ H2 hi ⟨t,v,rfl,rfl⟩
   obtain ⟨z,rfl⟩:∃z,y=V.int z:=by
    rw [List.getElem?_map] at hi;cases e:ns[i]? with
    | none=>rw [e] at hi;cases hi
    | some z=>rw [e] at hi;exact ⟨z,(Option.some.inj hi).symm⟩
   refine ⟨_,rfl,_,_,rfl,rfl,.inr ⟨by decide,by decide⟩,_,rfl,_,_,rfl,rfl,(by show (0:Int)<2305843009213693951;decide),_,_,rfl,rfl,_,_,rfl,rfl,_,_,rfl,rfl,(by show (0:Int)<2305843009213693951;decide), ?_⟩;exact ⟨_,_,rfl,rfl⟩
  ·rintro σ H2 ⟨t,v,rfl,rfl⟩
   refine ⟨_,rfl,a,_,rfl,.inl hs,fun b hb=> ?_⟩;refine ⟨_,rfl,(by show 5<=sizeLine;decide),fun r hr'=> ?_⟩;have sm:=aD (o:=HO.lst (ns.map V.int)) hb;exact k r b _ (sm.free hr') hb ⟨ns,0,0,0,t,aA,aD hr' _ _ aA,aC aA hr',by decide,by (clear hr' hb hlen;omega),by decide,by decide,by decide⟩ (sm.trans (aD hr'))
section
variable {D r b:Addr} {te:TE} {Q:VK} {rest:St} {H1:Hp} {n bn:Nat}
theorem mG {zs:List Int} {z:Int} {p:Nat->Int->Prop} {i:Nat} (hl:zs.length=i) (h:∀j z,zs[j]? = some z->p j z) (hz:p i z):∀j y,(zs++[z])[j]? = some y->p j y:=by
 intro j y e
 by_cases hj:j<zs.length
 ·rw [List.getElem?_append_left hj] at e
  exact h j y e
 ·rw [List.getElem?_append_right (by (clear e hl;omega))] at e
  have:j - zs.length=0:=by
   have:=(List.getElem?_eq_some_iff.mp e).1;simp at this;omega
  rw [this] at e;cases e;have:j=i:=by omega
  rw [this];exact hz
theorem qY (p:Nat->Int->Prop) (hD:H1 D=none) (hB:bD H1 r b bn) (hx:n<=100000)
 (hs:∀i H (F:VK),i<n->Kp r H1 H->bD H r b (bn+i)->(∀z H',p i z->Kp r H H'->bD H' r b (bn+i+1)->F (.int z) H')->te (some (.int (0+i))::rest) H F)
 (hd:∀H (zs:List Int),zs.length=n->(∀i z,zs[i]? = some z->p i z)->H D=some (.lst (zs.map V.int))->Kp r H1 H->bD H r b (bn+n)->Q (.ref D) H):jo (Mw 0 n) (jR 0) Kd te Q D (none::rest) H1:=by
 obtain ⟨nr,nb⟩:=hB.ne hD;have mv:∀{H:Hp} {o:HO},Kp r H1 H->Kp r H1 (upd H D o):=fun k c u e m=>by rw [bA (aC e hD)];exact k c u e m
 refine qX (lo:=0) (n:=n) (fun i σ H=>(∃v,σ=v::rest) /\ ∃zs:List Int,zs.length=i/\(∀j z,zs[j]? = some z->p j z)/\H D=some (.lst (zs.map V.int))/\Kp r H1 H/\bD H r b (bn+i)) ⟨⟨none,rfl⟩,[],rfl,fun j z e=>(by cases e),aA,.of_same (aD hD),hB.keep (aD hD)⟩ ?_ (fun σ H ⟨_,zs,hl,hp,e,k,B⟩=>hd H zs hl hp e k B);rintro i σ H hi ⟨⟨v,rfl⟩,zs,hl,hp,e,k1,B1⟩;refine hs i H _ hi k1 B1 fun z H' hz k2 B2=> ?_;refine ⟨_,k2 _ _ e nr, ?_,⟨_,rfl⟩,zs++[z],by simp [hl],mG hl hp hz, ?_,mv (k1.trans k2),B2.kp Kp.set nr.symm nb.symm⟩
 ·rw [List.length_map,sizeLine_eq];omega
 ·rw [aA];simp
theorem qZ {a:Addr} {xs:List V} {f:Nat} (p:Nat->Int->Prop) (hD:H1 D=none) (hB:bD H1 r b bn) (hx:xs.length<=100000) (ha:H1 a=some (.lst xs)) (Gd:a≠r)
 (hs:∀i x H (F:VK),xs[i]? = some x->Kp r H1 H->bD H r b (bn+i)->(∀z H',p i z->Kp r H H'->bD H' r b (bn+i+1)->F (.int z) H')->te (some x::rest) H F)
 (hd:∀H (zs:List Int),zs.length=xs.length->(∀i z,zs[i]? = some z->p i z)->H D=some (.lst (zs.map V.int))->Kp r H1 H->bD H r b (bn+xs.length)->Q (.ref D) H):jo (J5 K a) (jR 0) Kd te Q D (none::rest) H1:=by
 obtain ⟨nr,nb⟩:=hB.ne hD;have mv:∀{H:Hp} {o:HO},Kp r H1 H->Kp r H1 (upd H D o):=fun k c u e m=>by rw [bA (aC e hD)];exact k c u e m
 refine lH (K:=K) (xs:=xs) (fun i σ H=>(∃v,σ=v::rest) /\ ∃zs:List Int,zs.length=i/\(∀j z,zs[j]? = some z->p j z)/\H D=some (.lst (zs.map V.int))/\Kp r H1 H/\bD H r b (bn+i)) ⟨⟨none,rfl⟩,[],rfl,fun j z e=>(by cases e),aA,.of_same (aD hD),hB.keep (aD hD)⟩ (fun i σ H _ ⟨_,_,_,_,_,k,_⟩=>aY.of (k _ _ ha Gd)) ?_ (fun σ H ⟨_,zs,hl,hp,e,k,B⟩=>hd H zs hl hp e k B);rintro i x σ H hi ⟨⟨v,rfl⟩,zs,hl,hp,e,k1,B1⟩;have hil:i<xs.length:=(List.getElem?_eq_some_iff.mp hi).1;refine hs i x H _ hi k1 B1 fun z H' hz k2 B2=> ?_;refine ⟨_,k2 _ _ e nr, ?_,⟨_,rfl⟩,zs++[z],by simp [hl],mG hl hp hz, ?_,mv (k1.trans k2),B2.kp Kp.set nr.symm nb.symm⟩
 ·rw [List.length_map,sizeLine_eq];omega
 ·rw [aA];simp
end
abbrev Nt:=Int×Int×Int×Int
def nD (x:Nt):PyData:= .tuple [.int x.1,.int x.2.1,.int x.2.2.1,.int x.2.2.2]
def nV (x:Nt):List V:=[.int x.1,.int x.2.1,.int x.2.2.1,.int x.2.2.2]
theorem eU (x:Nt):LC (nD x)=true:=rfl
theorem Nu {H:Hp} {v:V} {d:PyData} (h:Dat H v d):aG H [v] [d]:=by
 simp only [aG,and_true];exact h
theorem jL {H:Hp} {t:Addr} {x:Nt} (h:H t=some (.tup (nV x))):Dat H (.ref t) (nD x):=by
 simp only [nD,Dat];exact ⟨t,_,rfl,h,by simp only [nV,aG,Dat,and_self]⟩
theorem iC {H:Hp} {v:V} {x:Nt} (h:Dat H v (nD x)):∃t,v = .ref t/\H t=some (.tup (nV x)):=by
 simp only [nD,Dat] at h;obtain ⟨t,vs,e,q,d⟩:=h
 match vs,d with
 | [a,b,c,z],d=>
   simp only [aG,Dat,and_true] at d;obtain ⟨rfl,rfl,rfl,rfl⟩:=d;exact ⟨t,e,q⟩
 | [],d=>simp only [aG] at d
 | [_],d=>simp only [aG,and_false] at d
 | [_,_],d=>simp only [aG,and_false] at d
 | [_,_,_],d=>simp only [aG,and_false] at d
 | _::_::_::_::_::_,d=>simp only [aG,and_false] at d
def bQ (H:Hp) (a:Addr) (ns:List Nt):Prop:=∃vs,H a=some (.lst vs)/\aG H vs (ns.map nD)
theorem bQ.kp {H H':Hp} {a r:Addr} {ns:List Nt} (h:bQ H a ns) (hr:∀a xs,H a=some (HO.tup xs)->H' a=some (HO.tup xs)) (k:Kp r H H') (n:a≠r):bQ H' a ns:=by
 obtain ⟨vs,e,d⟩:=h;exact ⟨vs,k _ _ e n,aG.keep hr _ (bI _ eU ns) d⟩
theorem bQ.same {H H':Hp} {a:Addr} {ns:List Nt} (h:bQ H a ns) (k:Same H H'):bQ H' a ns:=by
 obtain ⟨vs,e,d⟩:=h;exact ⟨vs,k _ _ e,aG.keep k.tups _ (bI _ eU ns) d⟩
theorem fW {H:Hp} {vs:List V} {ns:List Nt} {i:Nat} {v:V} (d:aG H vs (ns.map nD)) (e:vs[i]? = some v):∃x t,ns[i]? = some x/\v = .ref t/\H t=some (.tup (nV x)):=by
 obtain ⟨q,eq,dq⟩:=d.get e;rw [List.getElem?_map] at eq;cases ex:ns[i]? with
 | none=>rw [ex] at eq;cases eq
 | some x=>
   rw [ex] at eq;cases eq;obtain ⟨t,rfl,ht⟩:=iC dq;exact ⟨x,t,rfl,rfl,ht⟩
def gI (cs:List Int) (h:Int):Int:=(cs[h.toNat]?).getD 0
theorem dX {cs:List Int} {h:Int} (h0:0<=h) (h1:h<cs.length):rY (cs.map V.int) h=some (.int (gI cs h)):=by
 obtain ⟨m,rfl⟩:=Int.eq_ofNat_of_zero_le h0;have:m<cs.length:=by (clear h0;omega)
 refine fD ?_;simp [gI,this]
theorem fX {cs:List Int} {i:Nat} {c:Int} (h:cs[i]? = some c):gI cs i=c:=by simp [gI,h]
theorem vG {n:Nat} {i:Int} (h0:0<=i) (h1:i<n):I_ n i=some i.toNat:=by unfold I_;rw [if_pos h0,if_pos h1]
theorem vO {cs:List Int} {h k v:Int} (h0:0<=h) (h1:h<cs.length) (k0:0<=k):gI (cs.set h.toNat v) k=if k=h then v else gI cs k:=by
 unfold gI;rw [List.getElem?_set]
 by_cases e:k=h
 ·subst e
  have:k.toNat<cs.length:=by (clear h0;omega)
  simp [this]
 ·have:¬h.toNat=k.toNat:=by (clear h1;omega)
  simp [e,this]
def v9 (cs:List Int) (x:Nt):Prop:=(0<=x.1/\x.1<cs.length)/\(0<=x.2.1/\x.2.1<gI cs x.1)/\(0<=x.2.2.1/\x.2.2.1<cs.length)/\(0<=x.2.2.2/\x.2.2.2<gI cs x.2.2.1)/\x.1≠x.2.2.1
def yQ (cs:List Int):Prop:=cs.length<=8 /\ ∀c∈cs,0<=c/\c<=300
theorem yQ.gI {cs:List Int} (h:yQ cs) (i:Int):0<=gI cs i/\gI cs i<=300:=by
 unfold Prf.gI;cases e:cs[i.toNat]? with
 | none=>simp
 | some c=>exact h.2 c (List.mem_of_getElem? e)
def Vw (cs:List Int):Prop:=cs.length<=4 /\ ∀c∈cs,c<=6
def pR (K:PySem.W.Frag):Sp:=fun vs H Q _=>∃(r b:Addr) (n:Nat) (g:Int),vs=[.ref r,.int g]/\(g=0\/g=1)/\bD H r b n/\n<549755813888 /\ ∀(a:Addr) (cs:List Int) (H':Hp),H a=none->H' a=some (.lst (cs.map V.int))->yQ cs->(g=0->Vw cs)->bD H' r b (n+20)->Kp r H H'->Q (.ref a) H'
theorem Tq (n:Int) (h0:0<=n) (h1:n<7):∃v:Int,rY [V.int 3,V.int 2,V.int 4,V.int 2,V.int 3,V.int 1,V.int 0] n=some (V.int v)/\0<=v/\v<=4:=by
 have:n=0\/n=1\/n=2\/n=3\/n=4\/n=5\/n=6:=by omega
 rcases this with rfl|rfl|rfl|rfl|rfl|rfl|rfl
 ·exact ⟨3,rfl,by decide,by decide⟩
 ·exact ⟨2,rfl,by decide,by decide⟩
 ·exact ⟨4,rfl,by decide,by decide⟩
 ·exact ⟨2,rfl,by decide,by decide⟩
 ·exact ⟨3,rfl,by decide,by decide⟩
 ·exact ⟨1,rfl,by decide,by decide⟩
 ·exact ⟨0,rfl,by decide,by decide⟩
theorem Tr {u v:V} (n:Int) (h0:0<=n) (h1:n<2):(n=0/\rY [u,v] n=some u)\/(n=1/\rY [u,v] n=some v):=by
 have:n=0\/n=1:=by omega
 rcases this with rfl|rfl
 ·exact .inl ⟨rfl,rfl⟩
 ·exact .inr ⟨rfl,rfl⟩
theorem Ea {f:Addr} {fd:FuncData} (F:jX K "_law_counts" "_law_counts" d_ f fd) (bC:FnAt P w K mg base 2 "_law_draw" ["bag","many"] (j4 K)) (Bt:o7 mg):cT P w K mg base jV 3 f fd ["bag","great"] (pR K):=by
 refine F.ok jB (fun vs H Q E h=> ?_) (fun cdv A outer s H vs Q E hr h=> ?_)
 ·obtain ⟨r,b,n,g,rfl,_⟩:=h
  rfl
 ·obtain ⟨r,b,n,g,rfl,hg,B0,hn,k⟩:=h
  refine ⟨_,(au (b_ (aX jP (pv 1) ao (aV _)) (aF (aW (eF rfl (N:=["hand","bag"]) (own:=["hand"]) (caps:=[0]) (aR.of (by kernel_rfl)) (cg (by rfl) Bt.dJ (aj (aL (aJ (K:=K) rfl) (cY (aj ao (aj ao (aj ao (aj ao (aj ao (aj ao (aj ao ak)))))))) (aZ bC (hr.mono (by decide)) (by rfl) (aj (pv 0) (aj ao ak))) (fun _ _=>rfl)) ak)) (fun _ _ _ _=>(bf (i:=0) (show List.Nodup (["hand","bag"]:List Str) by decide +kernel) rfl (Or.inl rfl))) (fun _ _ _ _=>eE) (fun _ _ _ _=>(aZ bC (hr.mono (by decide)) (by rfl) (aj (pv 1) (aj ao ak))))))) bh)
   (au (aU (i:=2) jB.nd rfl (Or.inl rfl) (aZ bC (hr.mono (by decide)) (by rfl) (aj (pv 0) (aj ao ak))))
   (au (aU (i:=3) jB.nd rfl (Or.inl rfl) (bx nT ao (aZ bC (hr.mono (by decide)) (by rfl) (aj (pv 0) (aj ao ak)))))
   (au (aU (i:=4) jB.nd rfl (Or.inr rfl) (aL (aJ (K:=K) rfl) (cY (aj (bx cF (bx u_ ao (aN (Fx rfl) (by rfl) Bt.Vh Q_ (aj ao (aj (pv 3) ak)))) ao) (aj ao ak))) (pv 2) (fun _ _=>rfl)))
   (aF (aW (eF rfl (N:=["hand","bag","top"]) (own:=["hand"]) (caps:=[0,4]) (aR.of (by kernel_rfl)) (cg (by rfl) Bt.dJ (aj (pv 3) ak)) (fun _ _ _ _=>(bf (i:=0) (show List.Nodup (["hand","bag","top"]:List Str) by decide +kernel) rfl (Or.inl rfl))) (fun _ _ _ _=>eE) (fun _ _ _ _=>(aZ bC (hr.mono (by decide)) (by rfl) (aj (pv 1) (aj (pv 2) ak))))))))))), ?_⟩
  refine ⟨_,rfl,rfl,_,rfl, ?_⟩;refine dG (fun h0=> ?_) (fun h0=> ?_)
  ·refine ⟨(by show 7<=sizeLine;decide),fun p hp=> ?_⟩
   have sm:=aD (o:=HO.lst [V.int 3,V.int 2,V.int 4,V.int 2,V.int 3,V.int 1,V.int 0]) hp;have np:=B0.ne hp;refine ⟨_,rfl,r,b,7,n,rfl,B0.keep sm,by omega,by decide,by decide,fun z H1 z0 z1 B1 k1=> ?_⟩;obtain ⟨v,ev,v0,v1⟩:=Tq z z0 z1;refine ⟨_,_,_,_,rfl,rfl,aY.of (k1 _ _ aA np.1),ev,v,rfl,by omega,by omega,fun D hD=> ?_⟩;have kk:Kp r H H1:=(Kp.of_same sm).trans k1;refine qY (fun _ z=>0<=z/\z<7) hD B1 (by omega) (fun i H2 F hi k2 B2 kF=> ?_) (fun H2 zs hl hp2 e k2 B2=> ?_)
   ·exact ⟨_,rfl,r,b,7,_,rfl,B2,by omega,by decide,by decide,fun z H3 z0 z1 B3 k3=>kF z H3 ⟨z0,z1⟩ k3 B3⟩
   ·have sm7:∀c∈zs,0<=c/\c<7:=fun c hc=>by
     obtain ⟨i,hi⟩:=List.getElem?_of_mem hc;exact hp2 i c hi
    exact k D zs H2 (Kp.new kk hD B1.at) e ⟨by omega,fun c hc=>by have:=sm7 c hc;omega⟩ (fun _=>⟨by omega,fun c hc=>by have:=sm7 c hc;omega⟩) (B2.mono (by omega)) (kk.trans k2)
  ·
   refine ⟨_,rfl,r,b,2,n,rfl,B0,by omega,by decide,by decide,fun few H1 f0 f1 B1 k1=> ?_⟩;refine ⟨_,rfl,r,b,9,n+1,rfl,B1,by omega,by decide,by decide,fun z H2 z0 z1 B2 k2=>⟨_,_,rfl,rfl, ?_⟩⟩;refine ⟨_,rfl,_,_,rfl, ?_⟩;have mx:(1:Int)<=(if 8 - z>1 then 8 - z else 1)/\(if 8 - z>1 then 8 - z else 1)<=8:=by split<;>omega
   have mx':(if ((fun i j=>V.int (i - j)) 8 z:V)=(fun i j=>V.int (i - j)) 8 z then (1:Int) else 0)=1:=by simp
   refine ⟨_,_,rfl,rfl,(by show MJ 300 (if 8 - z>1 then 8 - z else 1);exact ⟨by omega,by omega⟩),_,_,rfl,rfl,(by show 2<=sizeLine;decide),fun p hp=> ?_⟩
   have q0:(1:Int)<=300 / (if 8 - z>1 then 8 - z else 1)+1:=by
    have:0<=(300:Int) / (if 8 - z>1 then 8 - z else 1):=Int.ediv_nonneg (by decide) (by omega);omega
   have q1:(300:Int) / (if 8 - z>1 then 8 - z else 1)+1<=301:=by
    have:(300:Int) / (if 8 - z>1 then 8 - z else 1)<=300:=Int.ediv_le_self _ (by decide);omega
   obtain ⟨top,et,t0,t1⟩:∃top:Int,rY [V.int (300 / (if 8 - z>1 then 8 - z else 1)+1),V.int 4] few=some (V.int top)/\0<top/\top<=301:=by
    rcases Tr (u:=V.int (300 / (if 8 - z>1 then 8 - z else 1)+1)) (v:=V.int 4) few f0 f1 with ⟨_,e⟩|⟨_,e⟩
    ·exact ⟨_,e,by omega,by omega⟩
    ·exact ⟨_,e,by decide,by decide⟩
   refine ⟨_,rfl,_,_,_,_,rfl,rfl,aY.of aA,et, ?_⟩;have sm:=aD (o:=HO.lst [V.int (300 / (if 8 - z>1 then 8 - z else 1)+1),V.int 4]) hp;have kk:Kp r H (upd H2 p (HO.lst [V.int (300 / (if 8 - z>1 then 8 - z else 1)+1),V.int 4])):=(k1.trans k2).trans (.of_same sm);have B3:=B2.keep sm;refine ⟨_,rfl,8 - z,rfl,by omega,by omega,fun D hD=> ?_⟩;refine qY (fun _ z=>0<=z/\z<top) hD B3 (by omega) (fun i H2 F hi k2 B2 kF=> ?_) (fun H2 zs hl hp2 e k2 B2=> ?_)
   ·exact ⟨_,rfl,_,rfl,r,b,top,_,rfl,B2,by omega,t0,by omega,fun z H3 z0 z1 B3 k3=>kF z H3 ⟨z0,z1⟩ k3 B3⟩
   ·refine k D zs H2 (Kp.new kk hD B3.at) e ⟨by omega,fun c hc=> ?_⟩ (fun z=>absurd (decide_eq_true (by rw [z])) h0) (B2.mono (by omega)) (kk.trans k2)
    obtain ⟨i,hi⟩:=List.getElem?_of_mem hc;have:=hp2 i c hi;omega
def pos (ls:List Int):List Int:=(List.range ls.length).filterMap fun (i:Nat)=>if gI ls (i:Int)>0 then some (i:Int) else none
theorem vh {ls:List Int} {h:Int} (m:h∈pos ls):0<=h/\h<ls.length/\0<gI ls h:=by
 unfold pos at m;rw [List.mem_filterMap] at m;obtain ⟨i,hi,e⟩:=m;have hi':i<ls.length:=by simpa using hi
 by_cases q:gI ls i>0
 ·rw [if_pos q] at e
  cases e;exact ⟨by omega,by omega,q⟩
 ·rw [if_neg q] at e
  cases e
theorem KZ {ls:List Int} {h:Int} (h0:0<=h) (h1:h<ls.length) (q:0<gI ls h):h∈pos ls:=by
 unfold pos;rw [List.mem_filterMap];refine ⟨h.toNat,by simp;omega, ?_⟩;have e:((h.toNat:Nat):Int)=h:=by omega
 rw [e,if_pos q]
theorem u6 (ls:List Int):(pos ls).length<=ls.length:=oh _ _
theorem tU (ls:List Int):(pos ls).Nodup:=by
 unfold pos;refine List.Pairwise.filterMap (R:=fun a b=>a≠b) _ ?_ List.nodup_range;intro a b n c ec d ed
 by_cases q:gI ls a>0
 ·by_cases q2:gI ls b>0
  ·rw [if_pos q] at ec
   rw [if_pos q2] at ed;cases ec;cases ed;intro z;exact n (by omega)
  ·rw [if_neg q2] at ed
   cases ed
 ·rw [if_neg q] at ec
  cases ec
theorem u5 (ls:List Int):(List.range ls.length).filterMap (fun (i:Nat)=>if gI ls (i:Int)>0 then some (V.int (0+(i:Int))) else none)=(pos ls).map V.int:=by
 unfold pos;rw [List.map_filterMap];refine kj _ trivial fun i _=> ?_
 by_cases q:gI ls (i:Int)>0
 ·rw [if_pos q,if_pos q];simp
 ·rw [if_neg q,if_neg q];rfl
theorem Bd:∀{ls:List Int},0<ls.sum -> ∃i:Nat,i<ls.length/\0<gI ls i
 | [],h=>by simp at h
 | x::ls,h=>by
   by_cases q:0<x
   ·exact ⟨0,by simp,by simpa [gI] using q⟩
   ·rw [List.sum_cons] at h
    obtain ⟨i,hi,e⟩:=Bd (ls:=ls) (by omega);exact ⟨i+1,by simp [hi],by simpa [gI] using e⟩
theorem sum_set:∀{ls:List Int} {i:Nat} {x:Int},ls[i]? = some x -> ∀y,(ls.set i y).sum=ls.sum - x+y
 | [],i,x,h,y=>by cases h
 | z::ls,0,x,h,y=>by
   cases h;simp only [List.set_cons_zero,List.sum_cons];omega
 | z::ls,i+1,x,h,y=>by
   simp only [List.set_cons_succ,List.sum_cons];rw [sum_set (ls:=ls) (i:=i) (x:=x) (by simpa using h) y];omega
theorem zq:∀{ls:List Int},(∀c∈ls,0<=c/\c<=300)->0<=ls.sum/\ls.sum<=300*ls.length
 | [],_=>by simp
 | x::ls,h=>by
   have a:=h x (by simp);have b:=zq (ls:=ls) fun c hc=>h c (by simp [hc]);rw [List.sum_cons,List.length_cons];omega
def NQ (cs os:List Int):Prop:=os.length<=2400 /\ ∀h:Int,0<=h->h<cs.length->(os.count h:Int)=gI cs h
def uU (K:PySem.W.Frag):Sp:=fun vs H Q _=>∃(r b:Addr) (n:Nat) (a:Addr) (cs:List Int),vs=[.ref r,.ref a]/\bD H r b n/\n<274877906944/\H a=some (.lst (cs.map V.int))/\a≠r/\yQ cs /\ ∀(o:Addr) (os:List Int) (H':Hp),H o=none->H' o=some (.lst (os.map V.int))->NQ cs os->(∀h∈os,0<=h/\h<cs.length)->bD H' r b (n+2400)->Kp r H H'->Q (.ref o) H'
theorem HS {f:Addr} {fd:FuncData} (F:jX K "_law_order" "_law_order" fO f fd) (bC:FnAt P w K mg base 2 "_law_draw" ["bag","many"] (j4 K)) (Bt:o7 mg):cT P w K mg base jV 3 f fd ["bag","counts"] (uU K):=by
 refine F.ok jf (fun vs H Q E h=> ?_) (fun cdv A outer s H vs Q E hr h=> ?_)
 ·obtain ⟨r,b,n,a,cs,rfl,_⟩:=h
  rfl
 ·obtain ⟨r,b,n,a,cs,rfl,B0,hn,ha,Gd,ok,k⟩:=h
  refine ⟨_,(au (aU (i:=2) jf.nd rfl (Or.inr rfl) (eG (dF (K:=K) rfl) (by rfl) Bt.kO iR (aj (pv 1) ak)))
   (au (aU (i:=3) jf.nd rfl (Or.inl rfl) (cY ak))
   (au (gM PassesOwn.never rfl (cg (by rfl) Bt.dJ (aj (aN (uF (K:=K) rfl rfl) (by rfl) Bt.Ny Jy (aj (pv 1) ak)) ak)) (bf (i:=4) jf.nd rfl (Or.inl rfl))
   (au (jF (i:=5) rfl jf.nd rfl (Or.inl rfl) (N:=["hand","left"]) (own:=["hand"]) (caps:=[2]) (aR.of (by kernel_rfl)) (cg (by rfl) Bt.dJ (aj (aN (aH (K:=K) rfl) (by rfl) Bt.cj bH (aj (pv 2) ak)) ak)) (fun _ _ _ _=>(bf (i:=0) (show List.Nodup (["hand","left"]:List Str) by decide +kernel) rfl (Or.inl rfl))) (fun _ _ _ _=>(jE (aX qx (aL (aJ (K:=K) rfl) (pv 1) (pv 0) (fun _ _=>rfl)) ao (aV _)))) (fun _ _ _ _=>(pv 0)))
   (au (dI (gB (K:=K) rfl (pv 3) (aj (aL (aJ (K:=K) rfl) (pv 5) (aZ bC (hr.mono (by decide)) (by rfl) (aj (pv 0) (aj (aN (aH (K:=K) rfl) (by rfl) Bt.cj bH (aj (pv 5) ak)) ak))) (fun _ _=>rfl)) ak)))
   (aF (lY (bx nT (aL (aJ (K:=K) rfl) (pv 2) (aL (aJ (K:=K) rfl) (pv 3) (Ht yX ao) (fun _ _=>rfl)) (fun _ _=>rfl)) ao) (nR (pv 2) (aL (aJ (K:=K) rfl) (pv 3) (Ht yX ao) (fun _ _=>rfl)) set_list))))))
   (aF (aW (pv 3)))))), ?_⟩
  refine ⟨_,rfl,a,_,rfl,.inl (aY.of ha),fun l hl=> ?_⟩;have Ko:=aD (o:=HO.lst (cs.map V.int)) hl;refine ⟨(by show 0<=sizeLine;decide),fun p hp=> ?_⟩;have M5:=aD (o:=HO.lst []) hp;have nlp:l≠p:=aC aA hp;have hp0:H p=none:=Ko.free hp;have nl:=B0.ne hl;have np:=B0.ne hp0;have hsum:=zq ok.2;have agO:=ok.1;refine ⟨_,rfl,a,cs,rfl,aY.of (M5 _ _ (Ko _ _ ha)),cs.sum,rfl,by omega,by omega, ?_⟩
  refine gC (lo:=0) (n:=cs.sum.toNat) (fun i σ H2=>∃(ls os:List Int) (x y:Option V),σ=[some (.ref r),some (.ref a),some (.ref l),some (.ref p),x,y]/\H2 l=some (.lst (ls.map V.int))/\H2 p=some (.lst (os.map V.int)) /\
   ls.length=cs.length/\(∀h:Int,0<=h->0<=gI ls h/\gI ls h+(os.count h:Int)=(if h<cs.length then gI cs h else 0))/\ls.sum+i=cs.sum/\os.length=i/\(∀h∈os,0<=h/\h<(cs.length:Int))/\bD H2 r b (n+i)/\Kp r H H2)
   ⟨cs,[],none,none,rfl,M5 _ _ aA,aA,rfl,fun h h0=>⟨(ok.gI h).1, ?_⟩,by simp,rfl,(fun h hh=>by cases hh),(B0.keep Ko).keep M5,.of_same (Ko.trans M5)⟩ ?_ ?_
  ·by_cases q:h<cs.length
   ·rw [if_pos q];simp
   ·rw [if_neg q]
    have:cs[h.toNat]? = none:=by simp;omega
    simp [gI,this]
  ·rintro i σ H2 hi ⟨ls,os,x,y,rfl,hL,hP,ll,hgi,hs,ol,YF,B2,k2⟩
   have spos:0<ls.sum:=by omega
   refine ⟨_,rfl,l,_,rfl,.inl (aY.of hL),_,rfl,by rw [List.length_map];omega,by rw [List.length_map];omega,fun D hD=> ?_⟩;have Em:(((ls.map V.int).length:Nat):Int).toNat=ls.length:=by simp
   rw [Em];refine jh (fun (i:Nat)=>if gI ls (i:Int)>0 then some (V.int (0+(i:Int))) else none) hD (by omega) (fun j H3 G F hj s3 kG kF=> ?_) (fun H3 s3 e3=> ?_)
   ·refine ⟨_,rfl,_,rfl,_,_,_,_,rfl,rfl,aY.of (s3 _ _ hL),(dX (h:=0+(j:Int)) (by omega) (by omega)),_,_,rfl,rfl,_,rfl, ?_⟩
    have ej:(0+(j:Int))=(j:Int):=by omega
    rw [ej];refine dG (fun q=> ?_) (fun q=> ?_)
    ·have q:=of_decide_eq_true q
     refine ⟨_,rfl,kF _ H3 (Same.refl _) ?_⟩;rw [if_pos q,ej]
    ·have q:¬gI ls (j:Int)>0:=fun z=>q (decide_eq_true z)
     exact kG H3 (Same.refl _) (if_neg q)
   ·rw [u5] at e3
    have B3:=B2.keep s3;have hL3:=s3 _ _ hL;have hP3:=s3 _ _ hP;have nD:D≠r:=(B2.ne hD).1;obtain ⟨i0,hi0,gp⟩:=Bd spos;have aeK:0<(pos ls).length:=List.length_pos_of_mem (KZ (h:=(i0:Int)) (by omega) (by omega) gp);have ac2:=u6 ls;refine ⟨_,rfl,.inl ⟨rfl,_,aY.of hP3⟩,_,rfl,_,rfl,_,rfl,D,_,rfl,.inl (aY.of e3),r,b,_,_,rfl,B3,by omega,by rw [List.length_map];omega,by rw [List.length_map];omega,fun z H4 z0 z1 B4 k4=> ?_⟩;rw [List.length_map] at z1;obtain ⟨h,eh⟩:∃h,(pos ls)[z.toNat]? = some h:=⟨(pos ls)[z.toNat]'(by omega),by simp⟩;have hm:=vh (List.mem_of_getElem? eh)
    have ez:rY ((pos ls).map V.int) z=some (.int h):=by
     obtain ⟨m,rfl⟩:=Int.eq_ofNat_of_zero_le z0;refine fD ?_;have eh':(pos ls)[m]? = some h:=eh;rw [List.getElem?_map,eh'];rfl
    have hP4:=k4 _ _ hP3 np.1;have hL4:=k4 _ _ hL3 nl.1;refine ⟨_,_,_,_,rfl,rfl,aY.of (k4 _ _ e3 nD),ez,p,_,_,rfl,rfl,hP4,(by rw [List.length_map,sizeLine_eq];omega), ?_⟩;have kp5:Kp p H4 (upd H4 p (.lst (os.map V.int++[V.int h]))):=Kp.set;have hL5:=kp5 _ _ hL4 nlp;have hP5:(upd H4 p (.lst (os.map V.int++[V.int h]))) p=some (.lst (os.map V.int++[V.int h])):=aA;refine ⟨_,rfl,_,rfl,_,rfl,_,_,_,_,rfl,rfl,aY.of hP5,rH _ _,_,_,_,_,rfl,rfl,aY.of hL5,dX hm.1 hm.2.1,_,_,rfl,rfl,_,rfl,_,rfl,_,rfl,_,_,_,_,rfl,rfl,aY.of hP5,rH _ _,_,_,_,_,rfl,rfl,hL5,vG hm.1 (by rw [List.length_map];exact hm.2.1), ?_⟩;have kl6:Kp l (upd H4 p (.lst (os.map V.int++[V.int h]))) (upd (upd H4 p (.lst (os.map V.int++[V.int h]))) l (.lst ((ls.map V.int).set h.toNat (V.int (gI ls h - 1))))):=Kp.set
    refine ⟨ls.set h.toNat (gI ls h - 1),os++[h],_,_,rfl, ?_, ?_,by simp [ll],fun h' h0'=> ?_, ?_,by simp [ol],(fun z hz=>by
     rcases List.mem_append.mp hz with hz|hz
     ·exact YF z hz
     ·have:z=h:=by simpa using hz
      subst this;exact ⟨hm.1,by rw [←ll];exact hm.2.1⟩), ?_, ?_⟩
    ·show (upd (upd H4 p (.lst (os.map V.int++[V.int h]))) l (.lst ((ls.map V.int).set h.toNat (V.int (gI ls h - 1))))) l=_
     rw [aA,List.map_set]
    ·refine (kl6 _ _ hP5 nlp.symm).trans ?_
     simp
    ·have q:=hgi h' h0'
     have hc:((os++[h]).count h':Int)=os.count h'+(if h'=h then 1 else 0):=by
      rw [List.count_append]
      by_cases e:h'=h
      ·subst e;simp
      ·have:¬h=h':=fun z=>e z.symm
       simp [e,this]
     rw [vO hm.1 (by omega) h0',hc]
     by_cases e:h'=h
     ·subst e
      rw [if_pos rfl,if_pos rfl];have:=hm.2.2;omega
     ·rw [if_neg e,if_neg e]
      omega
    ·have e:ls[h.toNat]? = some (gI ls h):=by
      have:h.toNat<ls.length:=by omega
      simp [gI,this]
     rw [sum_set e];omega
    ·exact ((B4.kp kp5 np.1.symm np.2.symm).kp kl6 nl.1.symm nl.2.symm).mono (by omega)
    ·intro c u ec nc
     have n1:c≠p:=aC ec hp0;have n2:c≠l:=aC ec hl;exact kl6 _ _ (kp5 _ _ (k4 _ _ (s3 _ _ (k2 _ _ ec nc)) nc) n1) n2
  ·rintro σ H2 ⟨ls,os,x,y,rfl,hL,hP,ll,hgi,hs,ol,YF,B2,k2⟩
   refine ⟨_,rfl,k p os H2 hp0 hP ⟨by omega,fun h h0 h1=> ?_⟩ YF (B2.mono (by omega)) k2⟩;have q:=hgi h h0;rw [if_pos h1] at q
   have z:gI ls h=0:=by
    have nn:∀h:Int,0<=h->0<=gI ls h:=fun h h0=>(hgi h h0).1;have s0:ls.sum=0:=by omega
    by_cases e:0<gI ls h
    ·exfalso
     have:∀(ms:List Int),(∀c∈ms,0<=c) -> ∀c∈ms,c<=ms.sum:=by
      intro ms
      induction ms with
      | nil=>intro _ c hc;cases hc
      | cons m ms ih=>
        intro hm c hc;have m0:=hm m (by simp)
        have ms0:0<=ms.sum:=by
         clear ih hc
         induction ms with
         | nil=>simp
         | cons y ys ih2=>
           have:=hm y (by simp);have:=ih2 (fun c hc=>hm c (by simp at hc ⊢;rcases hc with z|z;exact .inl z;exact .inr (.inr z)));rw [List.sum_cons];omega
        rw [List.sum_cons];rcases List.mem_cons.mp hc with rfl|hc
        ·omega
        ·have:=ih (fun c hc=>hm c (by simp [hc])) c hc
         omega
     have hle:h.toNat<ls.length:=by omega
     have mem:gI ls h∈ls:=by
      have e:ls[h.toNat]? = some (gI ls h):=by simp [gI,hle]
      exact List.mem_of_getElem? e
     have:=this ls (fun c hc=>by
      obtain ⟨i,hi⟩:=List.getElem?_of_mem hc;have:=nn (i:Int) (by omega);rw [fX hi] at this;exact this) _ mem
     omega
    ·have:=nn h h0
     omega
   omega
def Am (kvs:List (List Key×V)) (os:List Int):Prop:=∀(h:Int) (k:Nat),k<os.count h -> ∃p:Nat,bW kvs [Sum.inl h,Sum.inl (k:Int)]=some (.int p)/\os[p]? = some h/\(os.take p).count h=k
def o8 (K:PySem.W.Frag):Sp:=fun vs H Q _=>∃(a:Addr) (os:List Int),vs=[.ref a]/\H a=some (.lst (os.map V.int))/\os.length<=2400 /\ ∀(d:Addr) (kvs:List (List Key×V)) (H':Hp),H d=none->H' d=some (.dT kvs)->Am kvs os->Same H H'->Q (.ref d) H'
theorem HJ {f:Addr} {fd:FuncData} (F:jX K "_law_spots" "_law_spots" fM f fd) (Bt:o7 mg):cT P w K mg base jV 1 f fd ["order"] (o8 K):=by
 refine F.ok lu (fun vs H Q E h=> ?_) (fun cdv A outer s H vs Q E hr h=> ?_)
 ·obtain ⟨a,os,rfl,_⟩:=h
  rfl
 ·obtain ⟨a,os,rfl,ha,hlen,k⟩:=h
  have hu:=lR hr
  refine ⟨_,(au (aU (i:=1) lu.nd rfl (Or.inl rfl) wW)
   (au (aU (i:=2) lu.nd rfl (Or.inl rfl) wX)
   (au (gM PassesOwn.never rfl (cg (by rfl) Bt.dJ (aj (aN (aH (K:=K) rfl) (by rfl) Bt.cj bH (aj (pv 0) ak)) ak)) (bf (i:=3) lu.nd rfl (Or.inl rfl))
   (au (o_ hu (pv 2) (aL (aJ (K:=K) rfl) (pv 0) (pv 3) (fun _ _=>rfl)) (bx cF (wY hu (pv 2) (aL (aJ (K:=K) rfl) (pv 0) (pv 3) (fun _ _=>rfl)) ao ⟨rfl,rfl,rfl,rfl⟩) ao) rfl)
   (aF (o_ hu (pv 1) (jG (aj (aL (aJ (K:=K) rfl) (pv 0) (pv 3) (fun _ _=>rfl)) (aj (bx nT (iJ hu (pv 2) (aL (aJ (K:=K) rfl) (pv 0) (pv 3) (fun _ _=>rfl)) (fun _ _=>rfl)) ao) ak))) (pv 3) rfl))))
   (aF (aW (pv 1)))))), ?_⟩
  intro d hd;have Ko:=aD (o:=HO.dT []) hd;intro m hm;have M5:=aD (o:=HO.dK []) hm;have ndm:d≠m:=aC aA hm;have hm0:H m=none:=Ko.free hm;have ha2:=M5 _ _ (Ko _ _ ha);refine ⟨_,rfl,a,_,rfl,.inl (aY.of ha2),_,rfl,by rw [List.length_map];omega,by rw [List.length_map];omega, ?_⟩;have Em:(((os.map V.int).length:Nat):Int).toNat=os.length:=by simp
  rw [Em]
  refine gC (lo:=0) (n:=os.length) (fun i σ H2=>∃(fk:List (List Key×V)) (mk:List (Key×V)) (x:Option V),σ=[some (.ref a),some (.ref d),some (.ref m),x]/\Same H H2/\H2 d=some (.dT fk)/\H2 m=some (.dK mk) /\
   fk.length<=i/\mk.length<=i/\(∀h:Int,(bW mk (Sum.inl h)).getD (.int 0) = .int ((os.take i).count h))/\Am fk (os.take i))
   ⟨[],[],none,rfl,Ko.trans M5,M5 _ _ aA,aA,Nat.zero_le _,Nat.zero_le _,fun h=>by simp [bW],fun h k hk=>by simp at hk⟩ ?_ ?_
  ·rintro i σ H2 hi ⟨fk,mk,x,rfl,sm,hD,hM,fl,ml,hv,hS⟩
   have Wq:=sm _ _ ha;obtain ⟨y,ey⟩:∃y,os[i]? = some y:=⟨os[i],by simp [hi]⟩;have tk:os.take (i+1)=os.take i++[y]:=by rw [List.take_add_one,ey];rfl
   have ei:(0+(i:Int))=(i:Int):=by omega
   have at_:∀(xs:List V),xs=os.map V.int->rY xs (0+(i:Int))=some (.int y):=by
    rintro xs rfl;rw [ei];refine fD ?_;rw [List.getElem?_map,ey];rfl
   refine ⟨_,rfl,m,rfl,.inl ⟨_,.inl hM⟩,_,rfl,_,rfl,_,_,_,_,rfl,rfl,aY.of Wq,at_ _ rfl,_,gK.k (k:=Sum.inl y) hM, ?_⟩;rw [hv y];refine ⟨_,_,rfl,rfl,_,rfl,_,rfl,_,rfl,_,_,_,_,rfl,rfl,aY.of Wq,at_ _ rfl,m,_,rfl,rQ.k (k:=Sum.inl y) hM (by rw [sizeLine_eq];omega), ?_⟩;have k1:Kp m H2 (upd H2 m (.dK (putK mk (Sum.inl y) (V.int (((os.take i).count y:Nat)+1))))):=Kp.set;have ha1:=k1 _ _ Wq (lO Wq hM (by intro z;cases z));have hD1:=k1 _ _ hD ndm;have hM1:(upd H2 m (.dK (putK mk (Sum.inl y) (V.int (((os.take i).count y:Nat)+1))))) m=some (.dK (putK mk (Sum.inl y) (V.int (((os.take i).count y:Nat)+1)))):=aA;have gv:bW (putK mk (Sum.inl y) (V.int (((os.take i).count y:Nat)+1))) (Sum.inl y)=some (V.int (((os.take i).count y:Nat)+1)):=by rw [jc,if_pos rfl]
   refine ⟨_,rfl,_,rfl,_,rfl,_,rfl,_,_,_,_,rfl,rfl,aY.of ha1,at_ _ rfl,_,rfl,_,rfl,_,rfl,_,_,_,_,rfl,rfl,aY.of ha1,at_ _ rfl,m,_,rfl,gv▸gK.k (k:=Sum.inl y) hM1,_,_,rfl,rfl,(by show 2<=sizeLine;decide),fun t ht=> ?_⟩;have st:=aD (o:=HO.tup [V.int y,V.int ((((os.take i).count y:Nat):Int)+1 - 1)]) ht;refine ⟨d,_,rfl,rQ.t (k:=[Sum.inl y,Sum.inl ((((os.take i).count y:Nat):Int)+1 - 1)]) (st _ _ hD1) aA (by rw [sizeLine_eq];omega), ?_⟩;have ec:(((os.take i).count y:Nat):Int)+1 - 1=((os.take i).count y:Nat):=by omega
   refine ⟨_,putK mk (Sum.inl y) (V.int (((os.take i).count y:Nat)+1)),_,rfl, ?_,aA, ?_, ?_, ?_,fun h=> ?_,fun h j hj=> ?_⟩
   ·intro c u e
    have n1:c≠d:=aC e hd;have n2:c≠m:=aC e hm0;rw [bA n1];exact st _ _ (k1 _ _ (sm _ _ e) n2)
   ·rw [bA ndm.symm]
    exact st _ _ hM1
   ·exact Nat.le_trans (dW ..) (by omega)
   ·exact Nat.le_trans (dW ..) (by omega)
   ·rw [jc,tk,List.count_append]
    by_cases e:h=y
    ·subst e
     rw [if_pos rfl];simp
    ·rw [if_neg (fun z=>e (Sum.inl.inj z)),hv h]
     have:¬y=h:=fun z=>e z.symm;simp [this]
   ·rw [jc]
    by_cases e:([Sum.inl h,Sum.inl (j:Int)]:List Key)=[Sum.inl y,Sum.inl ((((os.take i).count y:Nat):Int)+1 - 1)]
    ·rw [if_pos e]
     injection e with z1 z2
     injection z2 with z2 _
     have eh:h=y:=Sum.inl.inj z1;have ej:(j:Int)=(((os.take i).count y:Nat):Int)+1 - 1:=Sum.inl.inj z2;subst eh;have tl:(os.take i).length=i:=by rw [List.length_take];omega
     refine ⟨i,by rw [ei], ?_, ?_⟩
     ·rw [tk,List.getElem?_append_right (by omega),tl];simp
     ·rw [tk,List.take_append_of_le_length (by omega),List.take_take,Nat.min_self];omega
    ·rw [if_neg e]
     have hj':j<(os.take i).count h:=by
      rw [tk,List.count_append] at hj
      by_cases ehy:h=y
      ·subst ehy
       simp at hj;have:j≠(os.take i).count h:=fun z=>e (by rw [z,ec]);omega
      ·have:¬y=h:=fun z=>ehy z.symm
       simpa [this] using hj
     obtain ⟨p,e1,e2,e3⟩:=hS h j hj';have pl:p<(os.take i).length:=(List.getElem?_eq_some_iff.mp e2).1;exact ⟨p,e1,by rw [tk,List.getElem?_append_left pl];exact e2,by rw [tk,List.take_append_of_le_length (by omega)];exact e3⟩
  ·rintro σ H2 ⟨fk,mk,x,rfl,sm,hD,hM,fl,ml,hv,hS⟩
   rw [List.take_length] at hS;exact ⟨_,rfl,k d fk H2 hd hD hS sm⟩
def zF (K:PySem.W.Frag):Sp:=fun vs H Q _=>∃(r b:Addr) (n:Nat) (a:Addr) (cs:List Int),vs=[.ref r,.ref a]/\bD H r b n/\n<549755813888/\H a=some (.lst (cs.map V.int))/\a≠r/\yQ cs /\
 (∀H',(pos cs).length<2->bD H' r b (n+4)->Kp r H H'->Q .non H') /\ ∀(t:Addr) (x:Nt) (H':Hp),H t=none->H' t=some (.tup (nV x))->v9 cs x->bD H' r b (n+4)->Kp r H H'->Q (.ref t) H'
theorem pos_at {ls:List Int} {z:Int} (z0:0<=z) (z1:z<(pos ls).length):∃h,(pos ls)[z.toNat]? = some h/\rY ((pos ls).map V.int) z=some (.int h)/\0<=h/\h<ls.length/\0<gI ls h:=by
 obtain ⟨m,rfl⟩:=Int.eq_ofNat_of_zero_le z0;have hm:m<(pos ls).length:=by omega
 have e:(pos ls)[m]? = some (pos ls)[m]:=by simp [hm]
 refine ⟨(pos ls)[m],e,fD ?_,vh (List.mem_of_getElem? e)⟩;rw [List.getElem?_map,e];rfl
theorem Lb {f:Addr} {fd:FuncData} (F:jX K "_law_note" "_law_note" g8 f fd) (bC:FnAt P w K mg base 2 "_law_draw" ["bag","many"] (j4 K)) (Bt:o7 mg):cT P w K mg base jV 3 f fd ["bag","counts"] (zF K):=by
 refine F.ok mR (fun vs H Q E h=> ?_) (fun cdv A outer s H vs Q E hr h=> ?_)
 ·obtain ⟨r,b,n,a,cs,rfl,_⟩:=h
  rfl
 ·obtain ⟨r,b,n,a,cs,rfl,B0,hn,ha,Gd,ok,kN,k⟩:=h
  refine ⟨_,(au (jF (i:=2) rfl mR.nd rfl (Or.inl rfl) (N:=["hand","counts"]) (own:=["hand"]) (caps:=[1]) (aR.of (by kernel_rfl)) (cg (by rfl) Bt.dJ (aj (aN (aH (K:=K) rfl) (by rfl) Bt.cj bH (aj (pv 1) ak)) ak)) (fun _ _ _ _=>(bf (i:=0) (show List.Nodup (["hand","counts"]:List Str) by decide +kernel) rfl (Or.inl rfl))) (fun _ _ _ _=>(jE (aX qx (aL (aJ (K:=K) rfl) (pv 1) (pv 0) (fun _ _=>rfl)) ao (aV _)))) (fun _ _ _ _=>(pv 0)))
   (au (b_ (aX j9 (aN (aH (K:=K) rfl) (by rfl) Bt.cj bH (aj (pv 2) ak)) ao (aV _)) (aF (aW gO)) bh)
   (au (aU (i:=3) mR.nd rfl (Or.inl rfl) (aZ bC (hr.mono (by decide)) (by rfl) (aj (pv 0) (aj (aN (aH (K:=K) rfl) (by rfl) Bt.cj bH (aj (pv 2) ak)) ak))))
   (au (aU (i:=4) mR.nd rfl (Or.inl rfl) (bx gP (bx cF (bx cF (pv 3) ao) (aZ bC (hr.mono (by decide)) (by rfl) (aj (pv 0) (aj (bx nT (aN (aH (K:=K) rfl) (by rfl) Bt.cj bH (aj (pv 2) ak)) ao) ak)))) (aN (aH (K:=K) rfl) (by rfl) Bt.cj bH (aj (pv 2) ak))))
   (aF (aW (jG (aj (aL (aJ (K:=K) rfl) (pv 2) (pv 3) (fun _ _=>rfl)) (aj (aZ bC (hr.mono (by decide)) (by rfl) (aj (pv 0) (aj (aL (aJ (K:=K) rfl) (pv 1) (aL (aJ (K:=K) rfl) (pv 2) (pv 3) (fun _ _=>rfl)) (fun _ _=>rfl)) ak))) (aj (aL (aJ (K:=K) rfl) (pv 2) (pv 4) (fun _ _=>rfl)) (aj (aZ bC (hr.mono (by decide)) (by rfl) (aj (pv 0) (aj (aL (aJ (K:=K) rfl) (pv 1) (aL (aJ (K:=K) rfl) (pv 2) (pv 4) (fun _ _=>rfl)) (fun _ _=>rfl)) ak))) ak))))))))))), ?_⟩
  have c8:=ok.1;refine ⟨_,rfl,a,_,rfl,.inl (aY.of ha),_,rfl,by rw [List.length_map];omega,by rw [List.length_map];omega,fun D hD=> ?_⟩;have Em:(((cs.map V.int).length:Nat):Int).toNat=cs.length:=by simp
  rw [Em];refine jh (fun (i:Nat)=>if gI cs (i:Int)>0 then some (V.int (0+(i:Int))) else none) hD (by omega) (fun j H3 G F hj s3 kG kF=> ?_) (fun H3 s3 e3=> ?_)
  ·refine ⟨_,rfl,_,rfl,_,_,_,_,rfl,rfl,aY.of (s3 _ _ ha),(dX (h:=0+(j:Int)) (by omega) (by omega)),_,_,rfl,rfl,_,rfl, ?_⟩
   have ej:(0+(j:Int))=(j:Int):=by omega
   rw [ej];refine dG (fun q=> ?_) (fun q=> ?_)
   ·have q:=of_decide_eq_true q
    refine ⟨_,rfl,kF _ H3 (Same.refl _) ?_⟩;rw [if_pos q,ej]
   ·have q:¬gI cs (j:Int)>0:=fun z=>q (decide_eq_true z)
    exact kG H3 (Same.refl _) (if_neg q)
  ·rw [u5] at e3
   have B3:=B0.keep s3;have nD:D≠r:=(B0.ne hD).1;have p8:=u6 cs;have k3:Kp r H H3:= .of_same s3;refine ⟨_,rfl,D,_,rfl,.inl (aY.of e3),_,_,rfl,rfl,_,rfl, ?_⟩;refine dG (fun q=> ?_) (fun q=> ?_)
   ·exact kN H3 (by have:=of_decide_eq_true q;rw [List.length_map] at this;omega) (B3.mono (by omega)) k3
   ·have hp2:2<=(pos cs).length:=by
     have:¬(((pos cs).map V.int).length:Int)<2:=fun z=>q (decide_eq_true z);rw [List.length_map] at this;omega
    refine ⟨_,rfl,_,rfl,D,_,rfl,.inl (aY.of e3),r,b,_,n,rfl,B3,by omega,by rw [List.length_map];omega,by rw [List.length_map];omega,fun i H4 i0 i1 B4 k4=> ?_⟩;rw [List.length_map] at i1;have e4:=k4 _ _ e3 nD;refine ⟨_,rfl,_,_,rfl,rfl,_,rfl,_,rfl,D,_,rfl,.inl (aY.of e4),_,_,rfl,rfl,r,b,_,n+1,rfl,B4,by omega,by show (0:Int)<(((pos cs).map V.int).length:Int) - 1;rw [List.length_map];omega,by show (((pos cs).map V.int).length:Int) - 1<_;rw [List.length_map];omega,fun z H5 z0 z1 B5 k5=> ?_⟩;have z1':z<((pos cs).length:Int) - 1:=by rw [←List.length_map (f:=V.int)];exact z1
    have e5:=k5 _ _ e4 nD;refine ⟨_,_,rfl,rfl,_,rfl,D,_,rfl,.inl (aY.of e5),_,_,rfl,rfl,by rw [List.length_map];omega, ?_⟩;have j0:0<=(i+1+z) % ((pos cs).length:Int):=Int.emod_nonneg _ (by omega);have j1:(i+1+z) % ((pos cs).length:Int)<(pos cs).length:=Int.emod_lt_of_pos _ (by omega)
    have nij:i≠(i+1+z) % ((pos cs).length:Int):=by
     by_cases w:i+1+z<(pos cs).length
     ·rw [Int.emod_eq_of_lt (by omega) w];omega
     ·have:(i+1+z) % ((pos cs).length:Int)=i+1+z - (pos cs).length:=by
       rw [←Int.sub_emod_right,Int.emod_eq_of_lt (by omega) (by omega)]
      omega
    have ej:(fun (i:Int) (j:Int)=>V.int (i % j)) (i+1+z) (((pos cs).map V.int).length:Int)=V.int ((i+1+z) % ((pos cs).length:Int)):=by show V.int _=_;rw [List.length_map]
    generalize (i+1+z) % ((pos cs).length:Int)=j at j0 j1 nij ej;obtain ⟨hi,ehi,ati,hi0,hi1,hi2⟩:=pos_at i0 i1;obtain ⟨hj,ehj,atj,hj0,hj1,hj2⟩:=pos_at j0 j1
    have nh:hi≠hj:=fun z=>by
     have nd:=List.pairwise_iff_getElem.mp (tU cs);subst z;obtain ⟨a1,a2⟩:=List.getElem?_eq_some_iff.mp ehi;obtain ⟨b1,b2⟩:=List.getElem?_eq_some_iff.mp ehj;rcases Int.lt_or_gt_of_ne nij with w|w
     ·exact nd _ _ a1 b1 (by omega) (a2.trans b2.symm)
     ·exact nd _ _ b1 a1 (by omega) (b2.trans a2.symm)
    have ha5:=k5 _ _ (k4 _ _ (s3 _ _ ha) Gd) Gd;have ghi:=ok.gI hi;have ghj:=ok.gI hj;refine ⟨_,rfl,_,rfl,_,_,_,_,rfl,rfl,aY.of e5,ati,_,rfl,_,rfl,_,rfl,_,rfl,_,_,_,_,rfl,rfl,aY.of e5,ati,_,_,_,_,rfl,rfl,aY.of ha5,dX hi0 hi1,r,b,_,_,rfl,B5,by omega,hi2,by omega,fun u H6 u0 u1 B6 k6=> ?_⟩;have e6:=k6 _ _ e5 nD;have ha6:=k6 _ _ ha5 Gd;refine ⟨_,rfl,_,rfl,_,_,_,_,rfl,ej,aY.of e6,atj,_,rfl,_,rfl,_,rfl,_,rfl,_,_,_,_,rfl,ej,aY.of e6,atj,_,_,_,_,rfl,rfl,aY.of ha6,dX hj0 hj1,r,b,_,_,rfl,B6,by omega,hj2,by omega,fun v H7 v0 v1 B7 k7=> ?_⟩;refine ⟨(by show 4<=sizeLine;decide),fun t ht=> ?_⟩;have st:=aD (o:=HO.tup [V.int hi,V.int u,V.int hj,V.int v]) ht;have kk:Kp r H H7:=(((k3.trans k4).trans k5).trans k6).trans k7;exact k t (hi,u,hj,v) _ (Kp.new kk ht B7.at) aA ⟨⟨hi0,hi1⟩,⟨u0,u1⟩,⟨hj0,hj1⟩,⟨v0,v1⟩,nh⟩ (B7.keep st) (kk.trans (.of_same st))
theorem kE (x y:Nt):PyData.eqv (nD x) (nD y)=decide (x=y):=by
 obtain ⟨a,b,c,d⟩:=x;obtain ⟨a',b',c',d'⟩:=y;simp only [nD,PyData.eqv,PyData.eqvAll,Bool.and_true]
 by_cases e1:a=a'
 ·subst e1
  by_cases e2:b=b'
  ·subst e2
   by_cases e3:c=c'
   ·subst e3
    by_cases e4:d=d'
    ·subst e4;simp
    ·simp [e4]
   ·simp [e3]
  ·simp [e2]
 ·simp [e1]
theorem cD (ns:List Nt):SeqAt.shaped (.list (ns.map nD))=true:=
 oN nD 1 (by decide) (fun _ _=>rfl) (fun _ _=>by show (max 0 (max 0 (max 0 (max 0 0))))+1<=1;decide)
def RecAt (H:Hp) (t c a:Addr) (cs:List Int) (ns:List Nt):Prop:=H t=some (.tup [.ref c,.ref a])/\H c=some (.lst (cs.map V.int))/\bQ H a ns
theorem RecAt.same {H H':Hp} {t c a:Addr} {cs:List Int} {ns:List Nt} (h:RecAt H t c a cs ns) (k:Same H H'):RecAt H' t c a cs ns:=⟨k _ _ h.1,k _ _ h.2.1,h.2.2.same k⟩
def fH (cs:List Int) (ns:List Nt):Prop:=yQ cs/\ns.length<=100 /\ ∀x∈ns,v9 cs x
def nJ (K:PySem.W.Frag):Sp:=fun vs H Q _=>∃(r b:Addr) (n:Nat) (g:Int),vs=[.ref r,.int g]/\(g=0\/g=1)/\bD H r b n/\n<137438953472 /\ ∀(t c a:Addr) (cs:List Int) (ns:List Nt) (H':Hp),H t=none->H c=none->H a=none->RecAt H' t c a cs ns->fH cs ns->(g=0->Vw cs)->bD H' r b (n+4000)->Kp r H H'->c≠a->ns.length<=60->Q (.ref t) H'
theorem CP (a b c d:V):iH [a,b,c,d] none (some 2)=[a,b]:=yw _ 2
theorem Jr (a b c d:V):iH [a,b,c,d] (some 2) none=[c,d]:=qW _ 2
theorem qw {α:Type} (xs:List α) (h:xs.length=4):¬(HT.gb xs.length 0 none=0/\HT.gb xs.length xs.length (some 2)=xs.length):=by
 rw [h];decide
theorem u9 {α:Type} (xs:List α) (h:xs.length=4):¬(HT.gb xs.length 0 (some 2)=0/\HT.gb xs.length xs.length none=xs.length):=by
 rw [h];decide
theorem vf {H:Hp} {vs:List V} {ns:List Nt} {v:V} {x:Nt} (i:Nat) (d:aG H vs (ns.map nD)) (dv:Dat H v (nD x)):aG H (vs.take i++v::vs.drop i) ((ns.take i++x::ns.drop i).map nD):=by
 rw [List.map_append,List.map_cons,List.map_take,List.map_drop];refine aG.append (d.take i) ?_;simp only [aG];exact ⟨dv,d.drop i⟩
theorem vm {ns:List Nt} {x y:Nt} {i:Nat} (h:y∈ns.take i++x::ns.drop i):y=x\/y∈ns:=by
 rcases List.mem_append.mp h with h|h
 ·exact .inr (List.mem_of_mem_take h)
 ·rcases List.mem_cons.mp h with h|h
  ·exact .inl h
  ·exact .inr (List.mem_of_mem_drop h)
theorem vo (ns:List Nt) (x:Nt) (i:Nat):(ns.take i++x::ns.drop i).length=ns.length+1:=by
 simp only [List.length_append,List.length_cons,List.length_take,List.length_drop];omega
theorem wI {kvs:List (List Key×V)} {cs os:List Int} {h k:Int} (S:Am kvs os) (O:NQ cs os) (h0:0<=h) (h1:h<cs.length) (k0:0<=k) (k1:k<gI cs h):∃z:Int,bW kvs [Sum.inl h,Sum.inl k]=some (.int z):=by
 have q:=O.2 h h0 h1;obtain ⟨z,e,_⟩:=S h k.toNat (by omega);have:((k.toNat:Nat):Int)=k:=by omega
 rw [this] at e;exact ⟨(z:Int),e⟩
theorem zV {f:Addr} {fd:FuncData} (F:jX K "_law_record" "_law_record" d8 f fd) (bC:FnAt P w K mg base 2 "_law_draw" ["bag","many"] (j4 K)) (Gb:FnAt P w K mg base 3 "_law_counts" ["bag","great"] (pR K)) (JR:FnAt P w K mg base 3 "_law_order" ["bag","counts"] (uU K)) (rO:FnAt P w K mg base 1 "_law_spots" ["order"] (o8 K)) (Mx:FnAt P w K mg base 3 "_law_note" ["bag","counts"] (zF K)) (Bt:o7 mg):cT P w K mg base jV 4 f fd ["bag","great"] (nJ K):=by
 refine F.ok cP (fun vs H Q E h=> ?_) (fun cdv A outer s H vs Q E hr h=> ?_)
 ·obtain ⟨r,b,n,g,rfl,_⟩:=h
  rfl
 ·obtain ⟨r,b,n,g,rfl,hg,B0,hn,k⟩:=h
  have hu:=lR hr;have dN:=hr.units
  refine ⟨_,(au (aU (i:=2) cP.nd rfl (Or.inl rfl) (aZ bC (hr.mono (by decide)) (by rfl) (aj (pv 0) (aj ao ak))))
   (au (aU (i:=3) cP.nd rfl (Or.inl rfl) (aZ bC (hr.mono (by decide)) (by rfl) (aj (pv 0) (aj ao ak))))
   (au (aU (i:=4) cP.nd rfl (Or.inl rfl) (aZ Gb (hr.mono (by decide)) (by rfl) (aj (pv 0) (aj (pv 1) ak))))
   (au (aU (i:=5) cP.nd rfl (Or.inl rfl) (aZ rO (hr.mono (by decide)) (by rfl) (aj (aZ JR (hr.mono (by decide)) (by rfl) (aj (pv 0) (aj (pv 4) ak))) ak)))
   (au (aU (i:=6) cP.nd rfl (Or.inl rfl) (cY ak))
   (au (gM PassesOwn.never rfl (cg (by rfl) Bt.dJ (aj (aZ bC (hr.mono (by decide)) (by rfl) (aj (pv 0) (aj (aL (aJ (K:=K) rfl) (cY (aj ao (aj ao ak))) (pv 1) (fun _ _=>rfl)) ak))) ak)) (bf (i:=7) cP.nd rfl (Or.inl rfl))
   (au (aU (i:=8) cP.nd rfl (Or.inl rfl) (aZ Mx (hr.mono (by decide)) (by rfl) (aj (pv 0) (aj (pv 4) ak))))
   (au (aU (i:=9) cP.nd rfl (Or.inl rfl) (S9 (cZ jP (pv 2) ao (aV _)) (iV (iW (cZ jP (pv 2) ao (aV _)) (iV (cZ qx (aZ bC (hr.mono (by decide)) (by rfl) (aj (pv 0) (aj ao ak))) ao (aV _)))))))
   (aF (b_ (aX lA (pv 8) gO (aV _)) (au (b_ (PW.pt (j8 (dU (pv 9)) (iI (aX qx (iJ hu (pv 5) (dh (gY (K:=K) rfl) (pv 8) eZ (eY ao)) (fun _ _=>rfl)) (iJ hu (pv 5) (dh (gY (K:=K) rfl) (pv 8) (eY ao) eZ) (fun _ _=>rfl)) (aV _))))) (aF (aU (i:=8) cP.nd rfl (Or.inl rfl) (bx (HD (K:=K) rfl) (dh (gY (K:=K) rfl) (pv 8) (eY ao) eZ) (dh (gY (K:=K) rfl) (pv 8) eZ (eY ao))))) bh)
   (aF (dI (qu (K:=K) rfl PySem.F.plainAttrs_list PySem.F.slot_list_insert PySem.F.type_list_insert nU (pv 6) (aj (aZ bC (hr.mono (by decide)) (by rfl) (aj (pv 0) (aj (bx cF (aN (aH (K:=K) rfl) (by rfl) Bt.cj bH (aj (pv 6) ak)) ao) ak))) (aj (pv 8) ak)))))) bh)))))
   (au (b_ (PW.pt (j8 (aX jP (pv 3) ao (aV _)) (iI (aX (mX (K:=K) rfl dN) (pv 6) (cY ak) (aV _))))) (aF (dI (qu (K:=K) rfl PySem.F.plainAttrs_list PySem.F.slot_list_insert PySem.F.type_list_insert nU (pv 6) (aj (aZ bC (hr.mono (by decide)) (by rfl) (aj (pv 0) (aj (bx cF (aN (aH (K:=K) rfl) (by rfl) Bt.cj bH (aj (pv 6) ak)) ao) ak))) (aj (aL (aJ (K:=K) rfl) (pv 6) (aZ bC (hr.mono (by decide)) (by rfl) (aj (pv 0) (aj (aN (aH (K:=K) rfl) (by rfl) Bt.cj bH (aj (pv 6) ak)) ak))) (fun _ _=>rfl)) ak))))) bh)
   (aF (aW (jG (aj (pv 4) (aj (pv 6) ak)))))))))))), ?_⟩
  refine ⟨_,rfl,r,b,3,n,rfl,B0,by omega,by decide,by decide,fun mode H1 m0 m1 B1 k1=> ?_⟩;refine ⟨_,rfl,r,b,3,n+1,rfl,B1,by omega,by decide,by decide,fun twice H2 w0 w1 B2 k2=> ?_⟩;refine ⟨_,rfl,_,rfl,r,b,n+2,g,rfl,hg,B2,by omega,fun c cs H3 hc0 hc ok csm B3 k3=> ?_⟩;have nc:c≠r:=(B2.ne hc0).1;refine ⟨_,rfl,_,rfl,r,b,n+22,c,cs,rfl,B3,by omega,hc,nc,ok,fun o os H4 ho0 ho oo _ B4 k4=> ?_⟩;have no:o≠r:=(B3.ne ho0).1;refine ⟨o,os,rfl,ho,oo.1,fun d kvs H5 hd0 hd S s5=> ?_⟩;have nd:d≠r:=(B4.ne hd0).1;have hc5:=s5 _ _ (k4 _ _ hc nc);have B5:=B4.keep s5;refine ⟨(by show 0<=sizeLine;decide),fun a ha0=> ?_⟩;have s6:=aD (o:=HO.lst []) ha0;have B6:=B5.keep s6;have na:=B5.ne ha0;have hc6:=s6 _ _ hc5;have Ge:=s6 _ _ hd;have Qf:c≠a:=aC hc5 ha0;have nda:d≠a:=aC hd ha0;have kA:Kp r H (upd H5 a (.lst [])):=((((k1.trans k2).trans k3).trans k4).trans (.of_same s5)).trans (.of_same s6);have aa1:H c=none:=Kp.new (k1.trans k2) hc0 B2.at;have QL:H a=none:=Kp.new ((((k1.trans k2).trans k3).trans k4).trans (.of_same s5)) ha0 B5.at;refine ⟨_,rfl,(by show 2<=sizeLine;decide),fun p hp=> ?_⟩;have s7:=aD (o:=HO.lst [V.int 13,V.int 41]) hp
  obtain ⟨mx,emx,x0,x1⟩:∃mx:Int,rY [V.int 13,V.int 41] g=some (V.int mx)/\0<mx/\mx<=41:=by
   rcases hg with rfl|rfl
   ·exact ⟨13,rfl,by decide,by decide⟩
   ·exact ⟨41,rfl,by decide,by decide⟩
  refine ⟨_,rfl,_,_,_,_,rfl,rfl,aY.of aA,emx,r,b,mx,_,rfl,B6.keep s7,by omega,x0,by omega,fun many H8 y0 y1 B8 k8=> ?_⟩;refine ⟨many,rfl,by omega,by omega, ?_⟩;have hc8:=k8 _ _ (s7 _ _ hc6) nc;have hd8:=k8 _ _ (s7 _ _ Ge) nd;have kB:Kp r H H8:=(kA.trans (.of_same s7)).trans k8
  refine gC (lo:=0) (n:=many.toNat) (fun i σ H9=>∃(ns:List Nt) (x1 x2 x3:Option V),σ=[some (.ref r),some (.int g),some (.int mode),some (.int twice),some (.ref c),some (.ref d),some (.ref a),x1,x2,x3] /\
   H9 c=some (.lst (cs.map V.int))/\H9 d=some (.dT kvs)/\bQ H9 a ns/\ns.length<=i/\(∀x∈ns,v9 cs x)/\bD H9 r b (n+2500+10*i)/\Kp r H H9)
   ⟨[],none,none,none,rfl,hc8,hd8,⟨[],k8 _ _ (s7 _ _ aA) na.1,by simp only [List.map_nil,aG]⟩,Nat.le_refl _,(fun x hx=>by cases hx),B8.mono (by omega),kB⟩ ?_ ?_
  ·rintro i σ H9 hi ⟨ns,v1,v2,v3,rfl,hc9,hd9,N9,nl,Qa,B9,k9⟩
   obtain ⟨bl,hbl⟩:=B9.lst;refine jw (fun σ oW=>∃(nv:V),σ=[some (.ref r),some (.int g),some (.int mode),some (.int twice),some (.ref c),some (.ref d),some (.ref a),some (.int (0+i)),some nv,v3]/\(nv = .non \/ ∃t x,nv = .ref t/\oW t=some (.tup (nV x))/\v9 cs x)/\bD oW r b (n+2500+10*i+4)/\Kp r H9 oW) (fun D' hD' _=> ?_) ?_
   ·exact ⟨_,rfl,_,rfl,r,b,_,c,cs,rfl,B9,by omega,hc9,nc,ok,fun oW _ B10 k10=>hD' _ _ ⟨_,rfl,.inl rfl,B10,k10⟩,fun t x oW ht0 ht nx B10 k10=>hD' _ _ ⟨_,rfl,.inr ⟨t,x,rfl,ht,nx⟩,B10,k10⟩⟩
   rintro σ oW ⟨nv,rfl,hnv,B10,k10⟩;refine jw (fun σ NZ=>∃(al:Bool),σ=[some (.ref r),some (.int g),some (.int mode),some (.int twice),some (.ref c),some (.ref d),some (.ref a),some (.int (0+i)),some nv,some (.bl al)]/\bD NZ r b (n+2500+10*i+5)/\Kp r oW NZ) (fun D' hD' _=> ?_) ?_
   ·refine ⟨_,rfl,rfl,_,rfl, ?_⟩
    refine dG (fun _=> ?_) (fun _=> ?_)
    ·exact hD' _ _ ⟨true,rfl,B10.mono (by omega),Kp.refl _ _⟩
    ·refine ⟨_,rfl,rfl,_,rfl, ?_⟩
     refine dG (fun _=> ?_) (fun _=> ?_)
     ·exact ⟨_,rfl,r,b,8,_,rfl,B10,by omega,by decide,by decide,fun z NZ z0 z1 B11 k11=>⟨_,_,rfl,rfl,hD' _ _ ⟨_,rfl,B11,k11⟩⟩⟩
     ·exact hD' _ _ ⟨false,rfl,B10.mono (by omega),Kp.refl _ _⟩
   rintro σ NZ ⟨al,rfl,B11,k11⟩;have Ls:=k10.trans k11;have tp:∀a xs,H9 a=some (HO.tup xs)->NZ a=some (HO.tup xs):=fun a xs h=>B10.tups k11 _ _ (B9.tups k10 _ _ h);have Ue:=Ls _ _ hc9 nc;have LQ:=Ls _ _ hd9 nd;have Rk:bQ NZ a ns:=N9.kp tp Ls na.1;have TV:=k9.trans Ls;refine ⟨_,rfl,rfl,_,rfl, ?_⟩;rcases hnv with rfl|⟨t,x,rfl,ht,nx⟩
   ·refine dG (fun q=>absurd q (by simp)) (fun _=> ?_)
    exact ⟨ns,_,_,_,rfl,Ue,LQ,Rk,by omega,Qa,B11.mono (by omega),TV⟩
   refine dG (fun _=> ?_) (fun q=>absurd (by simp) q);have Qu:=B10.tups k11 _ _ ht;refine jw (fun σ nA=>∃(t':Addr) (x':Nt),σ=[some (.ref r),some (.int g),some (.int mode),some (.int twice),some (.ref c),some (.ref d),some (.ref a),some (.int (0+i)),some (.ref t'),some (.bl al)]/\nA t'=some (.tup (nV x'))/\v9 cs x'/\Same NZ nA) (fun D' hD' _=> ?_) ?_
   ·refine ⟨_,rfl,al,rfl, ?_⟩
    cases al with
    | false=>exact dj (hD' _ _ ⟨t,x,rfl,Qu,nx,Same.refl _⟩)
    | true=>
      refine iB ?_;obtain ⟨⟨h0,h1⟩,⟨k0,k1⟩,⟨o0,o1⟩,⟨m0,m1⟩,hne⟩:=id nx;obtain ⟨z1,e1⟩:=wI S oo h0 h1 k0 k1;obtain ⟨z2,e2⟩:=wI S oo o0 o1 m0 m1;refine ⟨_,rfl,_,rfl,_,rfl,_,_,rfl,cH.of Qu,qw _ rfl,fun p1 hp1=> ?_⟩;have c1:iH (nV x) none (some 2)=[.int x.1,.int x.2.1]:=CP ..;rw [c1];have su:=aD (o:=HO.tup [V.int x.1,V.int x.2.1]) hp1;refine ⟨d,_,rfl,e1▸gK.t (k:=[Sum.inl x.1,Sum.inl x.2.1]) (su _ _ LQ) aA, ?_⟩;have Ew:=su _ _ Qu;refine ⟨_,rfl,_,rfl,_,rfl,_,_,rfl,cH.of Ew,u9 _ rfl,fun p2 hp2=> ?_⟩;have c2:iH (nV x) (some 2) none=[.int x.2.2.1,.int x.2.2.2]:=Jr ..;rw [c2];have Km:=aD (o:=HO.tup [V.int x.2.2.1,V.int x.2.2.2]) hp2;refine ⟨d,_,rfl,e2▸gK.t (k:=[Sum.inl x.2.2.1,Sum.inl x.2.2.2]) (Km _ _ (su _ _ LQ)) aA,_,_,rfl,rfl,_,rfl, ?_⟩;have Qt:=Km _ _ Ew;have zM:=su.trans Km;refine dG (fun _=> ?_) (fun _=> ?_)
      ·refine ⟨_,rfl,_,rfl,_,_,rfl,cH.of Qt,u9 _ rfl,fun p3 hp3=> ?_⟩
       rw [c2];have sp3:=aD (o:=HO.tup [V.int x.2.2.1,V.int x.2.2.2]) hp3;refine ⟨_,rfl,_,rfl,_,_,rfl,cH.of (sp3 _ _ Qt),qw _ rfl,fun p4 Ub=> ?_⟩;rw [c1];have sp4:=aD (o:=HO.tup [V.int x.1,V.int x.2.1]) Ub;refine ⟨_,_,_,_,rfl,rfl,cH.of (sp4 _ _ aA),cH.of aA,by simp,(by show 4<=sizeLine;decide),fun z=>by simp at z,fun _ p5 Rv=> ?_⟩;refine hD' _ _ ⟨p5,(x.2.2.1,x.2.2.2,x.1,x.2.1),rfl,aA,⟨⟨o0,o1⟩,⟨m0,m1⟩,⟨h0,h1⟩,⟨k0,k1⟩,hne.symm⟩,((zM.trans sp3).trans sp4).trans (aD Rv)⟩
      ·exact hD' _ _ ⟨t,x,rfl,Qt,nx,zM⟩
   rintro σ nA ⟨t',x',rfl,ht',nx',s12⟩;have W7:=Rk.same s12;have B12:=B11.keep s12;obtain ⟨vs,hA,dA⟩:=id W7;have vl:vs.length=ns.length:=by rw [dA.length,List.length_map]
   refine ⟨_,rfl,.inl ⟨rfl,_,aY.of hA⟩,_,rfl,_,rfl,a,_,rfl,.inl (aY.of hA),_,_,rfl,rfl,r,b,_,_,rfl,B12,by omega,by omega,by omega,fun z Xb z0 z1 B13 k13=> ?_⟩;have N13:=W7.kp (B12.tups k13) k13 na.1;obtain ⟨vs',hA',dA'⟩:=id N13;have vl':vs'.length=ns.length:=by rw [dA'.length,List.length_map]
   refine ⟨_,rfl,a,vs',z,_,rfl,rfl,hA',z0,by omega,by rw [sizeLine_eq];omega, ?_⟩;have sV:Kp a Xb (upd Xb a (.lst (vs'.take z.toNat++V.ref t'::vs'.drop z.toNat))):=Kp.set;have uQ:=sV.tups hA';refine ⟨ns.take z.toNat++x'::ns.drop z.toNat,_,_,_,rfl,sV _ _ (k13 _ _ (s12 _ _ Ue) nc) Qf,sV _ _ (k13 _ _ (s12 _ _ LQ) nd) nda,⟨_,aA, ?_⟩,by rw [vo];omega,fun y hy=> ?_,(B13.kp sV na.1.symm na.2.symm).mono (by omega), ?_⟩
   ·refine vf _ (aG.keep uQ _ (bI _ eU ns) dA') (jL (uQ _ _ (B12.tups k13 _ _ ht')))
   ·rcases vm hy with rfl|hy
    ·exact nx'
    ·exact Qa y hy
   ·intro q u e nq
    have:q≠a:=aC e QL;exact sV _ _ (k13 _ _ (s12 _ _ (TV _ _ e nq)) nq) this
  ·rintro σ H9 ⟨ns,v1,v2,v3,rfl,hc9,hd9,N9,nl,Qa,B9,k9⟩
   have fin:∀(ms:List Nt) (H:Hp),True:=fun _ _=>trivial;dsimp only;refine jw (fun σ oW=>∃(ms:List Nt),σ=[some (.ref r),some (.int g),some (.int mode),some (.int twice),some (.ref c),some (.ref d),some (.ref a),v1,v2,v3]/\oW c=some (.lst (cs.map V.int))/\bQ oW a ms/\ms.length<=50/\(∀x∈ms,v9 cs x)/\bD oW r b (n+3500)/\Kp r H oW) (fun D' hD' _=> ?_) ?_
   ·have same:D'.nx [some (.ref r),some (.int g),some (.int mode),some (.int twice),some (.ref c),some (.ref d),some (.ref a),v1,v2,v3] H9:=hD' _ _ ⟨ns,rfl,hc9,N9,by omega,Qa,B9.mono (by omega),k9⟩
    refine ⟨_,rfl,rfl,_,rfl, ?_⟩;refine dG (fun _=> ?_) (fun _=>same);obtain ⟨vs,hA,dA⟩:=id N9;have vl:vs.length=ns.length:=by rw [dA.length,List.length_map]
    refine ⟨_,rfl,(by show 0<=sizeLine;decide),fun p1 hp1=> ?_⟩;have su:=aD (o:=HO.lst []) hp1;have Mv:=N9.same su;obtain ⟨vs1,bZ,dA1⟩:=id Mv;refine ⟨_,_,dz bZ dA1,dz (ds:=([]:List Nt).map nD) aA (by simp only [List.map_nil,aG]),cD ns,cD [],_,rfl, ?_⟩;rw [if_pos rfl,fY nD kE];have vl1:vs1.length=ns.length:=by rw [dA1.length,List.length_map]
    by_cases e0:ns=[]
    ·subst e0
     refine dG (fun q=>absurd q (by simp)) (fun _=> ?_);exact hD' _ _ ⟨[],rfl,su _ _ hc9,Mv,by simp,Qa,(B9.keep su).mono (by omega),k9.trans (.of_same su)⟩
    refine dG (fun _=> ?_) (fun q=>absurd (by simp [e0]) q);have npos:0<ns.length:=List.length_pos_iff.mpr e0;have B10:=B9.keep su;have Jf:=su _ _ hc9;refine ⟨_,rfl,.inl ⟨rfl,_,aY.of bZ⟩,_,rfl,_,rfl,a,_,rfl,.inl (aY.of bZ),_,_,rfl,rfl,r,b,_,_,rfl,B10,by omega,by omega,by omega,fun z NZ z0 z1 B11 k11=> ?_⟩;have Rk:=Mv.kp (B10.tups k11) k11 na.1;obtain ⟨vs2,iK,dA2⟩:=id Rk;have vl2:vs2.length=ns.length:=by rw [dA2.length,List.length_map]
    refine ⟨_,rfl,_,rfl,_,rfl,a,_,rfl,.inl (aY.of iK),r,b,_,_,rfl,B11,by omega,by omega,by omega,fun u nA u0 u1 B12 k12=> ?_⟩;have W7:=Rk.kp (B11.tups k12) k12 na.1;obtain ⟨Gs,hA3,dA3⟩:=id W7;have vl3:Gs.length=ns.length:=by rw [dA3.length,List.length_map]
    obtain ⟨um,rfl⟩:=Int.eq_ofNat_of_zero_le u0;have hum:um<Gs.length:=by omega
    obtain ⟨x,t,ex,ev,ht⟩:=fW dA3 (i:=um) (v:=Gs[um]) (by simp [hum]);refine ⟨_,_,_,_,rfl,rfl,aY.of hA3,fD (v:=Gs[um]) (by simp [hum]),a,Gs,z,_,rfl,rfl,hA3,z0,by omega,by rw [sizeLine_eq];omega, ?_⟩;have sV:Kp a nA (upd nA a (.lst (Gs.take z.toNat++Gs[um]::Gs.drop z.toNat))):=Kp.set;have uQ:=sV.tups hA3;refine hD' _ _ ⟨ns.take z.toNat++x::ns.drop z.toNat,rfl,sV _ _ (k12 _ _ (k11 _ _ Jf nc) nc) Qf,⟨_,aA, ?_⟩,by rw [vo];omega,fun y hy=> ?_,(B12.kp sV na.1.symm na.2.symm).mono (by omega), ?_⟩
    ·refine vf _ (aG.keep uQ _ (bI _ eU ns) dA3) ?_
     exact Eq.mpr (congrArg (fun v=>Dat (upd nA a (.lst (Gs.take z.toNat++Gs[um]::Gs.drop z.toNat))) v (nD x)) ev) (jL (uQ _ _ ht))
    ·rcases vm hy with rfl|hy
     ·exact Qa y (List.mem_of_getElem? ex)
     ·exact Qa y hy
    ·intro q w e nq
     have:q≠a:=aC e QL;exact sV _ _ (k12 _ _ (k11 _ _ (su _ _ (k9 _ _ e nq)) nq) nq) this
   rintro σ oW ⟨ms,rfl,Jf,Mv,ml,Tp,B10,k10⟩;refine ⟨_,rfl,_,rfl,(by show 2<=sizeLine;decide),fun t ht=> ?_⟩;have st:=aD (o:=HO.tup [V.ref c,V.ref a]) ht;exact k t c a cs ms _ (Kp.new k10 ht B10.at) aa1 QL ⟨aA,st _ _ Jf,Mv.same st⟩ ⟨ok,by omega,Tp⟩ csm ((B10.keep st).mono (by omega)) (k10.trans (.of_same st)) Qf (by omega)
def J3 (i:Int) (n:Nat):Prop:=0<=i/\i<(n:Int)
instance (i:Int) (n:Nat):Decidable (J3 i n):=inferInstanceAs (Decidable (_/\_))
def Kl (K:PySem.W.Frag):Sp:=fun vs H Q _=>∃i:Int,vs=[.int i]/\Q (.bl true) H
theorem xq {f:Addr} {fd:FuncData} (F:jX K "is_whole" "is_whole" cV f fd) (Bt:o7 mg):cT P w K mg base jV 1 f fd ["value"] (Kl K):=by
 refine F.ok wM (fun vs H Q E h=> ?_) (fun cdv A outer s H vs Q E hr h=> ?_)
 ·obtain ⟨i,rfl,_⟩:=h
  rfl
 ·obtain ⟨i,rfl,k⟩:=h
  refine ⟨_,(aF (aW (iW (aN (gD (K:=K) (cv:= .ty "int") (c:= .type "int") rfl rfl) (by rfl) Bt.dg cQ (aj (pv 0) (aj (jH (v:= .ty "int") (by rfl) Bt.Nz Jz rfl) ak))) (iV (Pq (aN (gD (K:=K) (cv:= .ty "bool") (c:= .type "bool") rfl rfl) (by rfl) Bt.dg cQ (aj (pv 0) (aj (jH (v:= .ty "bool") (by rfl) Bt.JH CV rfl) ak)))))))), ?_⟩;refine ⟨_,rfl,_,_,true,rfl,.int i,xZ K,true,rfl, ?_⟩;refine iB ?_;exact ⟨_,rfl,_,_,false,rfl,.int i,m6 K,false,rfl,k⟩
def uY (K:PySem.W.Frag):Sp:=fun vs H Q _=>∃(i:Int) (n:Nat),vs=[.int i,.int n]/\Q (.bl (decide (J3 i n))) H
theorem xr {f:Addr} {fd:FuncData} (F:jX K "is_below" "is_below" cW f fd) (mK:FnAt P w K mg base 1 "is_whole" ["value"] (Kl K)):cT P w K mg base jV 2 f fd ["value","count"] (uY K):=by
 refine F.ok wN (fun vs H Q E h=> ?_) (fun cdv A outer s H vs Q E hr h=> ?_)
 ·obtain ⟨i,n,rfl,_⟩:=h
  rfl
 ·obtain ⟨i,n,rfl,k⟩:=h
  refine ⟨_,(aF (aW (iW (aZ mK (hr.mono (by decide)) (by rfl) (aj (pv 0) ak)) (iV (Hx w6 j9 ao (pv 0) (pv 1)))))), ?_⟩;refine ⟨_,rfl,i,rfl,true,rfl, ?_⟩;refine iB ?_;refine ⟨_,rfl,_,_,rfl,rfl,_,rfl, ?_⟩;refine dG (fun h0=> ?_) (fun h0=> ?_)
  ·refine ⟨_,rfl,_,_,rfl,rfl, ?_⟩
   have e:decide (J3 i n)=decide (i<(n:Int)):=by
    have h0:=of_decide_eq_true h0;rw [Bool.eq_iff_iff,decide_eq_true_iff,decide_eq_true_iff];exact ⟨fun z=>z.2,fun z=>⟨h0,z⟩⟩
   show Q (.bl (decide (i<(n:Int)))) H;rw [←e];exact k
  ·have e:decide (J3 i n)=false:=decide_eq_false fun z=>h0 (decide_eq_true z.1)
   rw [←e];exact k
def mQ (K:PySem.W.Frag):Sp:=fun vs H Q _=>∃(t:Addr) (x:Nt),vs=[.ref t]/\H t=some (.tup (nV x)) /\ ∀H',Same H H'->Q (.bl (!decide (x.1=x.2.2.1))) H'
theorem zW {f:Addr} {fd:FuncData} (F:jX K "is_note" "is_note" dZ f fd) (mK:FnAt P w K mg base 1 "is_whole" ["value"] (Kl K)) (Bt:o7 mg):cT P w K mg base jV 2 f fd ["value"] (mQ K):=by
 refine F.ok zK (fun vs H Q E h=> ?_) (fun cdv A outer s H vs Q E hr h=> ?_)
 ·obtain ⟨t,x,rfl,_⟩:=h
  rfl
 ·obtain ⟨t,x,rfl,ht,k⟩:=h
  have dN:=hr.units
  refine ⟨_,(au (b_ (PW.pt (jO (gA (dU (aN (gD (K:=K) (cv:= .ty "tuple") (c:= .type "tuple") rfl rfl) (by rfl) Bt.dg cQ (aj (pv 0) (aj (jH (v:= .ty "tuple") (by rfl) Bt.CZ yE rfl) ak))))) (iT (aX BX (aN (aH (K:=K) rfl) (by rfl) Bt.cj bH (aj (pv 0) ak)) ao (aV _))))) (aF (aW gj)) bh)
   (aF (aW (iW (aN (dB (K:=K) rfl rfl) (by rfl) Bt.yJ rA (aj (eF rfl (N:=["number"]) (own:=["number"]) (caps:=[]) (aR.of (by kernel_rfl)) (BK (K:=K) rfl (pv 0)) (fun _ _ _ _=>(bf (i:=0) (show List.Nodup (["number"]:List Str) by decide +kernel) rfl (Or.inl rfl))) (fun _ _ _ _=>eE) (fun _ _ _ _=>(aZ mK (hr.mono (by decide)) (by rfl) (aj (pv 0) ak)))) ak)) (iV (cZ BX (aL (aO (K:=K) rfl) (pv 0) ao (fun _ _=>rfl)) (aL (aO (K:=K) rfl) (pv 0) ao (fun _ _=>rfl)) (aV _))))))), ?_⟩
  refine ⟨_,rfl,_,_,true,rfl,.tup ht,jQ K,true,rfl, ?_⟩;refine dj ?_;refine ⟨_,rfl,t,_,rfl,.inr (cH.of ht),rfl,_,rfl, ?_⟩;refine Ck (by rfl) ?_;refine ⟨_,rfl,t,rfl,⟨_,cH.of ht⟩,fun D hD=> ?_⟩;refine uE (K:=K) (fun i=>some (.bl true)) hD ht (by show 4<=100000;decide) (fun i v H2 G F hi s2 kG kF=> ?_) (fun H2 s2 e2=> ?_)
  ·obtain ⟨z,rfl⟩:∃z,v=V.int z:=by
    have hm:=List.mem_of_getElem? hi;simp only [nV,List.mem_cons,List.not_mem_nil,or_false] at hm;rcases hm with rfl|rfl|rfl|rfl<;>exact ⟨_,rfl⟩
   exact ⟨_,rfl,z,rfl,kF _ H2 (Same.refl _) rfl⟩
  ·refine ⟨D,[true,true,true,true],rfl,aY.of e2,true,rfl, ?_⟩
   refine iB ?_;refine ⟨_,rfl,_,_,_,_,rfl,rfl,cH.of (s2 _ _ ht),rfl,_,rfl,_,_,_,_,rfl,rfl,cH.of (s2 _ _ ht),rfl,rfl, ?_⟩
   have e:(!decide (V.int x.1=V.int x.2.2.1))=(!decide (x.1=x.2.2.1)):=by
    by_cases q:x.1=x.2.2.1
    ·simp [q]
    ·simp [q]
   show Q (.bl (!decide (V.int x.1=V.int x.2.2.1))) H2;rw [e];exact k H2 s2
def nM (K:PySem.W.Frag):Sp:=fun vs H Q _=>∃(c t:Addr) (cs:List Int) (x:Nt),vs=[.ref c,.ref t]/\H c=some (.lst (cs.map V.int))/\H t=some (.tup (nV x))/\v9 cs x/\yQ cs /\ ∀H',Same H H'->Q (.bl true) H'
theorem sO {f:Addr} {fd:FuncData} (F:jX K "is_between" "is_between" cA f fd) (jN:FnAt P w K mg base 2 "is_below" ["value","count"] (uY K)) (oJ:FnAt P w K mg base 2 "is_note" ["value"] (mQ K)) (Bt:o7 mg):cT P w K mg base jV 3 f fd ["counts","note"] (nM K):=by
 refine F.ok sH (fun vs H Q E h=> ?_) (fun cdv A outer s H vs Q E hr h=> ?_)
 ·obtain ⟨c,t,cs,x,rfl,_⟩:=h
  rfl
 ·obtain ⟨c,t,cs,x,rfl,hc,ht,ok,cok,k⟩:=h
  have dN:=hr.units;obtain ⟨⟨h0,h1⟩,⟨k0,k1⟩,⟨o0,o1⟩,⟨m0,m1⟩,hne⟩:=id ok
  refine ⟨_,(au (b_ (PW.pt (jO (gA (dU (aZ oJ (hr.mono (by decide)) (by rfl) (aj (pv 1) ak)))) (jO (gA (dU (aZ jN (hr.mono (by decide)) (by rfl) (aj (aL (aO (K:=K) rfl) (pv 1) ao (fun _ _=>rfl)) (aj (aN (aH (K:=K) rfl) (by rfl) Bt.cj bH (aj (pv 0) ak)) ak))))) (iT (gA (dU (aZ jN (hr.mono (by decide)) (by rfl) (aj (aL (aO (K:=K) rfl) (pv 1) ao (fun _ _=>rfl)) (aj (aN (aH (K:=K) rfl) (by rfl) Bt.cj bH (aj (pv 0) ak)) ak))))))))) (aF (aW gj)) bh)
   (aF (aW (iW (aZ jN (hr.mono (by decide)) (by rfl) (aj (aL (aO (K:=K) rfl) (pv 1) ao (fun _ _=>rfl)) (aj (aL (aJ (K:=K) rfl) (pv 0) (aL (aO (K:=K) rfl) (pv 1) ao (fun _ _=>rfl)) (fun _ _=>rfl)) ak))) (iV (aZ jN (hr.mono (by decide)) (by rfl) (aj (aL (aO (K:=K) rfl) (pv 1) ao (fun _ _=>rfl)) (aj (aL (aJ (K:=K) rfl) (pv 0) (aL (aO (K:=K) rfl) (pv 1) ao (fun _ _=>rfl)) (fun _ _=>rfl)) ak)))))))), ?_⟩
  refine ⟨_,rfl,t,x,rfl,ht,fun H1 s1=>⟨_,rfl, ?_⟩⟩;rw [show (!decide (x.1=x.2.2.1))=true by simp [hne]];refine dj ?_;have hc1:=s1 _ _ hc;have ht1:=s1 _ _ ht;refine ⟨_,rfl,_,_,_,_,rfl,rfl,cH.of ht1,rfl,_,rfl,c,_,rfl,.inl (aY.of hc1),_,_,rfl,_,rfl, ?_⟩;rw [show decide (J3 x.1 (cs.map V.int).length)=true by rw [List.length_map];simp [J3,h0,h1]];refine dj ?_;refine ⟨_,rfl,_,_,_,_,rfl,rfl,cH.of ht1,rfl,_,rfl,c,_,rfl,.inl (aY.of hc1),_,_,rfl,_,rfl, ?_⟩;rw [show decide (J3 x.2.2.1 (cs.map V.int).length)=true by rw [List.length_map];simp [J3,o0,o1]];refine dj ?_;have g1:=(cok.gI x.1).1;have g2:=(cok.gI x.2.2.1).1;have e1:gI cs x.1=((gI cs x.1).toNat:Int):=by omega
  have e2:gI cs x.2.2.1=((gI cs x.2.2.1).toNat:Int):=by omega
  refine ⟨_,rfl,_,_,_,_,rfl,rfl,cH.of ht1,rfl,_,rfl,_,rfl,_,_,_,_,rfl,rfl,cH.of ht1,rfl,_,_,_,_,rfl,rfl,aY.of hc1,dX h0 h1,x.2.1,(gI cs x.1).toNat,by rw [←e1];rfl,_,rfl, ?_⟩;rw [decide_eq_true (show J3 x.2.1 (gI cs x.1).toNat from ⟨k0,by omega⟩)];refine iB ?_;refine ⟨_,rfl,_,_,_,_,rfl,rfl,cH.of ht1,rfl,_,rfl,_,rfl,_,_,_,_,rfl,rfl,cH.of ht1,rfl,_,_,_,_,rfl,rfl,aY.of hc1,dX o0 o1,x.2.2.2,(gI cs x.2.2.1).toNat,by rw [←e2];rfl, ?_⟩;rw [decide_eq_true (show J3 x.2.2.2 (gI cs x.2.2.1).toNat from ⟨m0,by omega⟩)];exact k H1 s1
def j5 (K:PySem.W.Frag):Sp:=fun vs H Q _=>∃(t c a:Addr) (cs:List Int) (ns:List Nt),vs=[.ref t]/\RecAt H t c a cs ns/\fH cs ns /\ ∀H',Same H H'->Q .non H'
theorem yh (n:Nat) (v:V):(List.range n).filterMap (fun _=>some v)=List.replicate n v:=by
 induction n with
 | zero=>rfl
 | succ n ih=>rw [fB,ih,List.replicate_succ'];rfl
theorem qz {f:Addr} {fd:FuncData} (F:jX K "check_notes" "check_notes" bT f fd) (wg:FnAt P w K mg base 3 "is_between" ["counts","note"] (nM K)) (Bt:o7 mg):cT P w K mg base jV 4 f fd ["record"] (j5 K):=by
 refine F.ok pY (fun vs H Q E h=> ?_) (fun cdv A outer s H vs Q E hr h=> ?_)
 ·obtain ⟨t,c,a,cs,ns,rfl,_⟩:=h
  rfl
 ·obtain ⟨t,c,a,cs,ns,rfl,⟨ht,hc,hN⟩,ok,k⟩:=h
  have dN:=hr.units;obtain ⟨vs,ha,dv⟩:=id hN;have vl:vs.length=ns.length:=by rw [dv.length,List.length_map]
  have nl:=ok.2.1;refine ⟨_,(aF (b_ (gA (dU (aN (dB (K:=K) rfl rfl) (by rfl) Bt.yJ rA (aj (eF rfl (N:=["note","record"]) (own:=["note"]) (caps:=[0]) (aR.of (by kernel_rfl)) (cN (K:=K) rfl (aL (aO (K:=K) rfl) (pv 0) ao (fun _ _=>rfl))) (fun _ _ _ _=>(bf (i:=0) (show List.Nodup (["note","record"]:List Str) by decide +kernel) rfl (Or.inl rfl))) (fun _ _ _ _=>eE) (fun _ _ _ _=>(aZ wg (hr.mono (by decide)) (by rfl) (aj (aL (aO (K:=K) rfl) (pv 1) ao (fun _ _=>rfl)) (aj (pv 0) ak))))) ak)))) (aF Ho) bh)), ?_⟩;refine ⟨_,rfl,_,_,_,_,rfl,rfl,cH.of ht,rfl,a,rfl,⟨_,aY.of ha⟩,fun D hD=> ?_⟩;refine ji (K:=K) (fun i=>some (.bl true)) hD (aY.of ha) (by omega) (fun i v H2 G F hi s2 kG kF=> ?_) (fun H2 s2 e2=> ?_)
  ·obtain ⟨x,q,ex,rfl,hx⟩:=fW dv hi
   exact ⟨_,rfl,_,_,_,_,rfl,rfl,cH.of (s2 _ _ ht),rfl,_,rfl,c,q,cs,x,rfl,s2 _ _ hc,s2 _ _ hx,ok.2.2 x (List.mem_of_getElem? ex),ok.1,fun H3 s3=>kF _ H3 s3 rfl⟩
  ·rw [yh] at e2
   refine ⟨D,List.replicate vs.length true,rfl,aY.of (by rw [e2,List.map_replicate]),_,rfl, ?_⟩;rw [show (List.replicate vs.length true).all id=true by simp];refine dj ?_;exact k H2 s2
def iD (cs ds:List Int):Prop:=ds.length=cs.length /\ ∀i:Int,0<=i->i<cs.length->0<=gI ds i/\gI ds i<=gI cs i
theorem vR (x y:Int):PyData.eqv (.int x) (.int y)=decide (x=y):=by
 simp only [PyData.eqv];rw [Bool.eq_iff_iff];simp
theorem kI {H:Hp} {a:Addr} {ns:List Int} (h:H a=some (.lst (ns.map V.int))):Dat H (.ref a) (.list (ns.map PyData.int)):=dz h (aG.ints ns)
theorem shaped_ints (ns:List Int):SeqAt.shaped (.list (ns.map PyData.int))=true:=oN PyData.int 0 (by decide) (fun _ _=>rfl) (fun _ _=>by show 0<=0;decide)
def rD (cs:List Int) (ns:List Nt):PyData:= .tuple [.list (cs.map PyData.int),.list (ns.map nD)]
theorem pH {H:Hp} {t c a:Addr} {cs:List Int} {ns:List Nt} (h:RecAt H t c a cs ns):Dat H (.ref t) (rD cs ns):=by
 obtain ⟨ht,hc,vs,ha,dv⟩:=h;simp only [rD,Dat];refine ⟨t,_,rfl,ht, ?_⟩;simp only [aG,and_true];exact ⟨kI hc,dz ha dv⟩
theorem ju (cs:List Int) (ns:List Nt):SeqAt.shaped (rD cs ns)=true:=by
 have e1:=shaped_ints cs;have e2:=cD ns;simp only [SeqAt.shaped,PyData.depth,PyData.depthAll,PyData.canLay0,PyData.canLayAll0,rD,Bool.and_eq_true,decide_eq_true_eq,Bool.and_true] at e1 e2 ⊢;have d1:PyData.depthAll (cs.map PyData.int)<=0:=ig _ 0 cs (fun _ _=>by show 0<=0;decide);have d2:PyData.depthAll (ns.map nD)<=1:=ig _ 1 ns (fun _ _=>by show (max 0 (max 0 (max 0 (max 0 0))))+1<=1;decide);refine ⟨?_, ?_⟩<;>first |(clear e2 e1;omega)|exact ⟨e1.1,e2.1⟩|exact ⟨e1.2,e2.2⟩|skip
theorem Cz (cs ds:List Int) (ns ms:List Nt):PyData.eqv (rD cs ns) (rD ds ms)=(decide (cs=ds)&&decide (ns=ms)):=by
 simp only [rD,PyData.eqv,PyData.eqvAll,Bool.and_true];have e1:=fY PyData.int vR cs ds;have e2:=fY nD kE ns ms;simp only [PyData.eqv] at e1 e2;rw [e1,e2]
def zH (K:PySem.W.Frag):Sp:=fun vs H Q _=>∃(t c a:Addr) (cs:List Int) (ns:List Nt),vs=[.ref t]/\RecAt H t c a cs ns /\ ∀(t' c' a':Addr) (H':Hp),H t'=none->H c'=none->H a'=none->RecAt H' t' c' a' cs ns->Same H H'->Q (.ref t') H'
theorem Lf {f:Addr} {fd:FuncData} (F:jX K "_law_copy" "_law_copy" h_ f fd) (Bt:o7 mg):cT P w K mg base jV 1 f fd ["record"] (zH K):=by
 refine F.ok G4 (fun vs H Q E h=> ?_) (fun cdv A outer s H vs Q E hr h=> ?_)
 ·obtain ⟨t,c,a,cs,ns,rfl,_⟩:=h
  rfl
 ·obtain ⟨t,c,a,cs,ns,rfl,⟨ht,hc,hN⟩,k⟩:=h
  obtain ⟨vs,ha,dv⟩:=id hN;refine ⟨_,(aF (aW (jG (aj (eG (dF (K:=K) rfl) (by rfl) Bt.kO iR (aj (aL (aO (K:=K) rfl) (pv 0) ao (fun _ _=>rfl)) ak)) (aj (eG (dF (K:=K) rfl) (by rfl) Bt.kO iR (aj (aL (aO (K:=K) rfl) (pv 0) ao (fun _ _=>rfl)) ak)) ak))))), ?_⟩;refine ⟨_,rfl,_,_,_,_,rfl,rfl,cH.of ht,rfl,c,_,rfl,.inl (aY.of hc),fun c' hc'=> ?_⟩;have s1:=aD (o:=HO.lst (cs.map V.int)) hc';refine ⟨_,rfl,_,_,_,_,rfl,rfl,cH.of (s1 _ _ ht),rfl,a,_,rfl,.inl (aY.of (s1 _ _ ha)),fun a' ha'=> ?_⟩;have s2:=aD (o:=HO.lst vs) ha';refine ⟨(by show 2<=sizeLine;decide),fun t' ht'=> ?_⟩;have s3:=aD (o:=HO.tup [V.ref c',V.ref a']) ht';have sA:=(s1.trans s2).trans s3;exact k t' c' a' _ ((s1.trans s2).free ht') hc' (s1.free ha') ⟨aA,s3 _ _ (s2 _ _ aA),⟨vs,s3 _ _ aA,aG.keep sA.tups _ (bI _ eU ns) dv⟩⟩ sA
abbrev Mt:=Int×Int
def pD (x:Mt):PyData:= .tuple [.int x.1,.int x.2]
theorem vL (x:Mt):LC (pD x)=true:=rfl
theorem Mf {H:Hp} {t:Addr} {x:Mt} (h:H t=some (.tup [.int x.1,.int x.2])):Dat H (.ref t) (pD x):=by
 simp only [pD,Dat];exact ⟨t,_,rfl,h,by simp only [aG,Dat,and_self]⟩
theorem yu {H:Hp} {v:V} {x:Mt} (h:Dat H v (pD x)):∃t,v = .ref t/\H t=some (.tup [.int x.1,.int x.2]):=by
 simp only [pD,Dat] at h;obtain ⟨t,vs,e,q,d⟩:=h
 match vs,d with
 | [a,b],d=>
   simp only [aG,Dat,and_true] at d;obtain ⟨rfl,rfl⟩:=d;exact ⟨t,e,q⟩
 | [],d=>simp only [aG] at d
 | [_],d=>simp only [aG,and_false] at d
 | _::_::_::_,d=>simp only [aG,and_false] at d
def oV (H:Hp) (a:Addr) (ps:List Mt):Prop:=∃vs,H a=some (.lst vs)/\aG H vs (ps.map pD)
theorem oV.same {H H':Hp} {a:Addr} {ws:List Mt} (h:oV H a ws) (k:Same H H'):oV H' a ws:=by
 obtain ⟨vs,e,d⟩:=h;exact ⟨vs,k _ _ e,aG.keep k.tups _ (bI _ vL ws) d⟩
theorem KY {H:Hp} {vs:List V} {ps:List Mt} {i:Nat} {v:V} (d:aG H vs (ps.map pD)) (e:vs[i]? = some v):∃x t,ps[i]? = some x/\v = .ref t/\H t=some (.tup [.int x.1,.int x.2]):=by
 obtain ⟨q,eq,dq⟩:=d.get e;rw [List.getElem?_map] at eq;cases ex:ps[i]? with
 | none=>rw [ex] at eq;cases eq
 | some x=>
   rw [ex] at eq;cases eq;obtain ⟨t,rfl,ht⟩:=yu dq;exact ⟨x,t,rfl,rfl,ht⟩
def V6 (n:Nat) (ds es:List Int):Prop:=∀i:Int,0<=i->i<n->gI ds i<=gI es i
theorem V6.eq {n:Nat} {ds es:List Int} (h1:ds.length=n) (h2:es.length=n) (a:V6 n ds es) (b:V6 n es ds):ds=es:=by
 refine List.ext_getElem (by omega) fun i hi hi'=> ?_;have q1:=a (i:Int) (by omega) (by omega);have q2:=b (i:Int) (by omega) (by omega);rw [fX (cs:=ds) (i:=i) (c:=ds[i]) (by simp [hi]),fX (cs:=es) (i:=i) (c:=es[i]) (by simp [hi'])] at q1 q2;omega
theorem nH:∀{xs ys:List Int},xs.length=ys.length->(∀i:Nat,i<xs.length->gI xs (i:Int)<=gI ys (i:Int))->xs.sum<=ys.sum
 | [],[],_,_=>by simp
 | [],_::_,h,_=>by simp at h
 | _::_,[],h,_=>by simp at h
 | x::xs,y::ys,h,q=>by
   have q0:=q 0 (by simp)
   have ih:=nH (xs:=xs) (ys:=ys) (by simpa using h) fun i hi=>by
    have:=q (i+1) (by simp;omega);simpa [gI] using this
   simp [gI] at q0;rw [List.sum_cons,List.sum_cons];omega
theorem iD.sum {cs es:List Int} (h:iD cs es):0<=es.sum/\es.sum<=cs.sum:=by
 constructor
 ·have:(List.replicate es.length (0:Int)).sum<=es.sum:=nH (by simp) fun i hi=>by
   have hi':i<es.length:=by simpa using hi
   have:=(h.2 (i:Int) (by omega) (by rw [←h.1];omega)).1;simpa [gI,hi'] using this
  have z:(List.replicate es.length (0:Int)).sum=0:=by
   clear this h
   induction es.length with
   | zero=>rfl
   | succ n ih=>rw [List.replicate_succ,List.sum_cons,ih];rfl
  omega
 ·exact nH h.1 fun i hi=>(h.2 (i:Int) (by omega) (by rw [←h.1];omega)).2
def ft (x:Nt):Mt:=(x.1,x.2.1)
def bM (ns:List Nt) (o m:Int):List Mt:=(ns.filter fun x=>decide (x.2.2.1=o)&&decide (x.2.2.2=m)).map ft
theorem sW (ns:List Nt) (x:Nt) (o m:Int):bM (ns++[x]) o m=bM ns o m++(if x.2.2.1=o/\x.2.2.2=m then [ft x] else []):=by
 unfold bM;rw [List.filter_append,List.map_append];congr 1
 by_cases e:x.2.2.1=o/\x.2.2.2=m
 ·simp [e.1,e.2]
 ·rw [if_neg e]
  by_cases e1:x.2.2.1=o
  ·have e2:¬x.2.2.2=m:=fun z=>e ⟨e1,z⟩
   simp [e2]
  ·simp [e1]
def jm (H:Hp) (f:Addr) (ns:List Nt):Prop:=∃kvs,H f=some (.dT kvs) /\ ∀o m:Int,(bW kvs [Sum.inl o,Sum.inl m]=none/\bM ns o m=[]) \/ ∃l,bW kvs [Sum.inl o,Sum.inl m]=some (.ref l)/\oV H l (bM ns o m)
theorem jm.same {H H':Hp} {f:Addr} {ns:List Nt} (h:jm H f ns) (k:Same H H'):jm H' f ns:=by
 obtain ⟨kvs,e,q⟩:=h;refine ⟨kvs,k _ _ e,fun o m=> ?_⟩;rcases q o m with z|⟨l,e1,e2⟩
 ·exact .inl z
 ·exact .inr ⟨l,e1,e2.same k⟩
def pQ (K:PySem.W.Frag):Sp:=fun vs H Q _=>∃(t c a:Addr) (cs:List Int) (ns:List Nt),vs=[.ref t]/\RecAt H t c a cs ns/\fH cs ns /\ ∀(f:Addr) (H':Hp),H f=none->jm H' f ns->Same H H'->Q (.ref f) H'
theorem D_ {f:Addr} {fd:FuncData} (F:jX K "firsts_of" "firsts_of" cM f fd):cT P w K mg base jV 1 f fd ["record"] (pQ K):=by
 refine F.ok jA (fun vs H Q E h=> ?_) (fun cdv A outer s H vs Q E hr h=> ?_)
 ·obtain ⟨t,c,a,cs,ns,rfl,_⟩:=h
  rfl
 ·obtain ⟨t,c,a,cs,ns,rfl,R,ok,k⟩:=h
  have hu:=lR hr;obtain ⟨ht,hc,Nb,ha,dn⟩:=id R;have P_:Nb.length=ns.length:=by rw [dn.length,List.length_map]
  have nl:=ok.2.1
  refine ⟨_,(au (aU (i:=1) jA.nd rfl (Or.inl rfl) wW)
   (au (gM PassesOwn.never rfl (cN (K:=K) rfl (aL (aO (K:=K) rfl) (pv 0) ao (fun _ _=>rfl))) (bf (i:=2) jA.nd rfl (Or.inl rfl))
   (aF (dI (gB (K:=K) rfl (Hu hu (pv 1) (dh (gY (K:=K) rfl) (pv 2) (eY ao) eZ) (cY ak) ⟨rfl,rfl,rfl,rfl⟩) (aj (dh (gY (K:=K) rfl) (pv 2) eZ (eY ao)) ak)))))
   (aF (aW (pv 1))))), ?_⟩
  intro f hf;have s1:=aD (o:=HO.dT []) hf;refine ⟨_,rfl,_,_,_,_,rfl,rfl,cH.of (s1 _ _ ht),rfl,a,rfl,⟨_,aY.of (s1 _ _ ha)⟩, ?_⟩
  refine m9 (K:=K) (a:=a) (xs:=Nb) (fun i σ H2=>∃(x:Option V) (kvs:List (List Key×V)),σ=[some (.ref t),some (.ref f),x]/\Same H H2/\H2 f=some (.dT kvs)/\kvs.length<=i /\
   (∀o m:Int,(bW kvs [Sum.inl o,Sum.inl m]=none/\bM (ns.take i) o m=[]) \/ ∃l,bW kvs [Sum.inl o,Sum.inl m]=some (.ref l)/\oV H2 l (bM (ns.take i) o m)/\H l=none/\l≠f) /\
   (∀(o m o' m':Int) l,bW kvs [Sum.inl o,Sum.inl m]=some (.ref l)->bW kvs [Sum.inl o',Sum.inl m']=some (.ref l)->o=o'/\m=m'))
   ⟨none,[],rfl,s1,aA,Nat.zero_le _,fun o m=> .inl ⟨rfl,rfl⟩,fun o m o' m' l h=>by cases h⟩ (fun i σ H2 _ ⟨_,_,_,sm,_⟩=>aY.of (sm _ _ ha)) ?_ ?_
  ·rintro i v σ H2 hi ⟨x0,kvs,rfl,sm,hF,kl,hval,inj⟩
   obtain ⟨x,w,ex,rfl,hx⟩:=fW dn hi;have il:i<Nb.length:=(List.getElem?_eq_some_iff.mp hi).1;have hx2:=sm _ _ hx;have tk:ns.take (i+1)=ns.take i++[x]:=by rw [List.take_add_one,ex];rfl
   refine yp (fun v H3=>∃l vA,v = .ref l/\Same H H3/\(∀a xs,H2 a=some (HO.tup xs)->H3 a=some (HO.tup xs))/\H3 f=some (.dT vA)/\vA.length<=i+1/\bW vA [Sum.inl x.2.2.1,Sum.inl x.2.2.2]=some (.ref l) /\
    (∀o m:Int,(bW vA [Sum.inl o,Sum.inl m]=none/\bM (ns.take i) o m=[]) \/ ∃l,bW vA [Sum.inl o,Sum.inl m]=some (.ref l)/\oV H3 l (bM (ns.take i) o m)/\H l=none/\l≠f) /\
    (∀(o m o' m':Int) l,bW vA [Sum.inl o,Sum.inl m]=some (.ref l)->bW vA [Sum.inl o',Sum.inl m']=some (.ref l)->o=o'/\m=m')) (fun Q' kQ=> ?_) ?_
   ·refine ⟨_,rfl,f,rfl,.inr ⟨_,.inl hF⟩,_,rfl,_,rfl,_,_,rfl,cH.of hx2,u9 _ rfl,fun p1 hp1=> ?_⟩
    have c2:iH (nV x) (some 2) none=[.int x.2.2.1,.int x.2.2.2]:=Jr ..;rw [c2];have su:=aD (o:=HO.tup [V.int x.2.2.1,V.int x.2.2.2]) hp1;refine ⟨(by show 0<=sizeLine;decide),fun e he=> ?_⟩;have Km:=aD (o:=HO.lst []) he;have s12:=su.trans Km;refine ⟨kvs,[Sum.inl x.2.2.1,Sum.inl x.2.2.2],p1,s12 _ _ hF,rfl,Km _ _ aA,by rw [sizeLine_eq];omega,fun v hv=> ?_,fun hn=> ?_⟩
    ·rcases hval x.2.2.1 x.2.2.2 with z|⟨l,e1,e2,e3,e4⟩
     ·rw [z.1] at hv;cases hv
     ·rw [e1] at hv
      cases hv;refine kQ _ _ ⟨l,kvs,rfl,sm.trans s12,s12.tups,s12 _ _ hF,by omega,e1,fun o m=> ?_,inj⟩;rcases hval o m with z|⟨l',f1,f2,f3,f4⟩
      ·exact .inl z
      ·exact .inr ⟨l',f1,f2.same s12,f3,f4⟩
    ·have kF:Kp f (upd (upd H2 p1 (.tup [V.int x.2.2.1,V.int x.2.2.2])) e (.lst [])) (upd (upd (upd H2 p1 (.tup [V.int x.2.2.1,V.int x.2.2.2])) e (.lst [])) f (.dT (putK kvs [Sum.inl x.2.2.1,Sum.inl x.2.2.2] (.ref e)))):=Kp.set
     have nef:e≠f:=fun z=>by rw [←z] at hF;rw [su _ _ hF] at he;cases he
     have hFe:(upd (upd H2 p1 (.tup [V.int x.2.2.1,V.int x.2.2.2])) e (.lst [])) f=some (.dT kvs):=s12 _ _ hF;have he2:H2 e=none:=su.free he;have tF:∀a xs,(upd (upd H2 p1 (.tup [V.int x.2.2.1,V.int x.2.2.2])) e (.lst [])) a=some (HO.tup xs)->(upd (upd (upd H2 p1 (.tup [V.int x.2.2.1,V.int x.2.2.2])) e (.lst [])) f (.dT (putK kvs [Sum.inl x.2.2.1,Sum.inl x.2.2.2] (.ref e)))) a=some (HO.tup xs):=fun a xs h=>kF _ _ h (lO h hFe (by intro z;cases z))
     have neq:∀o m:Int,([Sum.inl o,Sum.inl m]:List Key)=[Sum.inl x.2.2.1,Sum.inl x.2.2.2]↔o=x.2.2.1/\m=x.2.2.2:=fun o m=>by
      constructor
      ·intro z;injection z with z1 z2;injection z2 with z2 _;exact ⟨Sum.inl.inj z1,Sum.inl.inj z2⟩
      ·rintro ⟨rfl,rfl⟩;rfl
     refine kQ _ _ ⟨e,_,rfl,fun b o eb=>kF _ _ ((sm.trans s12) _ _ eb) (aC eb hf),fun a xs h=>tF _ _ (s12.tups _ _ h),aA, ?_,by rw [jc,if_pos rfl],fun o m=> ?_,fun o m o' m' l h1 h2=> ?_⟩
     ·exact Nat.le_trans (dW ..) (by omega)
     ·rw [jc]
      by_cases q:o=x.2.2.1/\m=x.2.2.2
      ·rw [if_pos ((neq o m).mpr q)]
       obtain ⟨rfl,rfl⟩:=q;refine .inr ⟨e,rfl, ?_,sm.free he2,nef⟩;rcases hval x.2.2.1 x.2.2.2 with z|⟨l,e1,_⟩
       ·rw [z.2]
        exact ⟨[],kF _ _ aA nef,by simp [aG]⟩
       ·rw [e1] at hn;cases hn
      ·rw [if_neg fun z=>q ((neq o m).mp z)]
       rcases hval o m with z|⟨l',f1,f2,f3,f4⟩
       ·exact .inl z
       ·refine .inr ⟨l',f1, ?_,f3,f4⟩
        obtain ⟨ws,g1,g2⟩:=f2.same s12;exact ⟨ws,kF _ _ g1 f4,aG.keep tF _ (bI _ vL _) g2⟩
     ·rw [jc] at h1 h2
      have old:∀o m:Int,bW kvs [Sum.inl o,Sum.inl m]=some (V.ref e)->False:=fun o m h=>by
       rcases hval o m with z|⟨l',f1,⟨ws,g1,_⟩,f3,f4⟩
       ·rw [z.1] at h;cases h
       ·rw [f1] at h
        cases h;rw [he2] at g1;cases g1
      by_cases q:o=x.2.2.1/\m=x.2.2.2
      ·rw [if_pos ((neq o m).mpr q)] at h1
       cases h1
       by_cases q':o'=x.2.2.1/\m'=x.2.2.2
       ·exact ⟨q.1.trans q'.1.symm,q.2.trans q'.2.symm⟩
       ·rw [if_neg fun z=>q' ((neq o' m').mp z)] at h2
        exact (old _ _ h2).elim
      ·rw [if_neg fun z=>q ((neq o m).mp z)] at h1
       by_cases q':o'=x.2.2.1/\m'=x.2.2.2
       ·rw [if_pos ((neq o' m').mpr q')] at h2
        cases h2;exact (old _ _ h1).elim
       ·rw [if_neg fun z=>q' ((neq o' m').mp z)] at h2
        exact inj _ _ _ _ _ h1 h2
   ·rintro v H3 ⟨l,vA,rfl,sm3,tp3,Uj,kl3,hkey,Nj,TY⟩
    obtain ⟨z0,PL,hl0,V0⟩:∃z0:True,oV H3 l (bM (ns.take i) x.2.2.1 x.2.2.2)/\H l=none/\l≠f:=by
     rcases Nj x.2.2.1 x.2.2.2 with z|⟨l',f1,f2,f3,f4⟩
     ·rw [z.1] at hkey;cases hkey
     ·rw [f1] at hkey
      cases hkey;exact ⟨trivial,f2,f3,f4⟩
    obtain ⟨ws,hl3,dl3⟩:=id PL;refine ⟨.inl ⟨rfl,_,aY.of hl3⟩,_,rfl,_,rfl,_,_,rfl,cH.of (tp3 _ _ hx2),qw _ rfl,fun p2 hp2=> ?_⟩;have c1:iH (nV x) none (some 2)=[.int x.1,.int x.2.1]:=CP ..;rw [c1];have sp:=aD (o:=HO.tup [V.int x.1,V.int x.2.1]) hp2
    have wl:ws.length<=ns.length:=by
     rw [dl3.length,List.length_map];unfold bM;rw [List.length_map];have a1:=List.length_filter_le (fun y:Nt=>decide (y.2.2.1=x.2.2.1)&&decide (y.2.2.2=x.2.2.2)) (ns.take i);have a2:(ns.take i).length<=ns.length:=by rw [List.length_take];omega
     omega
    refine ⟨l,ws,_,rfl,rfl,sp _ _ hl3,by rw [sizeLine_eq];omega, ?_⟩;have kL:Kp l (upd H3 p2 (.tup [V.int x.1,V.int x.2.1])) (upd (upd H3 p2 (.tup [V.int x.1,V.int x.2.1])) l (.lst (ws++[V.ref p2]))):=Kp.set;have tL:=kL.tups (sp _ _ hl3);refine ⟨_,vA,rfl,fun b o eb=>kL _ _ (sp _ _ (sm3 _ _ eb)) (aC eb hl0),kL _ _ (sp _ _ Uj) V0.symm,kl3,fun o m=> ?_,TY⟩;rw [tk,sW]
    by_cases q:x.2.2.1=o/\x.2.2.2=m
    ·obtain ⟨rfl,rfl⟩:=q
     rw [if_pos ⟨rfl,rfl⟩];refine .inr ⟨l,hkey,⟨_,aA, ?_⟩,hl0,V0⟩;rw [List.map_append];exact aG.append (aG.keep (fun a xs h=>tL _ _ (sp.tups _ _ h)) _ (bI _ vL _) dl3) (Nu (Mf (x:=ft x) (tL _ _ aA)))
    ·rw [if_neg q,List.append_nil]
     rcases Nj o m with z|⟨l',f1,f2,f3,f4⟩
     ·exact .inl z
     ·have nll:l'≠l:=fun z=>by
       subst z;obtain ⟨e1,e2⟩:=TY _ _ _ _ _ f1 hkey;exact q ⟨e1.symm,e2.symm⟩
      obtain ⟨us,g1,g2⟩:=f2;exact .inr ⟨l',f1,⟨us,kL _ _ (sp _ _ g1) nll,aG.keep (fun a xs h=>tL _ _ (sp.tups _ _ h)) _ (bI _ vL _) g2⟩,f3,f4⟩
  ·rintro σ H2 ⟨x0,kvs,rfl,sm,hF,kl,hval,inj⟩
   rw [P_,List.take_length] at hval;refine ⟨_,rfl,k f H2 hf ⟨kvs,hF,fun o m=> ?_⟩ sm⟩;rcases hval o m with z|⟨l,f1,f2,_⟩
   ·exact .inl z
   ·exact .inr ⟨l,f1,f2⟩
def isFree (cs:List Int) (ns:List Nt) (ds:List Int) (h:Int):Bool:= !decide (gI ds h=gI cs h)&&(bM ns h (gI ds h)).all fun q=>decide (q.2<gI ds q.1)
def Aw (K:PySem.W.Frag) (H:Hp) (d:Addr) (ds:List Int):Prop:=aY K H d (ds.map V.int)\/cH K H d (ds.map V.int)
theorem Aw.same {K:PySem.W.Frag} {H H':Hp} {d:Addr} {ds:List Int} (h:Aw K H d ds) (k:Same H H'):Aw K H' d ds:=by
 rcases h with h|h
 ·exact .inl (k.seq h)
 ·refine .inr ?_
  rcases h with (h|⟨o,h⟩)|h
  ·exact .inl (.inl (k _ _ h))
  ·exact .inl (.inr ⟨o,k _ _ h⟩)
  ·exact .inr h
theorem zN {K:PySem.W.Frag} {H:Hp} {d:Addr} {ds:List Int} {h:Int} {Q:VK} (D:Aw K H d ds) (h0:0<=h) (h1:h<ds.length) (q:Q (.int (gI ds h)) H):Yc K (.ref d) (.int h) H Q:=by
 rcases D with D|D
 ·exact .inl ⟨d,_,h,_,rfl,rfl,D,dX h0 h1,q⟩
 ·exact .inr (.inl ⟨d,_,h,_,rfl,rfl,D,dX h0 h1,q⟩)
def GF (K:PySem.W.Frag):Sp:=fun vs H Q _=>∃(d t:Addr) (ds:List Int) (h k:Int),vs=[.ref d,.ref t]/\Aw K H d ds/\H t=some (.tup [.int h,.int k])/\0<=h/\h<ds.length/\Q (.bl (decide (k<gI ds h))) H
theorem PN {f:Addr} {fd:FuncData} (F:jX K "has" "has" mV f fd):cT P w K mg base jV 1 f fd ["done","touch"] (GF K):=by
 refine F.ok Ow (fun vs H Q E h=> ?_) (fun cdv A outer s H vs Q E hr h=> ?_)
 ·obtain ⟨d,t,ds,h,k,rfl,_⟩:=h
  rfl
 ·obtain ⟨d,t,ds,h,k,rfl,hd,ht,h0,h1,q⟩:=h
  refine ⟨_,(aF (aW (cZ j9 (aL (aO (K:=K) rfl) (pv 1) ao (fun _ _=>rfl)) (aL (pB (K:=K) rfl) (pv 0) (aL (aO (K:=K) rfl) (pv 1) ao (fun _ _=>rfl)) (fun _ _=>rfl)) (aV _)))), ?_⟩;exact ⟨_,rfl,_,_,_,_,rfl,rfl,cH.of ht,rfl,_,rfl,_,rfl,_,_,_,_,rfl,rfl,cH.of ht,rfl,zN hd h0 h1 ⟨_,_,rfl,rfl,q⟩⟩
def zG (K:PySem.W.Frag):Sp:=fun vs H Q _=>∃(c f d:Addr) (cs ds:List Int) (ns:List Nt) (h:Int),vs=[.ref c,.ref f,.ref d,.int h]/\H c=some (.lst (cs.map V.int))/\jm H f ns/\Aw K H d ds/\fH cs ns/\ds.length=cs.length/\0<=h/\h<cs.length /\ ∀H',Same H H'->Q (.bl (isFree cs ns ds h)) H'
theorem zX {f:Addr} {fd:FuncData} (F:jX K "is_free" "is_free" d7 f fd) (Vv:FnAt P w K mg base 1 "has" ["done","touch"] (GF K)) (Bt:o7 mg):cT P w K mg base jV 2 f fd ["counts","firsts","done","hand"] (zG K):=by
 refine F.ok zL (fun vs H Q E h=> ?_) (fun cdv A outer s H vs Q E hr h=> ?_)
 ·obtain ⟨c,f,d,cs,ds,ns,h,rfl,_⟩:=h
  rfl
 ·obtain ⟨c,f,d,cs,ds,ns,h,rfl,hc,FA,hd,ok,dl,h0,h1,k⟩:=h
  have hu:=lR hr;have dN:=hr.units
  refine ⟨_,(au (b_ (aX jP (aL (pB (K:=K) rfl) (pv 2) (pv 3) (fun _ _=>rfl)) (aL (aJ (K:=K) rfl) (pv 0) (pv 3) (fun _ _=>rfl)) (aV _)) (aF (aW gj)) bh)
   (aF (aW (aN (dB (K:=K) rfl rfl) (by rfl) Bt.yJ rA (aj (eF rfl (N:=["first","done"]) (own:=["first"]) (caps:=[2]) (aR.of (by kernel_rfl)) (cN (K:=K) rfl (wY hu (pv 1) (jG (aj (pv 3) (aj (aL (pB (K:=K) rfl) (pv 2) (pv 3) (fun _ _=>rfl)) ak))) (cY ak) ⟨rfl,rfl,rfl,rfl⟩)) (fun _ _ _ _=>(bf (i:=0) (show List.Nodup (["first","done"]:List Str) by decide +kernel) rfl (Or.inl rfl))) (fun _ _ _ _=>eE) (fun _ _ _ _=>(aZ Vv (hr.mono (by decide)) (by rfl) (aj (pv 1) (aj (pv 0) ak))))) ak))))), ?_⟩
  refine ⟨_,rfl,_,rfl,zN hd h0 (by omega) ⟨_,rfl,_,rfl,_,_,_,_,rfl,rfl,aY.of hc,dX h0 h1,rfl,_,rfl, ?_⟩⟩
  by_cases e:gI ds h=gI cs h
  ·rw [show decide (V.int (gI ds h)=V.int (gI cs h))=true by simp [e]]
   refine iB ?_;have:isFree cs ns ds h=false:=by simp [isFree,e]
   rw [←this];exact k H (Same.refl _)
  ·rw [show decide (V.int (gI ds h)=V.int (gI cs h))=false by simp [e]]
   refine dj ?_;obtain ⟨kvs,hF,hval⟩:=FA;refine ⟨_,rfl,f,rfl,.inr ⟨_,.inl hF⟩,_,rfl,_,rfl,_,rfl,zN hd h0 (by omega) ⟨(by show 2<=sizeLine;decide),fun t ht=> ?_⟩⟩;have s1:=aD (o:=HO.tup [V.int h,V.int (gI ds h)]) ht;refine ⟨(by show 0<=sizeLine;decide),fun el hel=> ?_⟩;have s2:=aD (o:=HO.lst []) hel;have s12:=s1.trans s2;refine ⟨_,gK.t (k:=[Sum.inl h,Sum.inl (gI ds h)]) (s12 _ _ hF) (s2 _ _ aA), ?_⟩
   obtain ⟨l,el',PL⟩:∃l,(bW kvs [Sum.inl h,Sum.inl (gI ds h)]).getD (V.ref el) = .ref l/\oV (upd (upd H t (.tup [V.int h,V.int (gI ds h)])) el (.lst [])) l (bM ns h (gI ds h)):=by
    rcases hval h (gI ds h) with z|⟨l,e1,e2⟩
    ·exact ⟨el,by rw [z.1];rfl,by rw [z.2];exact ⟨[],aA,by simp [aG]⟩⟩
    ·exact ⟨l,by rw [e1];rfl,e2.same s12⟩
   rw [el'];obtain ⟨vs,hl,dv⟩:=id PL;have vl:vs.length=(bM ns h (gI ds h)).length:=by rw [dv.length,List.length_map]
   have fl:(bM ns h (gI ds h)).length<=ns.length:=by unfold bM;rw [List.length_map];exact List.length_filter_le ..
   have nl:=ok.2.1;refine ⟨l,rfl,⟨_,aY.of hl⟩,fun D hD=> ?_⟩;refine ji (K:=K) (fun i=>((bM ns h (gI ds h))[i]?).map fun q=>V.bl (decide (q.2<gI ds q.1))) hD (aY.of hl) (by omega) (fun i v H3 G F hi s3 kG kF=> ?_) (fun H3 s3 e3=> ?_)
   ·obtain ⟨q,u,eq,rfl,hq⟩:=KY dv hi
    have qm:∃x∈ns,q=ft x:=by
     obtain ⟨x,hx,e⟩:=List.mem_map.mp (List.mem_of_getElem? eq);exact ⟨x,(List.mem_filter.mp hx).1,e.symm⟩
    obtain ⟨x,xm,rfl⟩:=qm;obtain ⟨⟨a0,a1⟩,_⟩:=ok.2.2 x xm;refine ⟨_,rfl,_,rfl,d,u,ds,x.1,x.2.1,rfl,(hd.same s12).same s3,s3 _ _ hq,a0,by omega,kF _ H3 (Same.refl _) ?_⟩;rw [eq];rfl
   ·rw [vl,pG] at e3
    refine ⟨D,(bM ns h (gI ds h)).map (fun q=>decide (q.2<gI ds q.1)),rfl,aY.of (by rw [e3,List.map_map];rfl), ?_⟩
    have:isFree cs ns ds h=((bM ns h (gI ds h)).map (fun q=>decide (q.2<gI ds q.1))).all id:=by
     unfold isFree;rw [List.all_map];simp [e]
    rw [←this];exact k H3 (s12.trans s3)
def iQ (cs:List Int) (ns:List Nt) (ds:List Int):List Int:=(List.range cs.length).filterMap fun (i:Nat)=>if isFree cs ns ds (i:Int) then some (i:Int) else none
theorem Fi (cs:List Int) (ns:List Nt) (ds:List Int):(List.range cs.length).filterMap (fun (i:Nat)=>if isFree cs ns ds (i:Int) then some (V.int (0+(i:Int))) else none)=(iQ cs ns ds).map V.int:=by
 unfold iQ;rw [List.map_filterMap];refine kj _ trivial fun i _=> ?_
 by_cases q:isFree cs ns ds (i:Int)=true
 ·rw [if_pos q,if_pos q];simp
 ·rw [if_neg q,if_neg q];rfl
theorem nW {cs:List Int} {ns:List Nt} {ds:List Int} {h:Int}:h∈iQ cs ns ds↔0<=h/\h<cs.length/\isFree cs ns ds h=true:=by
 unfold iQ;rw [List.mem_filterMap];constructor
 ·rintro ⟨i,hi,e⟩
  have hi':i<cs.length:=by simpa using hi
  by_cases q:isFree cs ns ds (i:Int)=true
  ·rw [if_pos q] at e
   cases e;exact ⟨by omega,by omega,q⟩
  ·rw [if_neg q] at e
   cases e
 ·rintro ⟨h0,h1,q⟩
  refine ⟨h.toNat,by simp;omega, ?_⟩;rw [show ((h.toNat:Nat):Int)=h by omega,if_pos q]
def uW (K:PySem.W.Frag):Sp:=fun vs H Q _=>∃(c f d:Addr) (cs ds:List Int) (ns:List Nt),vs=[.ref c,.ref f,.ref d]/\H c=some (.lst (cs.map V.int))/\jm H f ns/\Aw K H d ds/\fH cs ns/\ds.length=cs.length /\ ∀(p:Addr) (H':Hp),H p=none->H' p=some (.lst ((iQ cs ns ds).map V.int))->Same H H'->Q (.ref p) H'
theorem sS {f:Addr} {fd:FuncData} (F:jX K "free_hands" "free_hands" cB f fd) (FZ:FnAt P w K mg base 2 "is_free" ["counts","firsts","done","hand"] (zG K)) (Bt:o7 mg):cT P w K mg base jV 3 f fd ["counts","firsts","done"] (uW K):=by
 refine F.ok sI (fun vs H Q E h=> ?_) (fun cdv A outer s H vs Q E hr h=> ?_)
 ·obtain ⟨c,f,d,cs,ds,ns,rfl,_⟩:=h
  rfl
 ·obtain ⟨c,f,d,cs,ds,ns,rfl,hc,FA,hd,ok,dl,k⟩:=h
  have c8:=ok.1.1;refine ⟨_,(aF (aW (eF rfl (N:=["hand","counts","firsts","done"]) (own:=["hand"]) (caps:=[0,1,2]) (aR.of (by kernel_rfl)) (cg (by rfl) Bt.dJ (aj (aN (aH (K:=K) rfl) (by rfl) Bt.cj bH (aj (pv 0) ak)) ak)) (fun _ _ _ _=>(bf (i:=0) (show List.Nodup (["hand","counts","firsts","done"]:List Str) by decide +kernel) rfl (Or.inl rfl))) (fun _ _ _ _=>(jE (dU (aZ FZ (hr.mono (by decide)) (by rfl) (aj (pv 1) (aj (pv 2) (aj (pv 3) (aj (pv 0) ak)))))))) (fun _ _ _ _=>(pv 0))))), ?_⟩;refine ⟨_,rfl,c,_,rfl,.inl (aY.of hc),_,rfl,by rw [List.length_map];omega,by rw [List.length_map];omega,fun D hD=> ?_⟩;have Em:(((cs.map V.int).length:Nat):Int).toNat=cs.length:=by simp
  rw [Em];refine jh (fun (i:Nat)=>if isFree cs ns ds (i:Int) then some (V.int (0+(i:Int))) else none) hD (by omega) (fun j H3 G F hj s3 kG kF=> ?_) (fun H3 s3 e3=> ?_)
  ·refine ⟨_,rfl,_,rfl,_,rfl,_,rfl,c,f,d,cs,ds,ns,0+(j:Int),rfl,s3 _ _ hc,FA.same s3,hd.same s3,ok,dl,by omega,by omega,fun H4 s4=>⟨_,rfl, ?_⟩⟩
   have ej:(0+(j:Int))=(j:Int):=by omega
   rw [ej]
   by_cases q:isFree cs ns ds (j:Int)=true
   ·rw [q]
    refine iB ⟨_,rfl,kF _ H4 s4 ?_⟩;rw [if_pos q,ej]
   ·have q':isFree cs ns ds (j:Int)=false:=by simpa using q
    rw [q'];exact dj (kG H4 s4 (if_neg q))
  ·rw [Fi] at e3
   exact k D H3 hD e3 s3
def stp (ds:List Int) (h:Int):List Int:=ds.set h.toNat (gI ds h+1)
def runK (cs:List Int) (ns:List Nt):List Int->List Int->Bool
 | [],_=>true
 | h::os,ds=>if isFree cs ns ds h then runK cs ns os (stp ds h) else false
def zs (cs:List Int):List Int:=List.replicate cs.length 0
def inR (cs os:List Int):Prop:=∀h∈os,0<=h/\h<cs.length
def pJ (cs os:List Int):Prop:=inR cs os/\os.length<=2400 /\ ∀h:Int,0<=h->h<cs.length->(os.count h:Int)=gI cs h
theorem N5 (n:Nat):(List.range n).filterMap (fun _=>some (V.int 0))=(List.replicate n (0:Int)).map V.int:=by rw [yh,List.map_replicate]
def Fg (cs:List Int) (ns:List Nt):List Int->List Int->Prop
 | [],ds=>ds=cs
 | h::os,ds=>(iQ cs ns ds).head?=some h/\Fg cs ns os (stp ds h)
theorem oO {cs:List Int} {ns:List Nt} {os2:List Int}:∀{os ds:List Int},(∀i h,os[i]? = some h->(iQ cs ns ((os.take i).foldl stp ds)).head?=some h)->Fg cs ns os2 (os.foldl stp ds)->Fg cs ns (os++os2) ds
 | [],ds,_,h=>h
 | x::os,ds,h1,h2=>by
   refine ⟨by simpa using h1 0 x rfl,oO (fun i h e=> ?_) h2⟩;have:=h1 (i+1) h (by simpa using e);simpa using this
theorem ur {cs:List Int} {ns:List Nt} {ds:List Int} {h:Int} (d:iD cs ds) (h0:0<=h) (h1:h<cs.length) (f:isFree cs ns ds h=true):gI ds h<gI cs h:=by
 unfold isFree at f;simp only [Bool.and_eq_true,Bool.not_eq_true',decide_eq_false_iff_not] at f;have:=d.2 h h0 h1;omega
theorem Oo {cs:List Int} {ns:List Nt} {ds:List Int} {h:Int} (d:iD cs ds) (h0:0<=h) (h1:h<cs.length) (f:isFree cs ns ds h=true):iD cs (stp ds h):=by
 have lt:=ur d h0 h1 f;have:=d.2 h h0 h1;refine ⟨by simp [stp,d.1],fun i i0 i1=> ?_⟩;unfold stp;rw [vO h0 (by rw [d.1];exact h1) i0]
 by_cases e:i=h
 ·subst e;rw [if_pos rfl];omega
 ·rw [if_neg e];exact d.2 i i0 i1
theorem Kg {cs ds:List Int} {h:Int} (d:iD cs ds) (h0:0<=h) (h1:h<cs.length):(stp ds h).sum=ds.sum+1:=by
 have hl:h.toNat<ds.length:=by rw [d.1];omega
 have e:ds[h.toNat]? = some (gI ds h):=by simp [gI,hl]
 unfold stp;rw [sum_set e];omega
theorem RD {cs:List Int} (h:yQ cs):iD cs (zs cs):=by
 refine ⟨by simp [zs],fun i i0 i1=> ?_⟩;have:gI (zs cs) i=0:=by unfold gI zs;rw [List.getElem?_replicate];split<;>rfl
 rw [this];exact ⟨Int.le_refl _,(h.gI i).1⟩
def Stuck (cs:List Int) (ns:List Nt):Prop:=∃ds,iD cs ds/\ds≠cs/\iQ cs ns ds=[]
def uX (K:PySem.W.Frag):Sp:=fun vs H Q _=>∃(t c a:Addr) (cs:List Int) (ns:List Nt),vs=[.ref t]/\RecAt H t c a cs ns/\fH cs ns /\
 (∀H',Stuck cs ns->Same H H'->Q .non H') /\ ∀(p:Addr) (os:List Int) (H':Hp),H p=none->H' p=some (.lst (os.map V.int))->Fg cs ns os (zs cs)->inR cs os->os.length<=2400->Same H H'->Q (.ref p) H'
theorem qy {f:Addr} {fd:FuncData} (F:jX K "first_order" "first_order" bR f fd) (eX:FnAt P w K mg base 4 "check_notes" ["record"] (j5 K)) (yP:FnAt P w K mg base 1 "firsts_of" ["record"] (pQ K)) (wj:FnAt P w K mg base 3 "free_hands" ["counts","firsts","done"] (uW K)) (Bt:o7 mg):cT P w K mg base jV 5 f fd ["record"] (uX K):=by
 refine F.ok dR (fun vs H Q E h=> ?_) (fun cdv A outer s H vs Q E hr h=> ?_)
 ·obtain ⟨t,c,a,cs,ns,rfl,_⟩:=h
  rfl
 ·obtain ⟨t,c,a,cs,ns,rfl,R,ok,kN,k⟩:=h
  have dN:=hr.units;have c8:=ok.1.1;have hsum:=zq ok.1.2
  refine ⟨_,(au (dI (aZ eX (hr.mono (by decide)) (by rfl) (aj (pv 0) ak)))
   (au (aU (i:=1) dR.nd rfl (Or.inl rfl) (aZ yP (hr.mono (by decide)) (by rfl) (aj (pv 0) ak)))
   (au (jF (i:=2) rfl dR.nd rfl (Or.inl rfl) (N:=["count"]) (own:=["count"]) (caps:=[]) (aR.of (by kernel_rfl)) (cN (K:=K) rfl (aL (aO (K:=K) rfl) (pv 0) ao (fun _ _=>rfl))) (fun _ _ _ _=>(bf (i:=0) (show List.Nodup (["count"]:List Str) by decide +kernel) rfl (Or.inl rfl))) (fun _ _ _ _=>eE) (fun _ _ _ _=>ao))
   (au (aU (i:=3) dR.nd rfl (Or.inl rfl) (cY ak))
   (au (wV PassesOwn.never (aX (mX (K:=K) rfl dN) (pv 2) (aL (aO (K:=K) rfl) (pv 0) ao (fun _ _=>rfl)) (aV _)) (au (aU (i:=4) dR.nd rfl (Or.inl rfl) (aZ wj (hr.mono (by decide)) (by rfl) (aj (aL (aO (K:=K) rfl) (pv 0) ao (fun _ _=>rfl)) (aj (pv 1) (aj (pv 2) ak)))))
   (au (b_ (gA (tR (K:=K) rfl (pv 4))) (aF (aW gO)) bh)
   (au (dI (gB (K:=K) rfl (pv 3) (aj (aL (aJ (K:=K) rfl) (pv 4) ao (fun _ _=>rfl)) ak)))
   (aF (KR (pv 2) (aL (aJ (K:=K) rfl) (pv 4) ao (fun _ _=>rfl)) (zT (K:=K) rfl) ao Qq set_list))))))
   (aF (aW (pv 3)))))))), ?_⟩
  refine ⟨_,rfl,t,c,a,cs,ns,rfl,R,ok,fun H1 s1=> ?_⟩;refine ⟨_,rfl,t,c,a,cs,ns,rfl,R.same s1,ok,fun f H3 hf FA s3=> ?_⟩;have zM:=s1.trans s3;have R3:=R.same zM;refine ⟨_,rfl,_,_,_,_,rfl,rfl,cH.of R3.1,rfl,c,rfl,⟨_,aY.of R3.2.1⟩,fun p hp=> ?_⟩;refine ji (K:=K) (fun i=>some (.int 0)) hp (aY.of R3.2.1) (by rw [List.length_map];omega) (fun i v H4 G F hi s4 kG kF=>kF _ H4 (Same.refl _) rfl) (fun H4 s4 e4=> ?_);rw [List.length_map,N5] at e4;refine ⟨(by show 0<=sizeLine;decide),fun o ho=> ?_⟩;have s5:=aD (o:=HO.lst []) ho;have npo:p≠o:=aC e4 ho;have ho3:H3 o=none:=s4.free ho
  refine ⟨fun m σ H6=>∃(ds os:List Int) (x:Option V),σ=[some (.ref t),some (.ref f),some (.ref p),some (.ref o),x]/\H6 p=some (.lst (ds.map V.int))/\H6 o=some (.lst (os.map V.int))/\iD cs ds/\inR cs os/\Same H3 H6/\os.foldl stp (zs cs)=ds/\(∀i h,os[i]? = some h->(iQ cs ns ((os.take i).foldl stp (zs cs))).head?=some h)/\(os.length:Int)=ds.sum/\m=(cs.sum - ds.sum).toNat,
   ⟨_,zs cs,[],none,rfl,s5 _ _ e4,aA,RD ok.1,fun h hh=>(by cases hh),s4.trans s5,rfl,fun i h e=>(by cases e), ?_,rfl⟩, ?_⟩
  ·have:(zs cs).sum=0:=by
    unfold zs;generalize cs.length=n
    induction n with
    | zero=>rfl
    | succ n ih=>rw [List.replicate_succ,List.sum_cons,ih];rfl
   rw [this];rfl
  rintro m σ H6 ⟨ds,os,x,rfl,hp6,ho6,QW,ir,s6,fold,heads,aeM,rfl⟩;have R6:=R3.same s6;refine ⟨_,rfl,_,rfl,_,_,_,_,rfl,rfl,cH.of R6.1,rfl,_,_,kI hp6,kI R6.2.1,shaped_ints _,shaped_ints _,_,rfl, ?_⟩;rw [if_pos rfl,fY PyData.int vR];have agm:=QW.sum
  by_cases e0:ds=cs
  ·rw [decide_eq_true e0]
   refine dj ?_;refine ⟨_,rfl,k o os H6 (zM.free ho3) ho6 ?_ ir (by omega) (zM.trans s6)⟩;have:=oO (os2:=[]) heads (by rw [fold];exact e0);simpa using this
  rw [decide_eq_false e0];refine iB ?_;refine ⟨fun σ' H'=>∃m',m'<(cs.sum - ds.sum).toNat /\ ∃(ds os:List Int) (x:Option V),σ'=[some (.ref t),some (.ref f),some (.ref p),some (.ref o),x]/\H' p=some (.lst (ds.map V.int))/\H' o=some (.lst (os.map V.int))/\iD cs ds/\inR cs os/\Same H3 H'/\os.foldl stp (zs cs)=ds/\(∀i h,os[i]? = some h->(iQ cs ns ((os.take i).foldl stp (zs cs))).head?=some h)/\(os.length:Int)=ds.sum/\m'=(cs.sum - ds.sum).toNat,fun _ _ h=>h, ?_⟩;refine ⟨_,rfl,_,_,_,_,rfl,rfl,cH.of R6.1,rfl,_,rfl,_,rfl,c,f,p,cs,ds,ns,rfl,R6.2.1,FA.same s6,.inl (aY.of hp6),ok,QW.1,fun q H7 hq Wk s7=> ?_⟩;have s67:=s6.trans s7;refine ⟨_,rfl,_,.inl ⟨_,aY.of Wk,rfl⟩, ?_⟩;cases fr:iQ cs ns ds with
  | nil=>
    refine iB ?_;exact kN H7 ⟨ds,QW,e0,fr⟩ (zM.trans s67)
  | cons h fr'=>
    refine dj ?_;rw [fr] at Wk;have hm:h∈iQ cs ns ds:=by rw [fr];simp
    obtain ⟨h0,h1,hfree⟩:=nW.mp hm;have ho7:=s7 _ _ ho6;have Ua:=s7 _ _ hp6;have lt:=ur QW h0 h1 hfree;refine ⟨_,rfl,.inl ⟨rfl,_,aY.of ho7⟩,_,rfl,_,_,_,_,rfl,rfl,aY.of Wk,fD (j:=0) (v:=V.int h) rfl,o,_,_,rfl,rfl,ho7,by rw [List.length_map,sizeLine_eq];omega, ?_⟩;have k8:Kp o H7 (upd H7 o (.lst (os.map V.int++[V.int h]))):=Kp.set;have nqo:q≠o:=fun z=>by rw [←z] at ho6;rw [ho6] at hq;cases hq
    have hp8:=k8 _ _ Ua npo;have hq8:=k8 _ _ Wk nqo;have gl:h.toNat<ds.length:=by rw [QW.1];omega
    have eg:ds[h.toNat]=gI ds h:=by simp [gI,gl]
    refine ⟨_,rfl,_,rfl,_,_,_,_,rfl,rfl,aY.of hq8,fD (j:=0) (v:=V.int h) rfl,_,_,_,_,rfl,rfl,aY.of hp8,h0,(by rw [List.getElem?_map];simp [gl];rfl),_,_,rfl,rfl,_,_,_,_,rfl,rfl,hp8,vG h0 (by rw [List.length_map];omega), ?_⟩;have k9:Kp p (upd H7 o (.lst (os.map V.int++[V.int h]))) (upd (upd H7 o (.lst (os.map V.int++[V.int h]))) p (.lst ((ds.map V.int).set h.toNat (V.int (ds[h.toNat]+1))))):=Kp.set;have ss:=Kg QW h0 h1;have ok':=Oo QW h0 h1 hfree;have adL:=ok'.sum;refine ⟨_, ?_,stp ds h,os++[h],_,rfl, ?_, ?_,ok',fun z hz=> ?_,fun b u e=>k9 _ _ (k8 _ _ (s67 _ _ e) (aC e ho3)) (aC e hp),by rw [List.foldl_append,fold];rfl,fun i z e=> ?_,by rw [List.length_append,ss];simp;omega,rfl⟩
    ·omega
    ·show (upd (upd H7 o (.lst (os.map V.int++[V.int h]))) p (.lst ((ds.map V.int).set h.toNat (V.int (ds[h.toNat]+1))))) p=_
     rw [aA,eg,stp,List.map_set]
    ·refine (k9 _ _ aA npo.symm).trans ?_
     simp
    ·rcases List.mem_append.mp hz with hz|hz
     ·exact ir z hz
     ·have:z=h:=by simpa using hz
      subst this;exact ⟨h0,h1⟩
    ·by_cases hi:i<os.length
     ·rw [List.getElem?_append_left hi] at e
      rw [List.take_append_of_le_length (by omega)];exact heads i z e
     ·have hi2:i=os.length:=by
       have:=(List.getElem?_eq_some_iff.mp e).1;simp at this;omega
      subst hi2;rw [List.take_append_of_le_length (Nat.le_refl _),List.take_length,fold,fr];simpa using e
theorem qC:∀(n:Nat) (l:List Nat),l.Nodup->(∀x∈l,x<n)->l.length<=n
 | 0,l,_,h=>by
   cases l with
   | nil=>exact Nat.le_refl _
   | cons x l=>exact absurd (h x (by simp)) (Nat.not_lt_zero _)
 | n+1,l,nd,h=>by
   by_cases m:n∈l
   ·have:=qC n (l.erase n) (nd.erase n) fun x hx=>by
     have:=(nd.mem_erase_iff).mp hx;have:=h x this.2;omega
    rw [List.length_erase_of_mem m] at this;omega
   ·have:=qC n l nd fun x hx=>by
     have:=h x hx;have:x≠n:=fun z=>m (z▸hx);omega
    omega
def pA (x y:Nt):Prop:=x.2.2.1=y.1/\x.2.2.2<=y.2.1
inductive Df (ns:List Nt) (h k:Int):List Nt->Int->Int->Prop
 | nil:Df ns h k [] h k
 | snoc {c:List Nt} {g m:Int} {x:Nt}:Df ns h k c g m->x∈ns->x.1=g->m<=x.2.1->Df ns h k (c++[x]) x.2.2.1 x.2.2.2
structure Best (ns:List Nt) (h k:Int) (n:Nat) (D:List (Int×Int×List Nt)):Prop where
 nd:(D.map (·.1)).Nodup
 ch:∀e∈D,Df ns h k e.2.2 e.1 e.2.1/\e.2.2.length=n
 le:∀c g m,Df ns h k c g m->c.length=n -> ∃e∈D,e.1=g/\e.2.1<=m
def cI (D:List (Int×Int×List Nt)) (g:Int):Option (Int×List Nt):=(D.find? fun e=>decide (e.1=g)).map (·.2)
theorem jg {D:List (Int×Int×List Nt)} {g:Int} {r:Int×List Nt} (h:cI D g=some r):(g,r)∈D:=by
 unfold cI at h;cases e:D.find? (fun e=>decide (e.1=g)) with
 | none=>rw [e] at h;cases h
 | some q=>
   rw [e] at h;cases h;have h1:=List.find?_some e;have h2:=List.mem_of_find?_eq_some e;have:q.1=g:=of_decide_eq_true h1;rw [←this];exact h2
theorem mj {D:List (Int×Int×List Nt)} {g:Int} (h:cI D g=none):∀e∈D,e.1≠g:=by
 unfold cI at h;cases e:D.find? (fun e=>decide (e.1=g)) with
 | some q=>rw [e] at h;cases h
 | none=>
   intro q hq z;have:=List.find?_eq_none.mp e q hq;exact this (decide_eq_true z)
theorem qI {D:List (Int×Int×List Nt)} (nd:(D.map (·.1)).Nodup) {e:Int×Int×List Nt} (h:e∈D):cI D e.1=some e.2:=by
 induction D with
 | nil=>cases h
 | cons q D ih=>
   rw [List.map_cons,List.nodup_cons] at nd;unfold cI;rw [List.find?_cons];rcases List.mem_cons.mp h with rfl|h
   ·simp
   ·have:¬q.1=e.1:=fun z=>nd.1 (by rw [z];exact List.mem_map.mpr ⟨e,h,rfl⟩)
    simp only [this,decide_false];exact ih nd.2 h
def put3 (D:List (Int×Int×List Nt)) (g:Int) (r:Int×List Nt):List (Int×Int×List Nt):=if (cI D g).isSome then D.map fun e=>if e.1=g then (g,r) else e else D++[(g,r)]
theorem DQ (D:List (Int×Int×List Nt)) (g:Int) (r:Int×List Nt):(put3 D g r).map (·.1)=if (cI D g).isSome then D.map (·.1) else D.map (·.1)++[g]:=by
 unfold put3;split
 ·rw [List.map_map]
  refine List.map_congr_left fun e _=> ?_;show (if e.1=g then (g,r) else e).1=e.1;split
  ·rename_i z;exact z.symm
  ·rfl
 ·rw [List.map_append];rfl
theorem KQ {D:List (Int×Int×List Nt)} (nd:(D.map (·.1)).Nodup) (g:Int) (r:Int×List Nt):((put3 D g r).map (·.1)).Nodup:=by
 rw [DQ];cases e:cI D g with
 | some q=>exact nd
 | none=>
   simp only [Option.isSome_none,Bool.false_eq_true,if_false];refine List.nodup_append.mpr ⟨nd,by simp,fun a ha b hb=> ?_⟩;have:b=g:=by simpa using hb
   subst this;obtain ⟨q,hq,rfl⟩:=List.mem_map.mp ha;exact mj e q hq
theorem Hg {D:List (Int×Int×List Nt)} {g:Int} {r:Int×List Nt} {e:Int×Int×List Nt} (h:e∈put3 D g r):e=(g,r)\/(e∈D/\e.1≠g):=by
 unfold put3 at h;cases q:cI D g with
 | some z=>
   rw [q] at h;simp only [Option.isSome_some,if_true] at h;obtain ⟨y,hy,rfl⟩:=List.mem_map.mp h
   by_cases w:y.1=g
   ·left;rw [if_pos w]
   ·right;rw [if_neg w];exact ⟨hy,w⟩
 | none=>
   rw [q] at h;simp only [Option.isSome_none,Bool.false_eq_true,if_false] at h;rcases List.mem_append.mp h with h|h
   ·exact .inr ⟨h,mj q e h⟩
   ·left;simpa using h
theorem DP (D:List (Int×Int×List Nt)) (g:Int) (r:Int×List Nt):(g,r)∈put3 D g r:=by
 unfold put3;cases q:cI D g with
 | some z=>
   simp only [Option.isSome_some,if_true];exact List.mem_map.mpr ⟨_,jg q,by simp⟩
 | none=>simp
theorem zO {D:List (Int×Int×List Nt)} {g:Int} {r:Int×List Nt} {e:Int×Int×List Nt} (h:e∈D) (ne:e.1≠g):e∈put3 D g r:=by
 unfold put3;cases q:cI D g with
 | some z=>
   simp only [Option.isSome_some,if_true];exact List.mem_map.mpr ⟨e,h,by rw [if_neg ne]⟩
 | none=>simp [h]
def gR (C:List (Int×Int×List Nt)) (L:List (Int×Int×List Nt)) (x:Nt):List (Int×Int×List Nt):=
 match cI C x.1 with
 | none=>L
 | some r=>if r.1<=x.2.1 then (match cI L x.2.2.1 with
    | none=>put3 L x.2.2.1 (x.2.2.2,r.2++[x])
    | some q=>if x.2.2.2<q.1 then put3 L x.2.2.1 (x.2.2.2,r.2++[x]) else L) else L
def gk (ns:List Nt) (C:List (Int×Int×List Nt)):List (Int×Int×List Nt):=ns.foldl (gR C) []
structure Half (ns ms:List Nt) (h k:Int) (n:Nat) (L:List (Int×Int×List Nt)):Prop where
 nd:(L.map (·.1)).Nodup
 ch:∀e∈L,Df ns h k e.2.2 e.1 e.2.1/\e.2.2.length=n+1
 le:∀c g m x,Df ns h k c g m->c.length=n->x∈ms->x.1=g->m<=x.2.1 -> ∃e∈L,e.1=x.2.2.1/\e.2.1<=x.2.2.2
theorem Fb {ns ms:List Nt} {h k:Int} {n:Nat} {C L:List (Int×Int×List Nt)} (B:Best ns h k n C) (A:Half ns ms h k n L) {x:Nt} (hx:x∈ns):Half ns (ms++[x]) h k n (gR C L x):=by
 unfold gR;cases e:cI C x.1 with
 | none=>
   refine ⟨A.nd,A.ch,fun c g m y hc hl hy e1 e2=> ?_⟩;rcases List.mem_append.mp hy with hy|hy
   ·exact A.le c g m y hc hl hy e1 e2
   ·have:y=x:=by simpa using hy
    subst this;obtain ⟨q,hq,q1,q2⟩:=B.le c g m hc hl;exact absurd (q1.trans e1.symm) (mj e q hq)
 | some r=>
   have hr:=jg e;obtain ⟨rc,rl⟩:=B.ch _ hr;dsimp only
   by_cases w:r.1<=x.2.1
   rotate_left
   ·rw [if_neg w]
    refine ⟨A.nd,A.ch,fun c g m y hc hl hy e1 e2=> ?_⟩;rcases List.mem_append.mp hy with hy|hy
    ·exact A.le c g m y hc hl hy e1 e2
    ·have:y=x:=by simpa using hy
     subst this;obtain ⟨q,hq,q1,q2⟩:=B.le c g m hc hl;have:=qI B.nd hq;rw [q1,←e1,e] at this;cases this;exact absurd (Int.le_trans q2 e2) w
   rw [if_pos w];have new:Df ns h k (r.2++[x]) x.2.2.1 x.2.2.2:= .snoc rc hx rfl w
   have put:((∀q,cI L x.2.2.1=some q->x.2.2.2<=q.1))->Half ns (ms++[x]) h k n (put3 L x.2.2.1 (x.2.2.2,r.2++[x])):=fun ge=>by
    refine ⟨KQ A.nd _ _,fun y hy=> ?_,fun c g m y hc hl hy e1 e2=> ?_⟩
    ·rcases Hg hy with rfl|⟨hy,_⟩
     ·exact ⟨new,by rw [List.length_append,rl];rfl⟩
     ·exact A.ch y hy
    ·by_cases z:y.2.2.1=x.2.2.1
     ·refine ⟨_,DP L x.2.2.1 (x.2.2.2,r.2++[x]),z.symm, ?_⟩
      rcases List.mem_append.mp hy with hy|hy
      ·obtain ⟨q,hq,q1,q2⟩:=A.le c g m y hc hl hy e1 e2
       have:=qI A.nd hq;rw [q1,z] at this;have:=ge _ this;show x.2.2.2<=y.2.2.2;omega
      ·have:y=x:=by simpa using hy
       subst this;exact Int.le_refl _
     ·rcases List.mem_append.mp hy with hy|hy
      ·obtain ⟨q,hq,q1,q2⟩:=A.le c g m y hc hl hy e1 e2
       exact ⟨q,zO hq (fun v=>z (q1.symm.trans v)),q1,q2⟩
      ·have:y=x:=by simpa using hy
       subst this;exact absurd rfl z
   cases f:cI L x.2.2.1 with
   | none=>exact put fun q z=>by rw [f] at z;cases z
   | some q=>
     dsimp only
     by_cases v:x.2.2.2<q.1
     ·rw [if_pos v]
      exact put fun q' z=>by rw [f] at z;cases z;omega
     ·rw [if_neg v]
      refine ⟨A.nd,A.ch,fun c g m y hc hl hy e1 e2=> ?_⟩;rcases List.mem_append.mp hy with hy|hy
      ·exact A.le c g m y hc hl hy e1 e2
      ·have:y=x:=by simpa using hy
       subst this;exact ⟨_,jg f,rfl,by show q.1<=_;omega⟩
theorem Mj {ns:List Nt} {h k:Int} {n:Nat} {c:List Nt} {g m:Int} (hc:Df ns h k c g m) (hl:c.length=n+1):∃c' x m',c=c'++[x]/\Df ns h k c' x.1 m'/\c'.length=n/\x∈ns/\m'<=x.2.1/\g=x.2.2.1/\m=x.2.2.2:=by
 cases hc with
 | nil=>cases hl
 | @snoc c' g' m' x hc' hx e1 e2=>
   subst e1;exact ⟨c',x,m',rfl,hc',by simpa using hl,hx,e2,rfl,rfl⟩
theorem Fd {ns:List Nt} {h k:Int} {n:Nat} {L:List (Int×Int×List Nt)} (A:Half ns ns h k n L):Best ns h k (n+1) L:=by
 refine ⟨A.nd,A.ch,fun c g m hc hl=> ?_⟩;obtain ⟨c',x,m',rfl,hc',hl',hx,e2,rfl,rfl⟩:=Mj hc hl;exact A.le c' x.1 m' x hc' hl' hx rfl e2
theorem Ug (ns:List Nt) (h k:Int) (n:Nat):Half ns [] h k n []:=⟨by simp,fun e he=>(by cases he),fun c g m x _ _ hx=>(by cases hx)⟩
theorem Vd (ns:List Nt) (h k:Int):Best ns h k 0 [(h,k,[])]:=by
 refine ⟨by simp,fun e he=> ?_,fun c g m hc hl=> ?_⟩
 ·have:e=(h,k,[]):=by simpa using he
  subst this;exact ⟨.nil,rfl⟩
 ·cases hc with
  | nil=>exact ⟨_,List.mem_singleton.mpr rfl,rfl,Int.le_refl _⟩
  | snoc _ _ _ _=>simp at hl
def jj (ns:List Nt) (h k:Int) (c:List Nt):Prop:=c≠[] /\ ∃m,Df ns h k c h m/\m<=k
abbrev uL:=List (Int×Int×List Nt)
def rP (B H:Hp) (p:Key×V) (e:Int×Int×List Nt):Prop:=p.1=Sum.inl e.1 /\ ∃t l,p.2 = .ref t/\H t=some (.tup [.int e.2.1,.ref l])/\bQ H l e.2.2/\B l=none
def mL (B H:Hp):List (Key×V)->uL->Prop
 | [],[]=>True
 | p::ps,e::es=>rP B H p e/\mL B H ps es
 | _,_=>False
def JW (B H:Hp) (d:Addr) (D:uL):Prop:=∃kvs,H d=some (.dK kvs)/\mL B H kvs D
theorem mL.imp {B H H':Hp} (f:∀p e,rP B H p e->rP B H' p e):∀{kvs:List (Key×V)} {D:uL},mL B H kvs D->mL B H' kvs D
 | [],[],_=>True.intro
 | _::_,_::_,h=>⟨f _ _ h.1,mL.imp f h.2⟩
 | [],_::_,h=>h.elim
 | _::_,[],h=>h.elim
theorem rP.same {B H H':Hp} (s:Same H H') {p:Key×V} {e:Int×Int×List Nt} (h:rP B H p e):rP B H' p e:=by
 obtain ⟨e1,t,l,e2,e3,e4,e5⟩:=h;exact ⟨e1,t,l,e2,s _ _ e3,e4.same s,e5⟩
theorem rP.kp {B H H':Hp} {d:Addr} {ks:List (Key×V)} (hd:H d=some (.dK ks)) (k:Kp d H H') {p:Key×V} {e:Int×Int×List Nt} (h:rP B H p e):rP B H' p e:=by
 obtain ⟨e1,t,l,e2,e3,e4,e5⟩:=h;have tp:=k.tups' hd;obtain ⟨vs,q1,_⟩:=id e4;exact ⟨e1,t,l,e2,tp _ _ e3,e4.kp tp k (lO q1 hd (fun z=>nomatch z)),e5⟩
theorem mL.length {B H:Hp}:∀{kvs:List (Key×V)} {D:uL},mL B H kvs D->kvs.length=D.length
 | [],[],_=>rfl
 | _::_,_::_,h=>by rw [List.length_cons,List.length_cons,mL.length h.2]
 | [],_::_,h=>h.elim
 | _::_,[],h=>h.elim
theorem mL.val {B H:Hp} (g:Int):∀{kvs:List (Key×V)} {D:uL},mL B H kvs D->(bW kvs (Sum.inl g)=none/\cI D g=none) \/ ∃r t l,bW kvs (Sum.inl g)=some (.ref t)/\cI D g=some r/\H t=some (.tup [.int r.1,.ref l])/\bQ H l r.2/\B l=none
 | [],[],_=> .inl ⟨rfl,rfl⟩
 | [],_::_,h=>h.elim
 | _::_,[],h=>h.elim
 | p::ps,e::es,h=>by
   obtain ⟨⟨e1,t,l,e2,e3,e4,e5⟩,h2⟩:=h
   by_cases q:e.1=g
   ·refine .inr ⟨e.2,t,l, ?_, ?_,e3,e4,e5⟩
    ·rw [cR (by rw [e1,q]),e2]
    ·unfold cI;rw [List.find?_cons];simp [q]
   ·have ih:=mL.val g h2
    rw [cJ (by rw [e1];intro z;exact q (Sum.inl.inj z))];have:cI (e::es) g=cI es g:=by unfold cI;rw [List.find?_cons];simp [q]
    rw [this];exact ih
theorem mL.repl {B H:Hp} {g m:Int} {c:List Nt} {t l:Addr} (ht:H t=some (.tup [.int m,.ref l])) (hl:bQ H l c) (bl:B l=none):∀{kvs:List (Key×V)} {D:uL},mL B H kvs D->mL B H (kvs.map fun kv=>if kv.1=Sum.inl g then (kv.1,V.ref t) else kv) (D.map fun e=>if e.1=g then (g,(m,c)) else e)
 | [],[],_=>True.intro
 | [],_::_,h=>h.elim
 | _::_,[],h=>h.elim
 | p::ps,e::es,h=>by
   obtain ⟨h1,h2⟩:=h;refine ⟨?_,mL.repl ht hl bl h2⟩;have e1:=h1.1;dsimp only
   by_cases q:e.1=g
   ·rw [if_pos (show p.1=Sum.inl g by rw [e1,q]),if_pos q]
    exact ⟨by rw [←q];exact e1,t,l,rfl,ht,hl,bl⟩
   ·rw [if_neg (show ¬p.1=Sum.inl g by rw [e1];intro z;exact q (Sum.inl.inj z)),if_neg q]
    exact h1
theorem mL.snoc {B H:Hp} {p:Key×V} {e:Int×Int×List Nt} (h:rP B H p e):∀{kvs:List (Key×V)} {D:uL},mL B H kvs D->mL B H (kvs++[p]) (D++[e])
 | [],[],_=>⟨h,True.intro⟩
 | [],_::_,h=>h.elim
 | _::_,[],h=>h.elim
 | _::_,_::_,h'=>⟨h'.1,mL.snoc h h'.2⟩
theorem mL.put {B H:Hp} {g m:Int} {c:List Nt} {t l:Addr} (ht:H t=some (.tup [.int m,.ref l])) (hl:bQ H l c) (bl:B l=none) {kvs:List (Key×V)} {D:uL} (h:mL B H kvs D):mL B H (putK kvs (Sum.inl g) (.ref t)) (put3 D g (m,c)):=by
 unfold putK put3;rw [jd];rcases h.val g with ⟨e1,e2⟩|⟨r,t',l',e1,e2,_⟩
 ·rw [e1,e2]
  exact mL.snoc ⟨rfl,t,l,rfl,ht,hl,bl⟩ h
 ·rw [e1,e2]
  exact mL.repl ht hl bl h
theorem Dk (C L:uL) (x:Nt):(gR C L x).length<=L.length+1:=by
 have p:∀g r,(put3 L g r).length<=L.length+1:=fun g r=>by
  unfold put3;split
  ·rw [List.length_map];omega
  ·rw [List.length_append];exact Nat.le_refl _
 unfold gR;split
 ·omega
 ·split
  ·split
   ·exact p _ _
   ·split
    ·exact p _ _
    ·omega
  ·omega
theorem K7 {c A B:Prop} [Decidable c] (P:Prop) (hA:P->A) (hc:c->P) (hB:¬c->(P->A)->B):if c then A else B:=by
 by_cases h:c
 ·rw [if_pos h];exact hA (hc h)
 ·rw [if_neg h];exact hB h hA
def pP (K:PySem.W.Frag):Sp:=fun vs H Q _=>∃(t c a d:Addr) (cs:List Int) (ns:List Nt) (C:uL) (B:Hp),vs=[.ref t,.ref d]/\Same B H/\RecAt H t c a cs ns/\ns.length<=200/\JW B H d C/\(∀e∈C,e.2.2.length<=100) /\ ∀(d':Addr) (H':Hp),H d'=none->JW B H' d' (gk ns C)->Same H H'->Q (.ref d') H'
theorem DY {f:Addr} {fd:FuncData} (F:jX K "longer_chains" "longer_chains" bJ f fd):cT P w K mg base jV 1 f fd ["record","chains"] (pP K):=by
 refine F.ok dY (fun vs H Q E h=> ?_) (fun cdv A outer s H vs Q E hr h=> ?_)
 ·obtain ⟨t,c,a,d,cs,ns,C,B,rfl,_⟩:=h
  rfl
 ·obtain ⟨t,c,a,d,cs,ns,C,B,rfl,sB,R,nl,⟨kc,hd,cr⟩,cl,k⟩:=h
  have hu:=lR hr;obtain ⟨ht,hc,Nb,ha,dn⟩:=id R;have P_:Nb.length=ns.length:=by rw [dn.length,List.length_map]
  refine ⟨_,(au (aU (i:=2) dY.nd rfl (Or.inl rfl) wX)
   (au (gM PassesOwn.never rfl (cN (K:=K) rfl (aL (aO (K:=K) rfl) (pv 0) ao (fun _ _=>rfl))) (bf (i:=3) dY.nd rfl (Or.inl rfl))
   (au (aU (i:=4) dY.nd rfl (Or.inl rfl) (wZ hu (pv 1) (aL (aO (K:=K) rfl) (pv 3) ao (fun _ _=>rfl)) ⟨rfl,rfl,rfl,rfl⟩))
   (aF (b_ (PW.pt (j8 (aX lA (pv 4) gO (aV _)) (iI (aX w6 (aL (aO (K:=K) rfl) (pv 4) ao (fun _ _=>rfl)) (aL (aO (K:=K) rfl) (pv 3) ao (fun _ _=>rfl)) (aV _))))) (aF (b_ (PW.pt (jO (Hj (tW hu (aL (aO (K:=K) rfl) (pv 3) ao (fun _ _=>rfl)) (pv 2))) (iT (aX j9 (aL (aO (K:=K) rfl) (pv 3) ao (fun _ _=>rfl)) (aL (pB (K:=K) rfl) (iJ hu (pv 2) (aL (aO (K:=K) rfl) (pv 3) ao (fun _ _=>rfl)) (fun _ _=>rfl)) ao (fun _ _=>rfl)) (aV _))))) (aF (o_ hu (pv 2) (aL (aO (K:=K) rfl) (pv 3) ao (fun _ _=>rfl)) (jG (aj (aL (aO (K:=K) rfl) (pv 3) ao (fun _ _=>rfl)) (aj (bx HF (aL (aO (K:=K) rfl) (pv 4) ao (fun _ _=>rfl)) (cY (aj (pv 3) ak))) ak))) rfl)) bh)) bh))))
   (aF (aW (pv 2))))), ?_⟩
  intro f hf;have s1:=aD (o:=HO.dK []) hf;refine ⟨_,rfl,_,_,_,_,rfl,rfl,cH.of (s1 _ _ ht),rfl,a,rfl,⟨_,aY.of (s1 _ _ ha)⟩, ?_⟩
  refine m9 (K:=K) (a:=a) (xs:=Nb) (fun i σ H2=>∃(x1 x2:Option V) (kvs:List (Key×V)) (L:uL),σ=[some (.ref t),some (.ref d),some (.ref f),x1,x2]/\Same H H2/\H2 f=some (.dK kvs)/\mL B H2 kvs L/\L.length<=i/\gk ns C=(ns.drop i).foldl (gR C) L)
   ⟨none,none,[],[],rfl,s1,aA,True.intro,Nat.zero_le _,rfl⟩ (fun i σ H2 _ ⟨_,_,_,_,_,sm,_⟩=>aY.of (sm _ _ ha)) ?_ ?_
  ·rintro i v σ H2 hi ⟨x1,x2,kvs,L,rfl,sm,hF,rel,ll,fold⟩
   obtain ⟨x,w,ex,rfl,hx⟩:=fW dn hi;have il:i<ns.length:=(List.getElem?_eq_some_iff.mp ex).1;have hx2:=sm _ _ hx;have hd2:=sm _ _ hd;have cr2:mL B H2 kc C:=cr.imp fun _ _ h=>h.same sm
   have dr:ns.drop i=x::ns.drop (i+1):=by
    rw [List.drop_eq_getElem_cons il];congr 1;exact (List.getElem?_eq_some_iff.mp ex).2
   rw [dr,List.foldl_cons] at fold;have kl:=rel.length;refine ⟨_,rfl,d,rfl,.inl ⟨_,.inl hd2⟩,_,rfl,_,_,_,_,rfl,rfl,cH.of hx2,rfl,_,gK.k (k:=Sum.inl x.1) hd2, ?_⟩;have st0:gR C L x=L -> ∃(y1 y2:Option V) (kvs':List (Key×V)) (L':uL),[some (V.ref t),some (.ref d),some (.ref f),some (.ref w),some ((bW kc (Sum.inl x.1)).getD .non)]=[some (.ref t),some (.ref d),some (.ref f),y1,y2]/\Same H H2/\H2 f=some (.dK kvs')/\mL B H2 kvs' L'/\L'.length<=i+1/\gk ns C=(ns.drop (i+1)).foldl (gR C) L':=fun es=>⟨_,_,kvs,L,rfl,sm,hF,rel,by omega,by rw [fold,es]⟩;refine ⟨_,rfl,rfl,_,rfl, ?_⟩;rcases cr2.val x.1 with ⟨e1,e2⟩|⟨r,tc,lc,e1,e2,htc,hlc,_⟩
   ·rw [e1] at st0 ⊢
    refine dG (fun q=>absurd q (by simp)) (fun _=> ?_);exact st0 (by unfold gR;rw [e2])
   rw [e1] at st0 ⊢;refine dG (fun _=> ?_) (fun q=>absurd (by simp) q);refine ⟨_,rfl,_,_,_,_,rfl,rfl,cH.of htc,rfl,_,rfl,_,_,_,_,rfl,rfl,cH.of hx2,rfl,_,_,rfl,rfl,_,rfl, ?_⟩
   by_cases w1:r.1<=x.2.1
   rotate_left
   ·rw [decide_eq_false w1]
    refine dj ?_;exact st0 (by unfold gR;rw [e2];dsimp only;rw [if_neg w1])
   rw [decide_eq_true w1];refine iB ?_;refine ⟨_,rfl,_,_,_,_,rfl,rfl,cH.of hx2,rfl,_,rfl,f,_,rfl,gK.k (k:=Sum.inl x.2.2.1) hF,_,rfl, ?_⟩;refine K7 (gR C L x=put3 L x.2.2.1 (x.2.2.2,r.2++[x])) (fun es=> ?_) (fun z=> ?_) (fun z body=> ?_)
   ·obtain ⟨wl,hl2,dl2⟩:=id hlc
    have wll:wl.length=r.2.length:=by rw [dl2.length,List.length_map]
    have rl:r.2.length<=100:=cl _ (jg e2);refine ⟨_,rfl,_,_,_,_,rfl,rfl,cH.of hx2,rfl,_,rfl,_,_,_,_,rfl,rfl,cH.of htc,rfl,_,rfl,(by show 1<=sizeLine;decide),fun p1 hp1=> ?_⟩;have u1:=aD (o:=HO.lst [V.ref w]) hp1;refine ⟨lc,p1,_,_,rfl,rfl,u1 _ _ hl2,aA,by rw [sizeLine_eq,List.length_singleton];omega,fun p2 hp2=> ?_⟩;have u2:=aD (o:=HO.lst (wl++[V.ref w])) hp2;refine ⟨(by show 2<=sizeLine;decide),fun p3 hp3=> ?_⟩;have u3:=aD (o:=HO.tup [V.int x.2.2.2,V.ref p2]) hp3;have J0:=(u1.trans u2).trans u3
    have N3:bQ (upd (upd (upd H2 p1 (.lst [V.ref w])) p2 (.lst (wl++[V.ref w]))) p3 (.tup [V.int x.2.2.2,V.ref p2])) p2 (r.2++[x]):=⟨_,u3 _ _ aA,by
     rw [List.map_append];exact lG (aG.keep J0.tups _ (bI _ eU _) dl2) (jL (J0 _ _ hx2))⟩
    have T3:(upd (upd (upd H2 p1 (.lst [V.ref w])) p2 (.lst (wl++[V.ref w]))) p3 (.tup [V.int x.2.2.2,V.ref p2])) p3=some (.tup [.int x.2.2.2,.ref p2]):=aA;have Uj:=J0 _ _ hF;have bl3:B p2=none:=(sB.trans sm).free (u1.free hp2);have S3:=sm.trans J0;have Sh:mL B _ kvs L:=rel.imp fun _ _ h=>h.same J0;have hx3:=J0 _ _ hx2;generalize (upd (upd (upd H2 p1 (.lst [V.ref w])) p2 (.lst (wl++[V.ref w]))) p3 (.tup [V.int x.2.2.2,V.ref p2]))=H3 at N3 T3 Uj S3 Sh hx3 ⊢;refine ⟨_,rfl,_,rfl,_,_,_,_,rfl,rfl,cH.of hx3,rfl,f,_,rfl,rQ.k (k:=Sum.inl x.2.2.1) Uj (by rw [sizeLine_eq];omega), ?_⟩;have kf:Kp f H3 (upd H3 f (.dK (putK kvs (Sum.inl x.2.2.1) (.ref p3)))):=Kp.set;refine ⟨_,_,_,put3 L x.2.2.1 (x.2.2.2,r.2++[x]),rfl,fun b u e=>kf _ _ (S3 _ _ e) (aC e hf),aA,(mL.put T3 N3 bl3 Sh).imp fun _ _ h=>h.kp Uj kf, ?_,by rw [fold,es]⟩;rw [←es];have:=Dk C L x;omega
   ·rcases rel.val x.2.2.1 with ⟨f1,f2⟩|⟨q,tq,lq,f1,f2,htq,hlq,_⟩
    ·unfold gR;rw [e2];dsimp only;rw [if_pos w1,f2]
    ·rw [f1] at z;exact absurd z (by simp)
   ·rcases rel.val x.2.2.1 with ⟨f1,f2⟩|⟨q,tq,lq,f1,f2,htq,hlq,_⟩
    ·rw [f1] at z;exact absurd (by simp) z
    refine ⟨_,rfl,_,_,_,_,rfl,rfl,cH.of hx2,rfl,_,rfl,_,rfl,_,_,_,_,rfl,rfl,cH.of hx2,rfl,f,_,rfl,.inl ⟨_,Sum.inl x.2.2.1,.inl hF,rfl,f1.symm⟩,.inr (.inl ⟨tq,_,0,_,rfl,rfl,cH.of htq,rfl,_,_,rfl,rfl,_,rfl, ?_⟩)⟩
    by_cases w2:x.2.2.2<q.1
    ·rw [decide_eq_true w2]
     exact body (by unfold gR;rw [e2];dsimp only;rw [if_pos w1,f2];dsimp only;rw [if_pos w2])
    ·rw [decide_eq_false w2]
     refine dj ?_;exact st0 (by unfold gR;rw [e2];dsimp only;rw [if_pos w1,f2];dsimp only;rw [if_neg w2])
  ·rintro σ H2 ⟨x1,x2,kvs,L,rfl,sm,hF,rel,ll,fold⟩
   refine ⟨_,rfl,k f H2 hf ⟨kvs,hF, ?_⟩ sm⟩;rw [P_,List.drop_length,List.foldl_nil] at fold;rw [fold];exact rel
def Lk:List Nt->Prop
 | []=>True
 | [_]=>True
 | x::y::r=>pA x y/\Lk (y::r)
theorem iz {x:Nt} {r:List Nt}:∀(l:List Nt),Lk (l++x::r)↔Lk (l++[x])/\Lk (x::r)
 | []=>⟨fun h=>⟨True.intro,h⟩,fun h=>h.2⟩
 | [y]=>⟨fun h=>⟨⟨h.1,True.intro⟩,h.2⟩,fun h=>⟨h.1.1,h.2⟩⟩
 | y::z::l=>by
   have ih:=iz (x:=x) (r:=r) (z::l);constructor
   ·intro h
    have h2:Lk ((z::l)++x::r):=h.2;exact ⟨⟨h.1,(ih.mp h2).1⟩,(ih.mp h2).2⟩
   ·intro h
    exact ⟨h.1.1,ih.mpr ⟨h.1.2,h.2⟩⟩
theorem pq {y z:Nt} (e:y.1=z.1) (le:y.2.1<=z.2.1):∀(l:List Nt),Lk (l++[y])->Lk (l++[z])
 | [],_=>True.intro
 | [w],h=>⟨⟨h.1.1.trans e,Int.le_trans h.1.2 le⟩,True.intro⟩
 | w::v::l,h=>⟨h.1,pq e le (v::l) h.2⟩
def oH (ns c:List Nt):Prop:=∃x r,c=x::r/\(∀y∈c,y∈ns)/\Lk (x::r++[x])
theorem ou {α:Type} (f:α->Int):∀(c:List α),¬(c.map f).Nodup -> ∃a y b z d,c=a++y::b++z::d/\f y=f z
 | [],h=>absurd List.nodup_nil h
 | x::r,h=>by
   rw [List.map_cons,List.nodup_cons] at h
   by_cases m:f x∈r.map f
   ·obtain ⟨z,hz,e⟩:=List.mem_map.mp m
    obtain ⟨b,d,rfl⟩:=List.append_of_mem hz;exact ⟨[],x,b,z,d,rfl,e.symm⟩
   ·obtain ⟨a,y,b,z,d,rfl,e⟩:=ou f r fun nd=>h ⟨m,nd⟩
    exact ⟨x::a,y,b,z,d,rfl,e⟩
theorem xP {n:Nat} {l:List Int} (h:∀x∈l,0<=x/\x<n) (lt:n<l.length):¬l.Nodup:=fun nd=>by
 have h2:(l.map Int.toNat).Nodup:=by
  refine List.pairwise_map.mpr (List.Pairwise.imp_of_mem (fun {a b} ha hb ne z=>ne ?_) nd);have:=h a ha;have:=h b hb;omega
 have:=qC n _ h2 fun x hx=>by
  obtain ⟨y,hy,rfl⟩:=List.mem_map.mp hx;have:=h y hy;omega
 rw [List.length_map] at this;omega
theorem Dv {cs:List Int} {ns:List Nt} (ok:fH cs ns) {c:List Nt} (R:oH ns c) (lt:cs.length<c.length):∃c',oH ns c'/\c'.length<c.length:=by
 obtain ⟨x,r,rfl,mem,lk⟩:=R
 obtain ⟨a,y,b,z,d,ec,e⟩:=ou (fun t:Nt=>t.1) (x::r) (xP (n:=cs.length) (fun v hv=>by
  obtain ⟨t,ht,rfl⟩:=List.mem_map.mp hv;exact (ok.2.2 t (mem t ht)).1) (by rw [List.length_map];exact lt))
 rw [ec] at lk mem lt ⊢;have lk1:Lk (a++y::(b++z::(d++[x]))):=by simpa using lk
 obtain ⟨l1,l2⟩:=(iz a).mp lk1;have l3:Lk ((y::b)++z::(d++[x])):=l2;obtain ⟨l4,l5⟩:=(iz (y::b)).mp l3;rcases Int.le_total z.2.1 y.2.1 with w|w
 ·refine ⟨y::b,⟨y,b,rfl,fun v hv=>mem v ?_,pq e.symm w _ l4⟩,by simp;omega⟩
  exact List.mem_append.mpr (.inl (List.mem_append.mpr (.inr hv)))
 ·have l6:=pq e w _ l1
  cases a with
  | nil=>
    have ex:x=y:=by simpa using (List.cons.inj ec).1
    subst ex;refine ⟨z::d,⟨z,d,rfl,fun v hv=>mem v ?_,pq e w (z::d) l5⟩,by simp;omega⟩;simp only [List.nil_append,List.mem_append];exact .inr hv
  | cons x' a=>
    have ex:x=x':=by simpa using (List.cons.inj ec).1
    subst ex;refine ⟨x::(a++z::d),⟨x,_,rfl,fun v hv=>mem v ?_, ?_⟩,by simp;omega⟩
    ·simp only [List.cons_append,List.mem_cons,List.mem_append] at hv ⊢
     rcases hv with hv|hv|hv
     ·exact .inl hv
     ·exact .inr (.inl (.inl hv))
     ·exact .inr (.inr hv)
    ·have:Lk ((x::a)++z::(d++[x])):=(iz (x::a)).mpr ⟨l6,l5⟩
     simpa using this
theorem qd {cs:List Int} {ns:List Nt} (ok:fH cs ns):∀(n:Nat) (c:List Nt),c.length<=n->oH ns c -> ∃c',oH ns c'/\c'.length<=cs.length/\c'.length<=c.length
 | 0,c,l,R=>by
   obtain ⟨x,r,rfl,_⟩:=R;simp at l
 | n+1,c,l,R=>by
   by_cases h:c.length<=cs.length
   ·exact ⟨c,R,h,Nat.le_refl _⟩
   ·obtain ⟨c1,R1,l1⟩:=Dv ok R (by omega)
    obtain ⟨c2,R2,l2,l3⟩:=qd ok n c1 (by omega) R1;exact ⟨c2,R2,l2,by omega⟩
theorem Q5 {ns:List Nt} {h k:Int} {c:List Nt} {g m:Int} (hc:Df ns h k c g m):(∀y∈c,y∈ns)/\(∀x r,c=x::r->x.1=h/\k<=x.2.1)/\(c=[]->g=h/\m=k) /\ ∀y:Nt,g=y.1->m<=y.2.1->Lk (c++[y]):=by
 induction hc with
 | nil=>exact ⟨fun y hy=>(by cases hy),fun x r e=>(by cases e),fun _=>⟨rfl,rfl⟩,fun y _ _=>True.intro⟩
 | @snoc c g m x hc hx e1 e2 ih=>
   obtain ⟨i1,i2,i3,i4⟩:=ih;refine ⟨fun y hy=> ?_,fun z r e=> ?_,fun e=>(by simp at e),fun y f1 f2=> ?_⟩
   ·rcases List.mem_append.mp hy with hy|hy
    ·exact i1 y hy
    ·have:y=x:=by simpa using hy
     exact this▸hx
   ·cases c with
    | nil=>
      obtain ⟨j1,j2⟩:=i3 rfl;have:x=z:=by simpa using (List.cons.inj e).1
      subst this;exact ⟨e1.trans j1,by omega⟩
    | cons z' c=>
      have:z'=z:=by simpa using (List.cons.inj e).1
      subst this;exact i2 z' c rfl
   ·have:=i4 x e1.symm e2
    rw [List.append_assoc];exact (iz c).mpr ⟨this,⟨⟨f1,f2⟩,True.intro⟩⟩
theorem Dz {ns:List Nt} {h k:Int} {c:List Nt} (R:jj ns h k c):oH ns c:=by
 obtain ⟨ne,m,hc,le⟩:=R;obtain ⟨i1,i2,_,i4⟩:=Q5 hc;cases c with
 | nil=>exact absurd rfl ne
 | cons x r=>
   obtain ⟨j1,j2⟩:=i2 x r rfl;exact ⟨x,r,rfl,i1,i4 x j1.symm (by omega)⟩
theorem Im {ns:List Nt}:∀(n:Nat) (l:List Nt) (x y:Nt) (r:List Nt),l.length=n->l=x::r->(∀z∈l,z∈ns)->Lk (l++[y]) -> ∃m,Df ns x.1 x.2.1 l y.1 m/\m<=y.2.1
 | 0,l,x,y,r,hl,e,_,_=>by subst e;simp at hl
 | n+1,l,x,y,r,hl,e,mem,lk=>by
   rcases List.eq_nil_or_concat l with rfl|⟨l',w,rfl⟩
   ·cases e
   have hw:w∈ns:=mem w (by simp);cases l' with
   | nil=>
     have:w=x:=by simpa using (List.cons.inj e).1
     subst this;have h:pA w y:=lk.1;refine ⟨w.2.2.2, ?_,h.2⟩;rw [←h.1];exact Df.snoc (c:=[]) .nil hw rfl (Int.le_refl _)
   | cons x' r'=>
     have:x'=x:=by simpa using (List.cons.inj e).1
     subst this;have lk2:Lk ((x'::r')++w::[y]):=by simpa using lk
     obtain ⟨l1,l2⟩:=(iz (x'::r')).mp lk2;obtain ⟨m,hc,hm⟩:=Im n (x'::r') x' w r' (by simpa using hl) rfl (fun z hz=>mem z (by simp only [List.concat_eq_append,List.mem_append];exact .inl hz)) l1;have h:pA w y:=l2.1;refine ⟨w.2.2.2, ?_,h.2⟩;rw [←h.1,List.concat_eq_append];exact .snoc hc hw rfl hm
theorem tO {ns:List Nt} {x:Nt} {r:List Nt} (R:oH ns (x::r)):jj ns x.1 x.2.1 (x::r):=by
 obtain ⟨x',r',e,mem,lk⟩:=R;cases e;obtain ⟨m,hc,hm⟩:=Im _ (x::r) x x r rfl rfl mem lk;exact ⟨by simp,m,hc,hm⟩
theorem ux {ns:List Nt} {h k:Int} {n:Nat} {C:uL} (B:Best ns h k n C):∀(ys ms:List Nt) (L:uL),(∀y∈ys,y∈ns)->Half ns ms h k n L->Half ns (ms++ys) h k n (ys.foldl (gR C) L)
 | [],ms,L,_,A=>by rw [List.append_nil];exact A
 | y::ys,ms,L,hy,A=>by
   have:=ux B ys (ms++[y]) (gR C L y) (fun z hz=>hy z (by simp [hz])) (Fb B A (hy y (by simp)));rw [List.append_assoc] at this;exact this
theorem El {ns:List Nt} {h k:Int} {n:Nat} {C:uL} (B:Best ns h k n C):Best ns h k (n+1) (gk ns C):=Fd (ux B ns [] [] (fun _ h=>h) (Ug ns h k n))
def nu (cs os:List Int):Prop:=inR cs os /\ ∀h:Int,0<=h->h<cs.length->(os.count h:Int)=gI cs h
def lK (os:List Int) (h:Int) (k:Nat) (p:Nat):Prop:=os[p]? = some h/\(os.take p).count h=k
theorem iZ (os:List Int) (h:Int) {p q:Nat} (l:p<=q):(os.take p).count h<=(os.take q).count h:=by
 have e:os.take p=(os.take q).take p:=by rw [List.take_take,Nat.min_eq_left l]
 rw [e];exact List.Sublist.count_le _ (List.take_sublist ..)
theorem uw {os:List Int} {h:Int} {k p:Nat} (a:lK os h k p):(os.take (p+1)).count h=k+1:=by
 rw [List.take_add_one,a.1];simp [a.2]
theorem vJ {os:List Int} {h:Int} {k p i:Nat} (a:lK os h k p):k<(os.take i).count h↔p<i:=by
 constructor
 ·intro l
  by_cases e:p<i
  ·exact e
  ·have:=iZ os h (show i<=p by omega)
   rw [a.2] at this;omega
 ·intro l
  have:=iZ os h (show p+1<=i by omega);rw [uw a] at this;omega
theorem Cp {os:List Int} {h:Int} {k:Nat} (l:k<os.count h):∃p,lK os h k p:=by
 have key:∀n,n<=os.length->k<(os.take n).count h -> ∃p,lK os h k p:=by
  intro n
  induction n with
  | zero=>intro _ h;simp at h
  | succ n ih=>
    intro hn hk
    by_cases e:k<(os.take n).count h
    ·exact ih (by omega) e
    ·have hn':n<os.length:=hn
     have en:os[n]? = some os[n]:=by simp [hn']
     rw [List.take_add_one,en] at hk;simp only [Option.toList_some,List.count_append,List.count_singleton] at hk
     by_cases eh:os[n]=h
     ·refine ⟨n,by rw [en,eh], ?_⟩
      simp [eh] at hk;omega
     ·simp [eh] at hk
      omega
 exact key os.length (Nat.le_refl _) (by rw [List.take_length];exact l)
theorem qb {cs:List Int} {ns:List Nt}:∀{os ds:List Int},runK cs ns os ds=true ↔ ∀i h,os[i]? = some h->isFree cs ns ((os.take i).foldl stp ds) h=true
 | [],ds=>by simp [runK]
 | x::os,ds=>by
   simp only [runK];constructor
   ·intro r
    by_cases f:isFree cs ns ds x=true
    ·rw [if_pos f] at r
     intro i h e;cases i with
     | zero=>simp at e;subst e;exact f
     | succ i=>
       have:=(qb (os:=os)).mp r i h (by simpa using e);simpa using this
    ·rw [if_neg f] at r
     cases r
   ·intro r
    have f:isFree cs ns ds x=true:=by simpa using r 0 x rfl
    rw [if_pos f];refine (qb (os:=os)).mpr fun i h e=> ?_;have:=r (i+1) h (by simpa using e);simpa using this
theorem mF {cs:List Int}:∀{os ds:List Int},inR cs os->ds.length=cs.length -> ∀h:Int,0<=h->h<cs.length->gI (os.foldl stp ds) h=gI ds h+(os.count h:Nat)
 | [],ds,_,_,h,_,_=>by simp
 | x::os,ds,ir,dl,h,h0,h1=>by
   obtain ⟨x0,x1⟩:=ir x (by simp);rw [List.foldl_cons,mF (fun z hz=>ir z (by simp [hz])) (by simp [stp,dl]) h h0 h1];unfold stp;rw [vO x0 (by omega) h0,List.count_cons]
   by_cases e:h=x
   ·subst e;simp;omega
   ·have:¬x=h:=fun z=>e z.symm
    simp [e,this]
theorem Ul (cs:List Int) (i:Int):gI (zs cs) i=0:=by unfold gI zs;rw [List.getElem?_replicate];split<;>rfl
theorem uf {cs os:List Int} {ns:List Nt} (ok:fH cs ns) (oo:nu cs os):runK cs ns os (zs cs)=true ↔ ∀x∈ns,∀p q,lK os x.1 x.2.1.toNat p->lK os x.2.2.1 x.2.2.2.toNat q->p<q:=by
 have st:∀(i:Nat) (h:Int),0<=h->h<cs.length->gI ((os.take i).foldl stp (zs cs)) h=((os.take i).count h:Nat):=fun i h h0 h1=>by
  rw [mF (fun z hz=>oo.1 z (List.mem_of_mem_take hz)) (by simp [zs]) h h0 h1,Ul];omega
 rw [qb];constructor
 ·intro r x hx p q ap aq
  obtain ⟨⟨a0,a1⟩,⟨b0,b1⟩,⟨o0,o1⟩,⟨m0,m1⟩,_⟩:=ok.2.2 x hx;have f:=r q x.2.2.1 aq.1;unfold isFree at f;simp only [Bool.and_eq_true,List.all_eq_true,decide_eq_true_eq] at f;have:=f.2 (ft x) (List.mem_map.mpr ⟨x,List.mem_filter.mpr ⟨hx,by rw [st q _ o0 o1,aq.2];simp;omega⟩,rfl⟩);have:x.2.1<gI ((os.take q).foldl stp (zs cs)) x.1:=this;rw [st q _ a0 a1] at this;exact (vJ ap).mp (by omega)
 ·intro r i h e
  obtain ⟨h0,h1⟩:=oo.1 h (List.mem_of_getElem? e);have il:=(List.getElem?_eq_some_iff.mp e).1;unfold isFree;rw [st i h h0 h1];simp only [Bool.and_eq_true,Bool.not_eq_true',decide_eq_false_iff_not,List.all_eq_true,decide_eq_true_eq];have ai:lK os h ((os.take i).count h) i:=⟨e,rfl⟩;constructor
  ·have c:=oo.2 h h0 h1
   have:=uw ai;have:=iZ os h (show i+1<=os.length by omega);rw [List.take_length] at this;omega
  ·intro q hq
   obtain ⟨x,hx,rfl⟩:=List.mem_map.mp hq;obtain ⟨xm,xc⟩:=List.mem_filter.mp hx;simp only [Bool.and_eq_true,decide_eq_true_eq] at xc;obtain ⟨⟨a0,a1⟩,⟨b0,b1⟩,⟨o0,o1⟩,⟨m0,m1⟩,_⟩:=ok.2.2 x xm;have ca:=oo.2 x.1 a0 a1;obtain ⟨p,ap⟩:=Cp (os:=os) (h:=x.1) (k:=x.2.1.toNat) (by omega)
   have aq:lK os x.2.2.1 x.2.2.2.toNat i:=by
    rw [xc.1];exact ⟨e,by omega⟩
   have:=(vJ ap).mpr (r x xm p i ap aq);show x.2.1<gI _ x.1;rw [st i _ a0 a1];omega
theorem qO {cs:List Int} {ns:List Nt}:∀{os ds:List Int},Fg cs ns os ds->runK cs ns os ds=true/\os.foldl stp ds=cs
 | [],ds,h=>⟨rfl,h⟩
 | x::os,ds,h=>by
   obtain ⟨hh,hr⟩:=h;have f:=(nW.mp (List.mem_of_mem_head? (by rw [hh];rfl))).2.2;obtain ⟨a,b⟩:=qO hr;refine ⟨?_,b⟩;simp only [runK];rw [if_pos f];exact a
theorem Fe {cs:List Int} {ns:List Nt} {os:List Int} (ir:inR cs os) (ol:os.length<=2400) (h:Fg cs ns os (zs cs)):pJ cs os:=by
 refine ⟨ir,ol,fun x x0 x1=> ?_⟩;have q:=mF (ds:=zs cs) ir (by simp [zs]) x x0 x1;rw [(qO h).2] at q;have:gI (zs cs) x=0:=by unfold gI zs;rw [List.getElem?_replicate];split<;>rfl
 omega
def Nm (ds:List Int) (x:Nt):Prop:=x.2.2.2=gI ds x.2.2.1/\gI ds x.1<=x.2.1
theorem Cu {cs:List Int} {ns:List Nt} (ok:fH cs ns) {ds:List Int} (d:iD cs ds) (fr:iQ cs ns ds=[]) {h:Int} (h0:0<=h) (h1:h<cs.length) (lt:gI ds h<gI cs h):∃x∈ns,x.2.2.1=h/\Nm ds x:=by
 refine Classical.byContradiction fun no=> ?_
 have:h∈iQ cs ns ds:=by
  refine nW.mpr ⟨h0,h1, ?_⟩;unfold isFree;simp only [Bool.and_eq_true,Bool.not_eq_true',decide_eq_false_iff_not,List.all_eq_true,decide_eq_true_eq];refine ⟨by omega,fun q hq=> ?_⟩;obtain ⟨x,hx,rfl⟩:=List.mem_map.mp hq;obtain ⟨xm,xc⟩:=List.mem_filter.mp hx;simp only [Bool.and_eq_true,decide_eq_true_eq] at xc;refine Classical.byContradiction fun w=>no ⟨x,xm,xc.1,by rw [xc.1];exact xc.2, ?_⟩;have w:¬x.2.1<gI ds x.1:=w;omega
 rw [fr] at this;cases this
theorem Lj {x:Nt} {r:List Nt} (h:Lk (x::r)):Lk r:=by
 cases r with
 | nil=>exact True.intro
 | cons y r=>exact h.2
theorem zu {cs:List Int} {ns:List Nt} (ok:fH cs ns) (st:Stuck cs ns):∃c,oH ns c:=by
 obtain ⟨ds,d,ne,fr⟩:=st
 have ex:∃h:Int,0<=h/\h<cs.length/\gI ds h<gI cs h:=by
  refine Classical.byContradiction fun no=>ne (V6.eq d.1 rfl (fun i i0 i1=>(d.2 i i0 i1).2) fun i i0 i1=> ?_);refine Classical.byContradiction fun w=>no ⟨i,i0,i1,by omega⟩
 obtain ⟨h,h0,h1,lt⟩:=ex
 have all:∀k:Nat,∃D:List Nt,D.length=k+1/\Lk D /\ ∀x∈D,x∈ns/\Nm ds x:=fun k=>by
  induction k with
  | zero=>
    obtain ⟨x,hx,_,hh⟩:=Cu ok d fr h0 h1 lt;exact ⟨[x],rfl,True.intro,fun y hy=>by rw [List.mem_singleton.mp hy];exact ⟨hx,hh⟩⟩
  | succ k ih=>
    obtain ⟨D,dl,lk,al⟩:=ih;cases D with
    | nil=>cases dl
    | cons x D=>
      obtain ⟨hx,hh⟩:=al x (by simp);obtain ⟨⟨a0,a1⟩,⟨b0,b1⟩,_⟩:=ok.2.2 x hx;obtain ⟨y,hy,e,hy'⟩:=Cu ok d fr a0 a1 (by have:=hh.2;omega);refine ⟨y::x::D,by simp at dl ⊢;exact dl,⟨⟨e, ?_⟩,lk⟩,fun z hz=> ?_⟩
      ·rw [hy'.1,e];exact hh.2
      ·rcases List.mem_cons.mp hz with rfl|hz
       ·exact ⟨hy,hy'⟩
       ·exact al z hz
 obtain ⟨D,dl,lk,al⟩:=all cs.length
 have dup:=xP (n:=cs.length) (l:=D.map (·.2.2.1)) (fun v hv=>by
  obtain ⟨x,hx,rfl⟩:=List.mem_map.mp hv;exact (ok.2.2 x (al x hx).1).2.2.1) (by rw [List.length_map];omega)
 obtain ⟨a,y,b,z,e,rfl,eq⟩:=ou (·.2.2.1) D dup;have hy:=(al y (by simp)).2;have hz:=(al z (by simp)).2
 have Tt:∀x∈b++[z],x∈ns:=fun x hx=>(al x (by
  rcases List.mem_append.mp hx with hx|hx
  ·simp [hx]
  ·simp [List.mem_singleton.mp hx])).1
 have l1:Lk (y::(b++[z])):=by
  have:Lk (a++y::(b++z::e)):=by simpa using lk
  have:=((iz a).mp this).2;have:Lk ((y::b)++z::e):=this;exact ((iz (y::b)).mp this).1
 have zy:∀w,pA y w->pA z w:=fun w h=>by
  refine ⟨by rw [←eq];exact h.1, ?_⟩;rw [hz.1,←eq,←hy.1];exact h.2
 cases b with
 | nil=>exact ⟨[z],z,[],rfl,Tt,zy z l1.1,True.intro⟩
 | cons w b=>
   refine ⟨w::b++[z],w,b++[z],rfl,Tt, ?_⟩;have l2:Lk (w::b++[z]):=Lj l1;have:Lk ((w::b)++z::[w]):=(iz (w::b)).mpr ⟨l2,zy w l1.1,True.intro⟩;simpa using this
theorem Et {os:List Int} {h:Int} {k l p q:Nat} (a:lK os h k p) (b:lK os h l q) (le:k<=l):p<=q:=by
 refine Nat.le_of_not_lt fun w=> ?_;have h1:=(vJ b (i:=p)).mpr w;have h2:=a.2;omega
theorem vI {cs os:List Int} (oo:nu cs os) {h k:Int} (h0:0<=h) (h1:h<cs.length) (k0:0<=k) (k1:k<gI cs h):∃p,lK os h k.toNat p:=Cp (by have:=oo.2 h h0 h1;omega)
theorem Du {cs os:List Int} {ns:List Nt} (ok:fH cs ns) (oo:nu cs os) (r:runK cs ns os (zs cs)=true):∀c,¬oH ns c:=by
 have ks:=(uf ok oo).mp r
 have up:∀(l:List Nt) (x z:Nt),(∀y∈x::l,y∈ns)->z∈ns->Lk (x::l++[z]) -> ∀p q,lK os x.1 x.2.1.toNat p->lK os z.1 z.2.1.toNat q->p<q:=fun l=>by
  have one:∀x y:Nt,x∈ns->y∈ns->pA x y -> ∀p q,lK os x.1 x.2.1.toNat p->lK os y.1 y.2.1.toNat q->p<q:=fun x y hx hy ld p q ap aq=>by
   obtain ⟨_,_,⟨o0,o1⟩,⟨m0,m1⟩,_⟩:=ok.2.2 x hx;obtain ⟨m,am⟩:=vI oo o0 o1 m0 m1;have h1:=ks x hx p m ap am;have aq':lK os x.2.2.1 y.2.1.toNat q:=by rw [ld.1];exact aq
   have h2:=Et am aq' (by have:=ld.2;omega);omega
  induction l with
  | nil=>intro x z hx hz lk p q ap aq;exact one x z (hx x (by simp)) hz lk.1 p q ap aq
  | cons y l ih=>
    intro x z hx hz lk p q ap aq;have hy:=hx y (by simp);obtain ⟨⟨a0,a1⟩,⟨b0,b1⟩,_⟩:=ok.2.2 y hy;obtain ⟨m,am⟩:=vI oo a0 a1 b0 b1;have h1:=one x y (hx x (by simp)) hy lk.1 p m ap am;have h2:=ih y z (fun w hw=>hx w (by simp at hw ⊢;exact .inr hw)) hz lk.2 m q am aq;omega
 rintro c ⟨x,l,rfl,mem,lk⟩;obtain ⟨⟨a0,a1⟩,⟨b0,b1⟩,_⟩:=ok.2.2 x (mem x (by simp));obtain ⟨p,ap⟩:=vI oo a0 a1 b0 b1;have:=up l x x mem (mem x (by simp)) lk p p ap ap;omega
def nK (x:Nt):List Int:=[x.1,x.2.1,x.2.2.1,x.2.2.2]
def toN:List Int->Nt
 | [a,b,c,d]=>(a,b,c,d)
 | _=>(0,0,0,0)
theorem zf (x:Nt):toN (nK x)=x:=rfl
inductive Pt (ns:List Nt) (f:Nt):Nat->Nt->Prop
 | one:Pt ns f 1 f
 | more {n:Nat} {x y:Nt}:Pt ns f n x->y∈ns->pA x y->Pt ns f (n+1) y
theorem Bo {ns:List Nt} {f:Nt}:∀(l:List Nt) (x:Nt) (n:Nat),(∀y∈l,y∈ns)->Lk (x::l++[f])->Pt ns f n x -> ∃z,Pt ns f (n+l.length) z/\pA z f
 | [],x,n,_,lk,p=>⟨x,p,lk.1⟩
 | y::l,x,n,mem,lk,p=>by
   obtain ⟨z,h1,h2⟩:=Bo l y (n+1) (fun w hw=>mem w (by simp [hw])) lk.2 (.more p (mem y (by simp)) lk.1);exact ⟨z,by rw [List.length_cons,show n+(l.length+1)=n+1+l.length by omega];exact h1,h2⟩
theorem G6 {ns:List Nt} {f:Nt} {r:List Nt} (R:oH ns (f::r)):∃z,Pt ns f (r.length+1) z/\pA z f:=by
 obtain ⟨x,r',e,mem,lk⟩:=R;cases e;obtain ⟨z,h1,h2⟩:=Bo r f 1 (fun y hy=>mem y (by simp [hy])) lk .one;exact ⟨z,by rw [Nat.add_comm];exact h1,h2⟩
theorem Ph {ns:List Nt} {f z:Nt} {n:Nat} (p:Pt ns f n z):0<n:=by cases p<;>omega
theorem SQ {ns:List Nt} {f z:Nt} {n:Nat} (hf:f∈ns) (p:Pt ns f n z):∃c,c.length+1=n/\(∀y∈c++[z],y∈ns)/\Lk (c++[z])/\(c++[z]).head?=some f:=by
 induction p with
 | one=>exact ⟨[],rfl,fun y hy=>by rw [List.mem_singleton.mp hy];exact hf,True.intro,rfl⟩
 | @more n x y p hy ld ih=>
   obtain ⟨c,e1,e2,e3,e4⟩:=ih;refine ⟨c++[x],by rw [List.length_append];simpa using e1,fun w hw=> ?_, ?_, ?_⟩
   ·rcases List.mem_append.mp hw with hw|hw
    ·exact e2 w hw
    ·rw [List.mem_singleton.mp hw];exact hy
   ·rw [List.append_assoc]
    exact (iz c).mpr ⟨e3,ld,True.intro⟩
   ·rw [List.head?_append,e4];rfl
theorem Pg {ns:List Nt} {f z:Nt} {n:Nat} (hf:f∈ns) (p:Pt ns f n z) (ld:pA z f):∃c,oH ns c/\c.length=n:=by
 obtain ⟨c,e1,e2,e3,e4⟩:=SQ hf p
 have lk:Lk (c++[z]++[f]):=by
  rw [List.append_assoc];exact (iz c).mpr ⟨e3,ld,True.intro⟩
 have ln:(c++[z]).length=n:=by rw [List.length_append];simpa using e1
 cases e:c++[z] with
 | nil=>rw [e] at e4;cases e4
 | cons x r=>
   rw [e] at e4 lk e2 ln;cases e4;exact ⟨f::r,⟨f,r,rfl,e2,lk⟩,ln⟩
structure rT (ns:List Nt) (f:Nt) (L:List (Nt×Nat)) (a:Nat) (ys:List Nt):Prop where
 hd:L[0]? = some (f,1)
 nd:(L.map (·.1)).Nodup
 inn:∀e∈L,e.1∈ns/\Pt ns f e.2 e.1
 mono:∀(i j:Nat) e e',i<=j->L[i]? = some e->L[j]? = some e'->e.2<=e'.2
 near:∀e,L[a]? = some e -> ∀e'∈L,e'.2<=e.2+1
 done:∀(i:Nat) e,i<a->L[i]? = some e -> ¬pA e.1 f /\ ∀y∈ns,pA e.1 y -> ∃e'∈L,e'.1=y/\e'.2<=e.2+1
 here:∀e,L[a]? = some e -> ∀y∈ys,pA e.1 y -> ∃e'∈L,e'.1=y
theorem ab' {ns:List Nt} {f:Nt} (hf:f∈ns):rT ns f [(f,1)] 0 [] where
 hd:=rfl
 nd:=by simp
 inn:=fun e he=>by rw [List.mem_singleton.mp he];exact ⟨hf,.one⟩
 mono:=fun i j e e' _ h1 h2=>by
  rw [List.mem_singleton.mp (List.mem_of_getElem? h1),List.mem_singleton.mp (List.mem_of_getElem? h2)];exact Nat.le_refl _
 near:=fun e he e' he'=>by
  rw [List.mem_singleton.mp (List.mem_of_getElem? he),List.mem_singleton.mp he'];exact Nat.le_succ _
 done:=fun i e hi=>absurd hi (Nat.not_lt_zero _)
 here:=fun e _ y hy=>by cases hy
theorem rT.key {ns:List Nt} {f:Nt} {L:List (Nt×Nat)} {a:Nat} {ys:List Nt} (B:rT ns f L a ys) {e:Nt×Nat} (he:L[a]? = some e) {n:Nat} {x:Nt} (p:Pt ns f n x):n<=e.2 -> ∃(i:Nat) (e':Nt×Nat),L[i]? = some e'/\e'.1=x/\e'.2<=n:=by
 induction p with
 | one=>exact fun _=>⟨0,_,B.hd,rfl,Nat.le_refl _⟩
 | @more n x y p hy ld ih=>
   intro le;obtain ⟨i,e',h1,h2,h3⟩:=ih (by omega)
   have ia:i<a:=by
    refine Nat.lt_of_not_le fun z=> ?_;have:=B.mono a i e e' z he h1;omega
   obtain ⟨e2,m2,e3,e4⟩:=(B.done i e' ia h1).2 y hy (by rw [h2];exact ld);obtain ⟨j,hj⟩:=List.getElem?_of_mem m2;exact ⟨j,e2,hj,e3,by omega⟩
theorem rT.min {ns:List Nt} {f:Nt} {L:List (Nt×Nat)} {a:Nat} {ys:List Nt} (B:rT ns f L a ys) {e:Nt×Nat} (he:L[a]? = some e) {r:List Nt} (R:oH ns (f::r)):e.2<=r.length+1:=by
 refine Nat.le_of_not_lt fun lt=> ?_;obtain ⟨z,p,ld⟩:=G6 R;obtain ⟨i,e',h1,h2,h3⟩:=B.key he p (by omega)
 have ia:i<a:=by
  refine Nat.lt_of_not_le fun z=> ?_;have:=B.mono a i e e' z he h1;omega
 exact (B.done i e' ia h1).1 (by rw [h2];exact ld)
theorem rT.fin {ns:List Nt} {f:Nt} {L:List (Nt×Nat)} {a:Nat} {ys:List Nt} (B:rT ns f L a ys) (le:L.length<=a) (r:List Nt):¬oH ns (f::r):=fun R=>by
 have all:∀{n:Nat} {x:Nt},Pt ns f n x -> ∃(i:Nat) (e':Nt×Nat),L[i]? = some e'/\e'.1=x:=fun {n x} p=>by
  induction p with
  | one=>exact ⟨0,_,B.hd,rfl⟩
  | @more n x y p hy ld ih=>
    obtain ⟨i,e',h1,h2⟩:=ih;have il:=(List.getElem?_eq_some_iff.mp h1).1;obtain ⟨e2,m2,e3,_⟩:=(B.done i e' (by omega) h1).2 y hy (by rw [h2];exact ld);obtain ⟨j,hj⟩:=List.getElem?_of_mem m2;exact ⟨j,e2,hj,e3⟩
 obtain ⟨z,p,ld⟩:=G6 R;obtain ⟨i,e',h1,h2⟩:=all p;have il:=(List.getElem?_eq_some_iff.mp h1).1;exact (B.done i e' (by omega) h1).1 (by rw [h2];exact ld)
theorem rT.next {ns:List Nt} {f:Nt} {L:List (Nt×Nat)} {a:Nat} (B:rT ns f L a ns) {e:Nt×Nat} (he:L[a]? = some e) (nl:¬pA e.1 f):rT ns f L (a+1) [] where
 hd:=B.hd
 nd:=B.nd
 inn:=B.inn
 mono:=B.mono
 near:=fun e1 h1 e' he'=>by
  have:=B.near e he e' he';have:=B.mono a (a+1) e e1 (by omega) he h1;omega
 done:=fun i e1 hi h1=>by
  by_cases z:i<a
  ·exact B.done i e1 z h1
  ·have:i=a:=by omega
   subst this;rw [he] at h1;cases h1;refine ⟨nl,fun y hy ld=> ?_⟩;obtain ⟨e',m,q⟩:=B.here e he y hy ld;exact ⟨e',m,q,B.near e he e' m⟩
 here:=fun e _ y hy=>by cases hy
theorem rT.seen {ns:List Nt} {f:Nt} {L:List (Nt×Nat)} {a:Nat} {ys:List Nt} (B:rT ns f L a ys) {e:Nt×Nat} (he:L[a]? = some e) {y:Nt} (h:pA e.1 y -> ∃e'∈L,e'.1=y):rT ns f L a (ys++[y]):={B with
 here:=fun e1 h1 z hz ld=>by
  rw [he] at h1;cases h1;rcases List.mem_append.mp hz with hz|hz
  ·exact B.here e he z hz ld
  ·have:z=y:=by simpa using hz
   subst this;exact h ld}
theorem rT.put {ns:List Nt} {f:Nt} {L:List (Nt×Nat)} {a:Nat} {ys:List Nt} (B:rT ns f L a ys) {e:Nt×Nat} (he:L[a]? = some e) {y:Nt} (hy:y∈ns) (ld:pA e.1 y) (no:y∉L.map (·.1)):rT ns f (L++[(y,e.2+1)]) a (ys++[y]):=by
 have al:=(List.getElem?_eq_some_iff.mp he).1
 have old:∀{i:Nat} {x:Nt×Nat},L[i]? = some x->(L++[(y,e.2+1)])[i]? = some x:=fun {i x} h=>by
  rw [List.getElem?_append_left (List.getElem?_eq_some_iff.mp h).1];exact h
 have back:∀{i:Nat} {x:Nt×Nat},(L++[(y,e.2+1)])[i]? = some x->L[i]? = some x\/(L.length<=i/\x=(y,e.2+1)):=fun {i x} h=>by
  by_cases z:i<L.length
  ·rw [List.getElem?_append_left z] at h;exact .inl h
  ·refine .inr ⟨by omega, ?_⟩
   rw [List.getElem?_append_right (by omega)] at h;simpa using (List.mem_of_getElem? h)
 have hea:∀{x},(L++[(y,e.2+1)])[a]? = some x->x=e:=fun {x} h=>by
  rw [List.getElem?_append_left al,he] at h;exact (Option.some.inj h).symm
 constructor
 ·exact old B.hd
 ·rw [List.map_append]
  refine List.nodup_append.mpr ⟨B.nd,by simp,fun x hx z hz=> ?_⟩;have:z=y:=by simpa using hz
  subst this;exact fun q=>no (q▸hx)
 ·intro x hx
  rcases List.mem_append.mp hx with hx|hx
  ·exact B.inn x hx
  ·rw [List.mem_singleton.mp hx]
   exact ⟨hy,.more (B.inn e (List.mem_of_getElem? he)).2 hy ld⟩
 ·intro i j x x' ij h1 h2
  rcases back h1 with h1|⟨l1,rfl⟩<;>rcases back h2 with h2|⟨l2,rfl⟩
  ·exact B.mono i j x x' ij h1 h2
  ·exact B.near e he x (List.mem_of_getElem? h1)
  ·have:=(List.getElem?_eq_some_iff.mp h2).1
   omega
  ·exact Nat.le_refl _
 ·intro x hx x' hx'
  rw [hea hx];rcases List.mem_append.mp hx' with hx'|hx'
  ·exact B.near e he x' hx'
  ·rw [List.mem_singleton.mp hx']
   exact Nat.le_refl _
 ·intro i x hi hx
  have hx:L[i]? = some x:=by
   rw [List.getElem?_append_left (by omega)] at hx;exact hx
  obtain ⟨h1,h2⟩:=B.done i x hi hx;refine ⟨h1,fun z hz l=> ?_⟩;obtain ⟨e',m,q⟩:=h2 z hz l;exact ⟨e',List.mem_append.mpr (.inl m),q⟩
 ·intro x hx z hz l
  rw [hea hx] at l;rcases List.mem_append.mp hz with hz|hz
  ·obtain ⟨e',m,q⟩:=B.here e he z hz l
   exact ⟨e',List.mem_append.mpr (.inl m),q⟩
  ·have:z=y:=by simpa using hz
   subst this;exact ⟨(z,e.2+1),List.mem_append.mpr (.inr (by simp)),rfl⟩
def jk (ns:List Nt) (f:Nt) (n:Int):Prop:=(n=0 /\ ∀r,¬oH ns (f::r))\/(0<n/\(∃c,oH ns c/\(c.length:Int)=n) /\ ∀r,oH ns (f::r)->n<=((f::r).length:Int))
theorem rT.least {ns:List Nt} {f:Nt} {L:List (Nt×Nat)} {a:Nat} {ys:List Nt} (hf:f∈ns) (B:rT ns f L a ys) {e:Nt×Nat} (he:L[a]? = some e) (ld:pA e.1 f):jk ns f (e.2:Nat):=by
 have p:=(B.inn e (List.mem_of_getElem? he)).2;obtain ⟨c,R,l⟩:=Pg hf p ld;refine .inr ⟨by have:=Ph p;omega,⟨c,R,by omega⟩,fun r R=> ?_⟩;have:=B.min he R;rw [List.length_cons];omega
def rN (ns:List Nt) (n:Int):Prop:=(n=0 /\ ∀c,¬oH ns c)\/(0<n/\(∃c,oH ns c/\(c.length:Int)=n) /\ ∀c,oH ns c->n<=(c.length:Int))
theorem qL {ns:List Nt} {a b:Int} (ha:rN ns a) (hb:rN ns b):a=b:=by
 rcases ha with ⟨a1,a2⟩|⟨a1,⟨c,R,l⟩,a3⟩<;>rcases hb with ⟨b1,b2⟩|⟨b1,⟨c',R',l'⟩,b3⟩
 ·omega
 ·exact absurd R' (a2 c')
 ·exact absurd R (b2 c)
 ·have:=a3 c' R'
  have:=b3 c R;omega
theorem Bp {ns ms:List Nt} (h:∀x,x∈ns↔x∈ms) {c:List Nt}:oH ns c↔oH ms c:=by
 constructor
 ·rintro ⟨x,r,e,mem,lk⟩
  exact ⟨x,r,e,fun y hy=>(h y).mp (mem y hy),lk⟩
 ·rintro ⟨x,r,e,mem,lk⟩
  exact ⟨x,r,e,fun y hy=>(h y).mpr (mem y hy),lk⟩
theorem QT {ns ms:List Nt} (h:∀x,x∈ms↔x∈ns) {ds:List Int} (dl:ds.length=ms.length) (hd:∀(i:Nat) x d,ms[i]? = some x->ds[i]? = some d->jk ms x d) {m:Int}
 (hm:(ds.filter (fun d=>decide (d>0))=[]/\m=0)\/(m∈ds.filter (fun d=>decide (d>0)) /\ ∀a∈ds.filter (fun d=>decide (d>0)),m<=a)):rN ns m:=by
 have mem:∀d∈ds,∃x∈ms,jk ms x d:=fun d hx=>by
  obtain ⟨i,hi⟩:=List.getElem?_of_mem hx;have il:=(List.getElem?_eq_some_iff.mp hi).1;have e:ms[i]? = some (ms[i]'(by omega)):=by simp [show i<ms.length by omega]
  exact ⟨_,List.mem_of_getElem? e,hd i _ d e hi⟩
 have ex:∀x∈ms,∃d∈ds,jk ms x d:=fun x hx=>by
  obtain ⟨i,hi⟩:=List.getElem?_of_mem hx;have il:=(List.getElem?_eq_some_iff.mp hi).1;have e:ds[i]? = some (ds[i]'(by omega)):=by simp [show i<ds.length by omega]
  exact ⟨_,List.mem_of_getElem? e,hd i x _ hi e⟩
 have first:∀c,oH ns c -> ∃d∈ds.filter (fun d=>decide (d>0)),d<=(c.length:Int):=fun c R=>by
  have R':=(Bp h).mpr R;obtain ⟨x,r,rfl,mm,lk⟩:=id R';obtain ⟨d,d1,d2⟩:=ex x (mm x (by simp));rcases d2 with ⟨_,z⟩|⟨d3,_,d4⟩
  ·exact absurd R' (z r)
  ·exact ⟨d,List.mem_filter.mpr ⟨d1,decide_eq_true d3⟩,d4 r R'⟩
 rcases hm with ⟨e,rfl⟩|⟨m1,m2⟩
 ·refine .inl ⟨rfl,fun c R=> ?_⟩
  obtain ⟨d,d1,_⟩:=first c R;rw [e] at d1;cases d1
 ·obtain ⟨d1,d2⟩:=List.mem_filter.mp m1
  have d2:m>0:=of_decide_eq_true d2;obtain ⟨x,_,l⟩:=mem m d1;rcases l with ⟨z,_⟩|⟨_,⟨c,R,e⟩,_⟩
  ·omega
  ·refine .inr ⟨by omega,⟨c,(Bp h).mp R,e⟩,fun c' R'=> ?_⟩
   obtain ⟨d,q1,q2⟩:=first c' R';have:=m2 d q1;omega
def Bq (ns:List Nt) (h k:Int):Nat->uL->Option (List Nt)
 | 0,_=>none
 | n+1,C=>match cI (gk ns C) h with
   | none=>Bq ns h k n (gk ns C)
   | some r=>if r.1<=k then some r.2 else Bq ns h k n (gk ns C)
theorem O4 {ns:List Nt} {h k:Int} {n:Nat} {C:uL} (nr:∀r,cI (gk ns C) h=some r -> ¬r.1<=k):Bq ns h k (n+1) C=Bq ns h k n (gk ns C):=by
 show (match cI (gk ns C) h with
  | none=>Bq ns h k n (gk ns C)
  | some r=>if r.1<=k then some r.2 else Bq ns h k n (gk ns C))=_
 cases e:cI (gk ns C) h with
 | none=>rfl
 | some r=>exact if_neg (nr r e)
theorem Ky {ns:List Nt} {h k:Int} {n:Nat} {C:uL} {r:Int×List Nt} (e:cI (gk ns C) h=some r) (l:r.1<=k):Bq ns h k (n+1) C=some r.2:=by
 show (match cI (gk ns C) h with
  | none=>Bq ns h k n (gk ns C)
  | some r=>if r.1<=k then some r.2 else Bq ns h k n (gk ns C))=_
 rw [e];exact if_pos l
def G7 (cs:List Int) (ns:List Nt) (h k:Int):Option (List Nt):=Bq ns h k cs.length [(h,k,[])]
def lW (K:PySem.W.Frag):Sp:=fun vs H Q _=>∃(t c a st:Addr) (cs:List Int) (ns:List Nt) (h k:Int),vs=[.ref t,.ref st]/\RecAt H t c a cs ns/\fH cs ns/\H st=some (.tup [.int h,.int k]) /\
 (∀H',Same H H'->(∀c',jj ns h k c'->cs.length<c'.length)->G7 cs ns h k=none->Q .non H') /\ ∀(p:Addr) (c':List Nt) (H':Hp),Same H H'->H p=none->bQ H' p c'->jj ns h k c'->c'.length<=cs.length->(∀c2,jj ns h k c2->c'.length<=c2.length)->G7 cs ns h k=some c'->Q (.ref p) H'
theorem xg {f:Addr} {fd:FuncData} (F:jX K "ring_from" "ring_from" cL f fd) (oZ:FnAt P w K mg base 1 "longer_chains" ["record","chains"] (pP K)) (Bt:o7 mg):cT P w K mg base jV 2 f fd ["record","start"] (lW K):=by
 refine F.ok fK (fun vs H Q E h=> ?_) (fun cdv A outer s H vs Q E hr h=> ?_)
 ·obtain ⟨t,c,a,st,cs,ns,h,k,rfl,_⟩:=h
  rfl
 ·obtain ⟨t,c,a,st,cs,ns,h,k,rfl,R,ok,hst,kN,kR⟩:=h
  have hu:=lR hr;have c8:=ok.1.1;have nl:=ok.2.1
  refine ⟨_,(au (aU (i:=2) fK.nd rfl (Or.inl rfl) (Hv (aL (aO (K:=K) rfl) (pv 1) ao (fun _ _=>rfl)) (jG (aj (aL (aO (K:=K) rfl) (pv 1) ao (fun _ _=>rfl)) (aj (cY ak) ak)))))
   (au (gM PassesOwn.never rfl (cg (by rfl) Bt.dJ (aj (aN (aH (K:=K) rfl) (by rfl) Bt.cj bH (aj (aL (aO (K:=K) rfl) (pv 0) ao (fun _ _=>rfl)) ak)) ak)) (bf (i:=3) fK.nd rfl (Or.inl rfl))
   (au (aU (i:=2) fK.nd rfl (Or.inl rfl) (aZ oZ (hr.mono (by decide)) (by rfl) (aj (pv 0) (aj (pv 2) ak))))
   (au (aU (i:=4) fK.nd rfl (Or.inl rfl) (wZ hu (pv 2) (aL (aO (K:=K) rfl) (pv 1) ao (fun _ _=>rfl)) ⟨rfl,rfl,rfl,rfl⟩))
   (aF (b_ (PW.pt (j8 (aX lA (pv 4) gO (aV _)) (iI (aX w6 (aL (aO (K:=K) rfl) (pv 4) ao (fun _ _=>rfl)) (aL (aO (K:=K) rfl) (pv 1) ao (fun _ _=>rfl)) (aV _))))) (aF (aW (aL (aO (K:=K) rfl) (pv 4) ao (fun _ _=>rfl)))) bh)))))
   (aF (aW gO)))), ?_⟩
  intro d hd;have s1:=aD (o:=HO.dK []) hd;refine ⟨_,rfl,_,_,_,_,rfl,rfl,cH.of (s1 _ _ hst),rfl, ?_⟩;refine ⟨_,rfl,_,_,_,_,rfl,rfl,cH.of (s1 _ _ hst),rfl,(by show 0<=sizeLine;decide),fun l hl=> ?_⟩;have s2:=aD (o:=HO.lst []) hl;refine ⟨(by show 2<=sizeLine;decide),fun p hp=> ?_⟩;have s3:=aD (o:=HO.tup [V.int k,V.ref l]) hp;have Rt:=s2.trans s3;have hd0:(upd (upd (upd H d (.dK [])) l (.lst [])) p (.tup [V.int k,V.ref l])) d=some (.dK []):=Rt _ _ aA;refine ⟨Sum.inl h,rfl,hd0, ?_⟩;have kd:Kp d (upd (upd (upd H d (.dK [])) l (.lst [])) p (.tup [V.int k,V.ref l])) (upd (upd (upd (upd H d (.dK [])) l (.lst [])) p (.tup [V.int k,V.ref l])) d (.dK [(Sum.inl h,V.ref p)])):=Kp.set;have S4:Same H (upd (upd (upd (upd H d (.dK [])) l (.lst [])) p (.tup [V.int k,V.ref l])) d (.dK [(Sum.inl h,V.ref p)])):=fun b u e=>kd _ _ (Rt _ _ (s1 _ _ e)) (aC e hd);have N4:bQ (upd (upd (upd H d (.dK [])) l (.lst [])) p (.tup [V.int k,V.ref l])) l []:=⟨[],s3 _ _ aA,by simp [aG]⟩;have E4:rP H (upd (upd (upd H d (.dK [])) l (.lst [])) p (.tup [V.int k,V.ref l])) (Sum.inl h,V.ref p) (h,k,[]):=⟨rfl,p,l,rfl,aA,N4,s1.free hl⟩;have CA4:JW H (upd (upd (upd (upd H d (.dK [])) l (.lst [])) p (.tup [V.int k,V.ref l])) d (.dK [(Sum.inl h,V.ref p)])) d [(h,k,[])]:=⟨_,aA,E4.kp hd0 kd,True.intro⟩;generalize (upd (upd (upd (upd H d (.dK [])) l (.lst [])) p (.tup [V.int k,V.ref l])) d (.dK [(Sum.inl h,V.ref p)]))=H4 at S4 CA4 ⊢;have R4:=R.same S4;clear kd hd0 s1 s2 s3 Rt N4 E4 hl hp hd;refine ⟨_,rfl,_,_,_,_,rfl,rfl,cH.of R4.1,rfl,c,_,rfl,.inl (aY.of R4.2.1),_,rfl,by rw [List.length_map];omega,by rw [List.length_map];omega, ?_⟩;have Em:(((cs.map V.int).length:Nat):Int).toNat=cs.length:=by simp
  rw [Em]
  refine gC (lo:=0) (n:=cs.length) (fun i σ H5=>∃(d:Addr) (C:uL) (x1 x2:Option V),σ=[some (.ref t),some (.ref st),some (.ref d),x1,x2]/\Same H H5/\JW H H5 d C/\Best ns h k i C/\(∀c',jj ns h k c'->i<c'.length)/\G7 cs ns h k=Bq ns h k (cs.length - i) C)
   ⟨d,_,none,none,rfl,S4,CA4,Vd ns h k,fun c' r=>List.length_pos_iff.mpr r.1,rfl⟩ ?_ ?_
  ·rintro i σ H5 hi ⟨d,C,x1,x2,rfl,S5,CA5,B5,no,er⟩
   refine ⟨_,rfl,_,rfl,t,c,a,d,cs,ns,C,H,rfl,S5,R.same S5,by omega,CA5,fun e he=>by rw [(B5.ch e he).2];omega,fun d' H6 hd' CA6 s6=> ?_⟩;have S6:=S5.trans s6;have T8:=S6 _ _ hst;obtain ⟨kvs,Ge,cr6⟩:=id CA6;have B6:=El B5;refine ⟨_,rfl,d',rfl,.inl ⟨_,.inl Ge⟩,_,rfl,_,_,_,_,rfl,rfl,cH.of T8,rfl,_,gK.k (k:=Sum.inl h) Ge, ?_⟩
   have go:(∀r,cI (gk ns C) h=some r -> ¬r.1<=k) -> ∃(d:Addr) (C:uL) (x1 x2:Option V),[some (V.ref t),some (.ref st),some (.ref d'),some (.int (0+(i:Int))),some ((bW kvs (Sum.inl h)).getD .non)]=[some (.ref t),some (.ref st),some (.ref d),x1,x2]/\Same H H6/\JW H H6 d C/\Best ns h k (i+1) C/\(∀c',jj ns h k c'->i+1<c'.length)/\G7 cs ns h k=Bq ns h k (cs.length - (i+1)) C:=fun nr=>by
    refine ⟨d',_,_,_,rfl,S6,CA6,B6,fun c' r=> ?_,er.trans ((congrArg (fun n=>Bq ns h k n C) (show cs.length - i=cs.length - (i+1)+1 by omega)).trans (O4 nr))⟩;have l1:=no c' r
    by_cases e:c'.length=i+1
    ·obtain ⟨ne,m,hc,le⟩:=r
     obtain ⟨q,hq,q1,q2⟩:=B6.le c' h m hc e;have:=qI B6.nd hq;rw [q1] at this;exact absurd (Int.le_trans q2 le) (nr _ this)
    ·omega
   refine ⟨_,rfl,rfl,_,rfl, ?_⟩;rcases cr6.val h with ⟨e1,e2⟩|⟨r,tc,lc,e1,e2,htc,hlc,fl⟩
   ·rw [e1] at go ⊢
    refine dG (fun q=>absurd q (by simp)) (fun _=> ?_);exact go fun r z=>by rw [e2] at z;cases z
   rw [e1] at go ⊢;refine dG (fun _=> ?_) (fun q=>absurd (by simp) q);refine ⟨_,rfl,_,_,_,_,rfl,rfl,cH.of htc,rfl,_,rfl,_,_,_,_,rfl,rfl,cH.of T8,rfl,_,_,rfl,rfl,_,rfl, ?_⟩
   by_cases w:r.1<=k
   ·rw [decide_eq_true w]
    refine iB ?_;obtain ⟨rc,rl⟩:=B6.ch _ (jg e2);refine ⟨_,rfl,_,_,_,_,rfl,rfl,cH.of htc,rfl, ?_⟩;refine kR lc r.2 H6 S6 fl hlc ⟨fun z=> ?_,r.1,rc,w⟩ (by rw [show r.2.length=i+1 from rl];omega) (fun c2 r2=>by rw [show r.2.length=i+1 from rl];exact no c2 r2) (er.trans ((congrArg (fun n=>Bq ns h k n C) (show cs.length - i=cs.length - (i+1)+1 by omega)).trans (Ky e2 w)));have rl2:r.2.length=i+1:=rl;rw [z] at rl2;cases rl2
   ·rw [decide_eq_false w]
    refine dj ?_;exact go fun r' z=>by rw [e2] at z;cases z;exact w
  ·rintro σ H5 ⟨d,C,x1,x2,rfl,S5,CA5,B5,no,er⟩
   exact kN H5 S5 no (by rw [er,Nat.sub_self];rfl)
theorem qH {α β:Type} (f:α->β):∀(l:List α) (m:Nat),(l.map f).eraseIdx m=(l.eraseIdx m).map f
 | [],_=>rfl
 | _::_,0=>rfl
 | x::l,m+1=>by simp only [List.map_cons,List.eraseIdx_cons_succ,qH f l m]
def t_ (x y:Nt):Bool:=decide (x.2.2.1=y.1)&&decide (x.2.2.2<=y.2.1)
def M_ (ns:List Nt) (x:Nt):Bool:= !decide (x.1=x.2.2.1)&&decide (x∈ns)
def G5 (ms:List Nt):List Nt:=ms.drop 1++ms.take 1
def yL (ns ms:List Nt):Prop:=ms≠[] /\ ∀j x y,ms[j]? = some x->ms[(j+1) % ms.length]? = some y->x∈ns/\t_ x y=true
theorem Bm (ms:List Nt) (j:Nat) (hj:j<ms.length):(G5 ms)[j]? = ms[(j+1) % ms.length]? :=by
 unfold G5
 by_cases h:j+1<ms.length
 ·rw [Nat.mod_eq_of_lt h,List.getElem?_append_left (by rw [List.length_drop];omega),List.getElem?_drop,Nat.add_comm]
 ·have e:j+1=ms.length:=by omega
  rw [e,Nat.mod_self,List.getElem?_append_right (by rw [List.length_drop];omega),List.length_drop];have:j - (ms.length - 1)=0:=by omega
  rw [this,List.getElem?_take_of_lt (by omega)]
theorem Bl (ms:List Nt):(G5 ms).length=ms.length:=by
 unfold G5;rw [List.length_append,List.length_drop,List.length_take];omega
theorem JL (ns:List Nt) (x:Nt):((ns.map nD).any fun e=>PyData.eqv e (nD x))=decide (x∈ns):=by
 rw [Bool.eq_iff_iff,List.any_eq_true,decide_eq_true_iff];constructor
 ·rintro ⟨e,he,q⟩
  obtain ⟨y,hy,rfl⟩:=List.mem_map.mp he;rw [kE,decide_eq_true_iff] at q;exact q▸hy
 ·intro h
  exact ⟨nD x,List.mem_map.mpr ⟨x,h,rfl⟩,by rw [kE,decide_eq_true_iff]⟩
theorem kZ (x:Nt):SeqAt.shaped (nD x)=true:=rfl
theorem Jl {α β γ:Type} (g:α->β->γ):∀(xs:List α) (ys:List β),xs.length=ys.length->(List.range xs.length).filterMap (fun i=>(xs[i]?).bind fun x=>(ys[i]?).map fun y=>g x y)=List.zipWith g xs ys
 | [],[],_=>rfl
 | [],_::_,h=>by simp at h
 | _::_,[],h=>by simp at h
 | x::xs,y::ys,h=>by
   have ih:=Jl g xs ys (by simpa using h);rw [List.length_cons,List.range_succ_eq_map,List.filterMap_cons,List.filterMap_map];simp only [List.getElem?_cons_zero,Option.bind_some,Option.map_some,List.zipWith_cons_cons];rw [←ih];rfl
def uV (K:PySem.W.Frag):Sp:=fun vs H Q _=>∃(t u:Addr) (x y:Nt),vs=[.ref t,.ref u]/\H t=some (.tup (nV x))/\H u=some (.tup (nV y))/\Q (.bl (t_ x y)) H
theorem HW {f:Addr} {fd:FuncData} (F:jX K "leads_to" "leads_to" cU f fd):cT P w K mg base jV 1 f fd ["note","following"] (uV K):=by
 refine F.ok wL (fun vs H Q E h=> ?_) (fun cdv A outer s H vs Q E hr h=> ?_)
 ·obtain ⟨t,u,x,y,rfl,_⟩:=h
  rfl
 ·obtain ⟨t,u,x,y,rfl,ht,hu,q⟩:=h
  refine ⟨_,(aF (aW (iW (cZ jP (aL (aO (K:=K) rfl) (pv 0) ao (fun _ _=>rfl)) (aL (aO (K:=K) rfl) (pv 1) ao (fun _ _=>rfl)) (aV _)) (iV (cZ w6 (aL (aO (K:=K) rfl) (pv 0) ao (fun _ _=>rfl)) (aL (aO (K:=K) rfl) (pv 1) ao (fun _ _=>rfl)) (aV _)))))), ?_⟩;refine ⟨_,rfl,_,_,_,_,rfl,rfl,cH.of ht,rfl,_,rfl,_,_,_,_,rfl,rfl,cH.of hu,rfl,rfl,_,rfl, ?_⟩
  by_cases e:x.2.2.1=y.1
  ·refine dG (fun _=> ?_) (fun z=>absurd (decide_eq_true (by rw [e])) z)
   refine ⟨_,rfl,_,_,_,_,rfl,rfl,cH.of ht,rfl,_,rfl,_,_,_,_,rfl,rfl,cH.of hu,rfl,_,_,rfl,rfl, ?_⟩;have:t_ x y=decide (x.2.2.2<=y.2.1):=by simp [t_,e]
   rw [this] at q;exact q
  ·refine dG (fun z=>absurd (of_decide_eq_true z) (fun w=>e (by injection w))) (fun _=> ?_)
   have:t_ x y=false:=by simp [t_,e]
   rw [this] at q;exact q
def zE (K:PySem.W.Frag):Sp:=fun vs H Q _=>∃(t c a p:Addr) (cs:List Int) (ns ms:List Nt),vs=[.ref t,.ref p]/\RecAt H t c a cs ns/\fH cs ns/\bQ H p ms/\ms.length<=200 /\ ∀(bl:Bool) (H':Hp),(bl=true↔yL ns ms)->Same H H'->Q (.bl bl) H'
theorem Dy {cs:List Int} {ns ms:List Nt} (ok:fH cs ns) (ne:ms≠[]) (al:(ms.map (M_ ns)).all id=true):(List.zipWith t_ ms (G5 ms)).all id=true↔yL ns ms:=by
 have al':∀x∈ms,x∈ns:=fun x hx=>by
  rw [List.all_map,List.all_eq_true] at al;have:=al x hx;simp only [Function.comp,id,M_,Bool.and_eq_true,decide_eq_true_eq] at this;exact this.2
 rw [List.all_eq_true];constructor
 ·intro h
  refine ⟨ne,fun j x y ex ey=>⟨al' x (List.mem_of_getElem? ex), ?_⟩⟩;have hj:=(List.getElem?_eq_some_iff.mp ex).1;rw [←Bm ms j hj] at ey;refine h _ (List.mem_of_getElem? (i:=j) ?_);rw [List.getElem?_zipWith,ex,ey];rfl
 ·intro h b hb
  obtain ⟨j,hj⟩:=List.getElem?_of_mem hb;rw [List.getElem?_zipWith] at hj;cases ex:ms[j]? with
  | none=>rw [ex] at hj;simp at hj
  | some x=>
    cases ey:(G5 ms)[j]? with
    | none=>rw [ex,ey] at hj;simp at hj
    | some y=>
      rw [ex,ey] at hj;simp at hj;have hjl:=(List.getElem?_eq_some_iff.mp ex).1;rw [Bm ms j hjl] at ey;rw [←hj];exact (h.2 j x y ex ey).2
theorem La {f:Addr} {fd:FuncData} (F:jX K "ring_shows" "ring_shows" cu f fd) (eX:FnAt P w K mg base 4 "check_notes" ["record"] (j5 K)) (oJ:FnAt P w K mg base 2 "is_note" ["value"] (mQ K)) (Ar:FnAt P w K mg base 1 "leads_to" ["note","following"] (uV K)) (Bt:o7 mg):cT P w K mg base jV 5 f fd ["record","some"] (zE K):=by
 refine F.ok sG (fun vs H Q E h=> ?_) (fun cdv A outer s H vs Q E hr h=> ?_)
 ·obtain ⟨t,c,a,p,cs,ns,ms,rfl,_⟩:=h
  rfl
 ·obtain ⟨t,c,a,p,cs,ns,ms,rfl,R,ok,N,ml,k⟩:=h
  refine ⟨_,(au (dI (aZ eX (hr.mono (by decide)) (by rfl) (aj (pv 0) ak)))
   (au (b_ (PW.pt (jO (gA (tR (K:=K) rfl (pv 1))) (iT (gA (dU (aN (dB (K:=K) rfl rfl) (by rfl) Bt.yJ rA (aj (eF rfl (N:=["note","record"]) (own:=["note"]) (caps:=[0]) (aR.of (by kernel_rfl)) (cN (K:=K) rfl (pv 1)) (fun _ _ _ _=>(bf (i:=0) (show List.Nodup (["note","record"]:List Str) by decide +kernel) rfl (Or.inl rfl))) (fun _ _ _ _=>eE) (fun _ _ _ _=>(iW (aZ oJ (hr.mono (by decide)) (by rfl) (aj (pv 0) ak)) (iV (cZ (K8 (K:=K) rfl hr.uP) (pv 0) (aL (aO (K:=K) rfl) (pv 1) ao (fun _ _=>rfl)) (by with_unfolding_all rfl)))))) ak))))))) (aF (aW gj)) bh)
   (aF (aW (aN (dB (K:=K) rfl rfl) (by rfl) Bt.yJ rA (aj (eF rfl (N:=["note","following"]) (own:=["note","following"]) (caps:=[]) (aR.of (by kernel_rfl)) (K1 (K:=K) rfl (by rfl) Bt.Ve (aj (pv 1) (aj (bx HF (dh (pX (K:=K) rfl) (pv 1) (eY ao) eZ) (dh (pX (K:=K) rfl) (pv 1) eZ (eY ao))) ak))) (fun _ _ _ _=>(BP (K:=K) (n:=2) rfl rfl (mW (bf (i:=0) (show List.Nodup (["note","following"]:List Str) by decide +kernel) rfl (Or.inl rfl)) (mW (bf (i:=1) (show List.Nodup (["note","following"]:List Str) by decide +kernel) rfl (Or.inl rfl)) BL)))) (fun _ _ _ _=>eE) (fun _ _ _ _=>(aZ Ar (hr.mono (by decide)) (by rfl) (aj (pv 0) (aj (pv 1) ak))))) ak)))))), ?_⟩
  refine ⟨_,rfl,t,c,a,cs,ns,rfl,R,ok,fun H1 s1=> ?_⟩;obtain ⟨ht1,hc1,us,ha1,du1⟩:=id (R.same s1);obtain ⟨vs,hp1,Ry⟩:=id (N.same s1);have vl:vs.length=ms.length:=by rw [Ry.length,List.length_map]
  refine ⟨_,rfl, !vs.isEmpty,.inl ⟨vs,aY.of hp1,rfl⟩, ?_⟩
  by_cases e0:ms=[]
  ·have:vs=[]:=List.length_eq_zero_iff.mp (by rw [vl,e0];rfl)
   rw [this];refine iB ?_;exact k false H1 ⟨fun z=>(by cases z),fun z=>absurd e0 z.1⟩ s1
  have:vs.isEmpty=false:=by
   cases vs with
   | nil=>exact absurd (List.length_eq_zero_iff.mp vl.symm) e0
   | cons _ _=>rfl
  rw [this];refine dj ?_;refine ⟨_,rfl,p,rfl,⟨_,aY.of hp1⟩,fun D hD=> ?_⟩;refine ji (K:=K) (fun i=>(ms[i]?).map fun x=>V.bl (M_ ns x)) hD (aY.of hp1) (by omega) (fun i v H2 G F hi s2 kG kF=> ?_) (fun H2 s2 e2=> ?_)
  ·obtain ⟨x,q,ex,rfl,hx⟩:=fW Ry hi
   refine ⟨_,rfl,q,x,rfl,s2 _ _ hx,fun H3 s3=>⟨_,rfl, ?_⟩⟩
   by_cases w:x.1=x.2.2.1
   ·rw [show (!decide (x.1=x.2.2.1))=false by simp [w]]
    refine dj ?_;exact kF _ H3 s3 (by rw [ex];simp [M_,w])
   ·rw [show (!decide (x.1=x.2.2.1))=true by simp [w]]
    refine iB ?_;have zM:=s2.trans s3;refine ⟨_,rfl,_,rfl,_,_,_,_,rfl,rfl,cH.of (zM _ _ ht1),rfl,a,us,nD x,ns.map nD,rfl,aY.of (zM _ _ ha1),aG.keep zM.tups _ (bI _ eU _) du1,jL (s3 _ _ (s2 _ _ hx)),kZ x,fun e he=> ?_, ?_⟩
    ·obtain ⟨y,_,rfl⟩:=List.mem_map.mp he
     exact kZ y
    ·rw [if_neg (by decide),JL]
     exact kF _ H3 s3 (by rw [ex];simp [M_,w])
  rw [vl,pG] at e2;refine ⟨D,ms.map (M_ ns),rfl,aY.of (by rw [e2,List.map_map];rfl),_,rfl, ?_⟩
  by_cases al:(ms.map (M_ ns)).all id=true
  rotate_left
  ·rw [Bool.eq_false_iff.mpr al]
   refine iB ?_;refine k false H2 ⟨fun z=>(by cases z),fun z=>absurd ?_ al⟩ (s1.trans s2);rw [List.all_map,List.all_eq_true];intro x hx;obtain ⟨j,hj⟩:=List.getElem?_of_mem hx;have hjl:=(List.getElem?_eq_some_iff.mp hj).1;have hl2:(j+1) % ms.length<ms.length:=Nat.mod_lt _ (by omega);have hm:=(z.2 j x ms[(j+1) % ms.length] hj (by simp [hl2])).1;have:=(ok.2.2 x hm).2.2.2.2;simp [M_,this,hm]
  rw [al];refine dj ?_;have hp2:=s2 _ _ hp1;refine ⟨_,rfl,_,rfl,_,rfl,p,vs,rfl,aY.of hp2,fun p1 hq1=> ?_⟩;rw [show iH vs (some 1) none=vs.drop 1 from qW vs 1];have u1:=aD (o:=HO.lst (vs.drop 1)) hq1;refine ⟨_,rfl,_,rfl,p,vs,rfl,aY.of (u1 _ _ hp2),fun p2 hq2=> ?_⟩;rw [show iH vs none (some 1)=vs.take 1 from yw vs 1];have u2:=aD (o:=HO.lst (vs.take 1)) hq2;refine ⟨p1,p2,_,_,rfl,rfl,u2 _ _ aA,aA,by rw [sizeLine_eq,List.length_drop,List.length_take];omega,fun p3 hq3=> ?_⟩;have u3:=aD (o:=HO.lst (vs.drop 1++vs.take 1)) hq3;have J0:=(u1.trans u2).trans u3;have Rt:=s2.trans J0;have dv3:=aG.keep Rt.tups _ (bI _ eU _) Ry
  have dr3:aG (upd (upd (upd H2 p1 (HO.lst (vs.drop 1))) p2 (HO.lst (vs.take 1))) p3 (HO.lst (vs.drop 1++vs.take 1))) (vs.drop 1++vs.take 1) ((G5 ms).map nD):=by
   unfold G5;rw [List.map_append,List.map_drop,List.map_take];exact aG.append (dv3.drop 1) (dv3.take 1)
  have rl:(vs.drop 1++vs.take 1).length=ms.length:=by rw [dr3.length,List.length_map,Bl]
  refine ⟨p,p3,_,_,rfl,aY.of (J0 _ _ hp2),aY.of aA,fun D2 hD2=> ?_⟩;refine Fq (K:=K) (n:=ms.length) vl rl (fun i=>(ms[i]?).bind fun x=>((G5 ms)[i]?).map fun y=>V.bl (t_ x y)) hD2 (aY.of (J0 _ _ hp2)) (aY.of aA) (by omega) (fun i v w H4 G F hi hj s4 kG kF=> ?_) (fun H4 s4 e4=> ?_)
  ·obtain ⟨x,q,ex,rfl,hx⟩:=fW dv3 hi
   obtain ⟨y,q',ey,rfl,hy⟩:=fW dr3 hj;exact ⟨_,rfl,_,rfl,q,q',x,y,rfl,s4 _ _ hx,s4 _ _ hy,kF _ H4 (Same.refl _) (by rw [ex,ey];rfl)⟩
  rw [Jl (fun x y=>V.bl (t_ x y)) ms (G5 ms) (Bl ms).symm] at e4;refine ⟨D2,List.zipWith t_ ms (G5 ms),rfl,aY.of (by rw [e4,List.map_zipWith]), ?_⟩;exact k _ H4 (Dy ok e0 al) ((s1.trans Rt).trans s4)
theorem Il:∀{l:List Nt},Lk l -> ∀(i:Nat) a b,l[i]? = some a->l[i+1]? = some b->pA a b
 | [],_,i,a,b,h,_=>by cases h
 | [_],_,i,a,b,_,h=>by simp at h
 | x::y::r,lk,0,a,b,h1,h2=>by
   have e1:x=a:=by simpa using h1
   have e2:y=b:=by simpa using h2
   subst e1 e2;exact lk.1
 | x::y::r,lk,i+1,a,b,h1,h2=>Il (l:=y::r) lk.2 i a b (by simpa using h1) (by simpa using h2)
theorem Dt {ns c:List Nt} (h:oH ns c):yL ns c:=by
 obtain ⟨x,r,rfl,mem,lk⟩:=h;refine ⟨by simp,fun j a b ea eb=> ?_⟩;have jl:=(List.getElem?_eq_some_iff.mp ea).1
 have ld:pA a b:=by
  refine Il lk j a b (by rw [List.getElem?_append_left jl];exact ea) ?_
  by_cases q:j+1<(x::r).length
  ·rw [Nat.mod_eq_of_lt q] at eb
   rw [List.getElem?_append_left q];exact eb
  ·have e:j+1=(x::r).length:=by omega
   rw [e,Nat.mod_self] at eb;have:x=b:=by simpa using eb
   rw [e,this];simp
 exact ⟨mem a (List.mem_of_getElem? ea),by simp [t_,ld.1,ld.2]⟩
theorem uy {cs os:List Int} (h:pJ cs os):nu cs os:=⟨h.1,h.2.2⟩
theorem uz:∀(os:List Int) (n:Nat),(((List.range n).map fun i:Nat=>((os.count (i:Int):Nat):Int)).sum)=(((os.filter fun h=>decide (0<=h/\h<(n:Int))).length:Nat):Int)
 | os,0=>by
   have:os.filter (fun h=>decide (0<=h/\h<((0:Nat):Int)))=[]:=by
    rw [List.filter_eq_nil_iff];intro h _ z;have:=of_decide_eq_true z;omega
   rw [this];rfl
 | os,n+1=>by
   rw [List.range_succ,List.map_append,List.sum_append,uz os n];simp only [List.map_cons,List.map_nil,List.sum_cons,List.sum_nil]
   have:∀os:List Int,((os.filter fun h=>decide (0<=h/\h<((n+1:Nat):Int))).length)=(os.filter fun h=>decide (0<=h/\h<(n:Int))).length+os.count (n:Int):=by
    intro os
    induction os with
    | nil=>rfl
    | cons x os ih=>
      rw [List.filter_cons,List.filter_cons,List.count_cons]
      by_cases e:x=(n:Int)
      ·rw [if_pos (decide_eq_true (by omega)),if_neg (fun z=>by have:=of_decide_eq_true z;omega),if_pos (by simp [e]),List.length_cons,ih]
       omega
      ·have e':¬(x==(n:Int))=true:=by simpa using e
       rw [if_neg e']
       by_cases l:0<=x/\x<(n:Int)
       ·rw [if_pos (decide_eq_true (by omega)),if_pos (decide_eq_true l),List.length_cons,List.length_cons,ih]
        omega
       ·rw [if_neg (fun z=>by have:=of_decide_eq_true z;omega),if_neg (fun z=>l (of_decide_eq_true z)),ih]
        rfl
   rw [this];omega
theorem Jh {cs os:List Int}:nu cs os↔(((List.range cs.length).map fun i:Nat=>((os.count (i:Int):Nat):Int))=cs/\(os.length:Int)=cs.sum):=by
 have eqc:((List.range cs.length).map fun i:Nat=>((os.count (i:Int):Nat):Int))=cs ↔ ∀h:Int,0<=h->h<cs.length->(os.count h:Int)=gI cs h:=by
  constructor
  ·intro e h h0 h1
   obtain ⟨m,rfl⟩:=Int.eq_ofNat_of_zero_le h0;have hm:m<cs.length:=by omega
   have q:((List.range cs.length).map fun i:Nat=>((os.count (i:Int):Nat):Int))[m]? = some ((os.count (m:Int):Nat):Int):=by simp [hm]
   rw [e] at q;exact (fX q).symm
  ·intro e
   refine List.ext_getElem (by simp) fun i h1 h2=> ?_;rw [List.getElem_map,List.getElem_range,e (i:Int) (by omega) (by omega),fX (c:=cs[i]) (by simp [h2])]
 have cs':=uz os cs.length;constructor
 ·rintro ⟨ir,c⟩
  have e:=eqc.mpr c;refine ⟨e, ?_⟩;rw [e] at cs'
  have:os.filter (fun h=>decide (0<=h/\h<(cs.length:Int)))=os:=List.filter_eq_self.mpr fun h hh=>by
   have:=ir h hh;simpa using this
  rw [this] at cs';exact cs'.symm
 ·rintro ⟨e,l⟩
  refine ⟨fun h hh=> ?_,eqc.mp e⟩;rw [e] at cs';have hl:(os.filter fun h=>decide (0<=h/\h<(cs.length:Int))).length=os.length:=by omega
  have:=List.filter_eq_self.mp (List.Sublist.eq_of_length (List.filter_sublist ..) hl) h hh;simpa using this
def qD (x:Nt):PyData:= .tuple [.tuple [.int x.1,.int x.2.1],.bool true]
def Iw (x:Nt):List Key:=[Sum.inl x.1,Sum.inl x.2.1]
def J2 (x:Nt):List Key×V:=(Iw x,V.bl true)
theorem Ut {H:Hp} {t u:Addr} {x:Nt} (h:H t=some (.tup [.ref u,.bl true])) (hu:H u=some (.tup [.int x.1,.int x.2.1])):Dat H (.ref t) (qD x):=by
 simp only [qD,Dat];exact ⟨t,_,rfl,h,by simp only [aG,Dat,and_true];exact ⟨u,_,rfl,hu,by simp only [aG,Dat,and_self]⟩⟩
theorem Fj {H:Hp} {v:V} {x:Nt} (h:Dat H v (qD x)):∃t u,v = .ref t/\H t=some (.tup [.ref u,.bl true])/\H u=some (.tup [.int x.1,.int x.2.1]):=by
 simp only [qD,Dat] at h;obtain ⟨t,vs,e,q,d⟩:=h
 match vs,d with
 | [a,b],d=>
   simp only [aG,Dat,and_true] at d;obtain ⟨⟨u,ws,rfl,hu,dw⟩,rfl⟩:=d
   match ws,dw with
   | [a',b'],dw=>
     simp only [aG,Dat,and_true] at dw;obtain ⟨rfl,rfl⟩:=dw;exact ⟨t,u,e,q,hu⟩
   | [],dw=>simp only [aG] at dw
   | [_],dw=>simp only [aG,and_false] at dw
   | _::_::_::_,dw=>simp only [aG,and_false] at dw
 | [],d=>simp only [aG] at d
 | [_],d=>simp only [aG,and_false] at d
 | _::_::_::_,d=>simp only [aG,and_false] at d
theorem yt {H:Hp}:∀{vs:List V} {ds:List PyData} {i:Nat} {v:V} {d:PyData},aG H vs ds->vs[i]? = some v->ds[i]? = some d->Dat H v d
 | [],[],_,_,_,_,h,_=>by simp at h
 | _::_,_::_,0,_,_,h,h1,h2=>by simp at h1 h2;subst h1;subst h2;simp only [aG] at h;exact h.1
 | _::_,_::_,i+1,_,_,h,h1,h2=>by simp only [aG] at h;exact yt (i:=i) h.2 (by simpa using h1) (by simpa using h2)
 | [],_::_,_,_,_,h,_,_=>by simp only [aG] at h
 | _::_,[],_,_,_,h,_,_=>by simp only [aG] at h
theorem pairs_at {H:Hp}:∀{ws:List V} {ns:List Nt},aG H ws (ns.map qD)->pI H ws (ns.map J2):=fun {ws ns} d=>by
 refine ⟨by rw [d.length,List.length_map,List.length_map],fun i v p hv hp=> ?_⟩;rw [List.getElem?_map] at hp;cases e:ns[i]? with
 | none=>rw [e] at hp;cases hp
 | some x=>
   rw [e] at hp;cases hp;have:=yt d hv (show (ns.map qD)[i]? = some (qD x) by rw [List.getElem?_map,e];rfl);obtain ⟨t,u,e1,e2,e3⟩:=Fj this;exact ⟨t,u,e1,e2,e3⟩
theorem DN (l:List (List Key×V)) (k:List Key) (v:V) (z:List Key):z∈(putK l k v).map (·.1)↔z=k\/z∈l.map (·.1):=by
 unfold putK;split
 ·rename_i h
  obtain ⟨q,hq,e⟩:=List.any_eq_true.mp h;have e:=of_decide_eq_true e
  have em:(l.map fun kv=>if kv.1=k then (kv.1,v) else kv).map (·.1)=l.map (·.1):=by
   rw [List.map_map];refine List.map_congr_left fun y _=> ?_;show (if y.1=k then (y.1,v) else y).1=y.1;split<;>rfl
  rw [em];constructor
  ·exact .inr
  ·rintro (rfl|h)
   ·exact List.mem_map.mpr ⟨q,hq,e⟩
   ·exact h
 ·rw [List.map_append,List.mem_append]
  simp only [List.map_cons,List.map_nil,List.mem_singleton];exact ⟨fun h=>h.symm,fun h=>h.symm⟩
theorem tQ (z:List Key):∀(ps l:List (List Key×V)),z∈(iU l ps).map (·.1)↔z∈l.map (·.1)\/z∈ps.map (·.1)
 | [],l=>by simp [iU]
 | p::ps,l=>by
   show z∈(iU (putK l p.1 p.2) ps).map (·.1)↔_;rw [tQ z ps (putK l p.1 p.2),DN,List.map_cons,List.mem_cons];constructor
   ·rintro ((h|h)|h)
    ·exact .inr (.inl h)
    ·exact .inl h
    ·exact .inr (.inr h)
   ·rintro (h|h|h)
    ·exact .inl (.inr h)
    ·exact .inl (.inl h)
    ·exact .inr h
theorem zA {ns:List Nt} {z:List Key}:z∈(iU [] (ns.map J2)).map (·.1) ↔ ∃x∈ns,z=Iw x:=by
 rw [tQ,List.map_map];simp only [List.map_nil,List.not_mem_nil,false_or,List.mem_map,Function.comp];exact ⟨fun ⟨x,hx,e⟩=>⟨x,hx,e.symm⟩,fun ⟨x,hx,e⟩=>⟨x,hx,e.symm⟩⟩
def fS (cs:List Int) (ns:List Nt) (s:Option (List Nt)) (kk:List Key):Option (List Nt):=
 match kk with
 | [Sum.inl h,Sum.inl k]=>(match G7 cs ns h k with
   | none=>s
   | some c=>(match s with
     | none=>some c
     | some c0=>if c.length<c0.length then some c else some c0))
 | _=>s
def O2 (cs:List Int) (ns:List Nt):Option (List Nt):=((iU [] (ns.map J2)).map (·.1)).foldl (fS cs ns) none
theorem Cy {cs:List Int} {ns:List Nt} {h k:Int} (s:Option (List Nt)) (e:G7 cs ns h k=none):fS cs ns s [Sum.inl h,Sum.inl k]=s:=by
 show (match G7 cs ns h k with
  | none=>s
  | some c=>(match s with
    | none=>some c
    | some c0=>if c.length<c0.length then some c else some c0))=s
 rw [e]
theorem vQ {cs:List Int} {ns:List Nt} {h k:Int} {c:List Nt} (s:Option (List Nt)) (e:G7 cs ns h k=some c):fS cs ns s [Sum.inl h,Sum.inl k]=(match s with
 | none=>some c
 | some c0=>if c.length<c0.length then some c else some c0):=by
 show (match G7 cs ns h k with
  | none=>s
  | some c=>(match s with
    | none=>some c
    | some c0=>if c.length<c0.length then some c else some c0))=_
 rw [e]
def rJ (B H:Hp) (cs:List Int) (ns:List Nt) (ks:List (List Key)) (sv:V):Prop:=
 (sv = .non/\(∀h k,[Sum.inl h,Sum.inl k]∈ks -> ∀c',jj ns h k c'->cs.length<c'.length)/\ks.foldl (fS cs ns) none=none) \/
 ∃p cc,sv = .ref p/\B p=none/\bQ H p cc/\oH ns cc/\cc.length<=cs.length/\(∀h k,[Sum.inl h,Sum.inl k]∈ks -> ∀c',jj ns h k c'->cc.length<=c'.length)/\ks.foldl (fS cs ns) none=some cc
def uT (K:PySem.W.Frag):Sp:=fun vs H Q _=>∃(t c a:Addr) (cs:List Int) (ns:List Nt),vs=[.ref t]/\RecAt H t c a cs ns/\fH cs ns /\
 ((∀ms,¬oH ns ms)->O2 cs ns=none -> ∀H',Same H H'->Q .non H') /\
 (∀(p:Addr) (cc:List Nt) (H':Hp),Same H H'->H p=none->bQ H' p cc->oH ns cc->cc.length<=cs.length->(∀ms,oH ns ms->cc.length<=ms.length)->O2 cs ns=some cc->Q (.ref p) H')
theorem HN {f:Addr} {fd:FuncData} (F:jX K "ring" "ring" jC f fd) (eX:FnAt P w K mg base 4 "check_notes" ["record"] (j5 K)) (yO:FnAt P w K mg base 2 "ring_from" ["record","start"] (lW K)) (Bt:o7 mg):cT P w K mg base jV 5 f fd ["record"] (uT K):=by
 refine F.ok k_ (fun vs H Q E h=> ?_) (fun cdv A outer s H vs Q E hr h=> ?_)
 ·obtain ⟨t,c,a,cs,ns,rfl,_⟩:=h
  rfl
 ·obtain ⟨t,c,a,cs,ns,rfl,R,ok,kN,kR⟩:=h
  have nl0:=ok.2.1;have hu:=lR hr;have dN:=hr.units
  refine ⟨_,(au (dI (aZ eX (hr.mono (by decide)) (by rfl) (aj (pv 0) ak)))
   (au (aU (i:=1) k_.nd rfl (Or.inl rfl) gO)
   (au (aU (i:=2) k_.nd rfl (Or.inl rfl) (eG (yD (K:=K) rfl rfl hr.uP) (by rfl) Bt.Rc Mp (aj (eF rfl (N:=["note"]) (own:=["note"]) (caps:=[]) (aR.of (by kernel_rfl)) (cN (K:=K) rfl (aL (aO (K:=K) rfl) (pv 0) ao (fun _ _=>rfl))) (fun _ _ _ _=>(bf (i:=0) (show List.Nodup (["note"]:List Str) by decide +kernel) rfl (Or.inl rfl))) (fun _ _ _ _=>eE) (fun _ _ _ _=>(jG (aj (dh (gY (K:=K) rfl) (pv 0) eZ (eY ao)) (aj gj ak))))) ak)))
   (au (Hl (gM PassesOwn.never rfl (Hs (pv 2)) (bf (i:=3) k_.nd rfl (Or.inl rfl))
   (au (aU (i:=4) k_.nd rfl (Or.inl rfl) (aZ yO (hr.mono (by decide)) (by rfl) (aj (pv 0) (aj (pv 3) ak))))
   (aF (b_ (PW.pt (j8 (aX lA (pv 4) gO (aV _)) (iI (PW.pt (jO (aX Hz (pv 1) gO (aV _)) (iT (aX j9 (aN (aH (K:=K) rfl) (by rfl) Bt.cj bH (aj (pv 4) ak)) (aN (aH (K:=K) rfl) (by rfl) Bt.cj bH (aj (pv 1) ak)) (aV _)))))))) (aF (aU (i:=1) k_.nd rfl (Or.inl rfl) (pv 4))) bh)))))
   (aF (aW (pv 1))))))), ?_⟩
  refine ⟨_,rfl,t,c,a,cs,ns,rfl,R,ok,fun H1 s1=> ?_⟩;have R1:=R.same s1;obtain ⟨ht1,hc1,Nb,ha1,dn⟩:=id R1;have P_:Nb.length=ns.length:=by rw [dn.length,List.length_map]
  refine ⟨_,rfl,_,_,_,_,rfl,rfl,cH.of ht1,rfl,a,rfl,⟨_,aY.of ha1⟩,fun D hD=> ?_⟩;refine Ft (K:=K) (fun i=>(ns[i]?).map qD) (fun i d e=> ?_) hD (aY.of ha1) (by omega) (fun i v H2 G F hi s2 kG kF=> ?_) (fun H2 ws s2 e2 d2=> ?_)
  ·cases ex:ns[i]? with
   | none=>rw [ex] at e;cases e
   | some x=>rw [ex] at e;cases e;rfl
  ·obtain ⟨x,q,ex,rfl,hx⟩:=fW dn hi
   have hx2:=s2 _ _ hx;refine ⟨_,rfl,_,rfl,_,_,rfl,cH.of hx2,qw _ rfl,fun p1 hp1=> ?_⟩;have c1:iH (nV x) none (some 2)=[.int x.1,.int x.2.1]:=CP ..;rw [c1];have u1:=aD (o:=HO.tup [V.int x.1,V.int x.2.1]) hp1;refine ⟨(by show 2<=sizeLine;decide),fun p2 hp2=> ?_⟩;have u2:=aD (o:=HO.tup [V.ref p1,V.bl true]) hp2;exact kF _ (qD x) _ (u1.trans u2) (by rw [ex];rfl) (Ut aA (u2 _ _ aA))
  rw [P_,pG] at d2;have S2:=s1.trans s2;refine ⟨D,ws,ns.map J2,rfl,aY.of e2,pairs_at d2,fun q hq=> ?_⟩;have uq:(upd H2 q (.dT (iU [] (ns.map J2)))) q=some (.dT (iU [] (ns.map J2))):=aA;have s3:=aD (o:=HO.dT (iU [] (ns.map J2))) hq;have hq0:H q=none:=S2.free hq;have hkeys:∀z,z∈(iU [] (ns.map J2)).map (·.1) ↔ ∃x∈ns,z=Iw x:=fun z=>zA;have hrg:O2 cs ns=((iU [] (ns.map J2)).map (·.1)).foldl (fS cs ns) none:=rfl;generalize iU [] (ns.map J2)=kvs at uq s3 hkeys hrg ⊢;refine ⟨_,rfl,q,_,rfl,uq,fun ob=> ?_⟩;have kq:Kp q (upd H2 q (.dT kvs)) (upd (upd H2 q (.dT kvs)) q (.kh ob (.dT kvs))):=Kp.set;have kfz:Same H2 (upd (upd H2 q (.dT kvs)) q (.kh ob (.dT kvs))):=fun b u e=>kq _ _ (s3 _ _ e) (aC e hq)
  refine QM (fun i σ H5=>∃(sv:V) (x1 x2:Option V),σ=[some (.ref t),some sv,some (.ref q),x1,x2]/\Same H2 H5/\H5 q=some (.kh ob (.dT kvs))/\rJ H H5 cs ns ((kvs.take i).map (·.1)) sv)
   ⟨.non,none,none,rfl,kfz,aA,.inl ⟨rfl,fun h k z=>(by cases z),rfl⟩⟩ (fun i σ H5 _ ⟨_,_,_,_,_,e,_⟩=>e) ?_ ?_
  ·rintro i kk vv b σ H5 hi hb ⟨sv,x1,x2,rfl,s5,T_,sh⟩
   have tk:(kvs.take (i+1)).map (·.1)=(kvs.take i).map (·.1)++[kk]:=by rw [List.take_add_one,hi,List.map_append];rfl
   obtain ⟨x,hx,rfl⟩:=(hkeys kk).mp (List.mem_map.mpr ⟨(kk,vv),List.mem_of_getElem? hi,rfl⟩);have S5:=S2.trans s5
   have key:∀{h k:Int},[Sum.inl h,Sum.inl k]∈(kvs.take (i+1)).map (·.1)->[Sum.inl h,Sum.inl k]∈(kvs.take i).map (·.1)\/(h=x.1/\k=x.2.1):=fun {h k} z=>by
    rw [tk] at z;rcases List.mem_append.mp z with z|z
    ·exact .inl z
    ·have:([Sum.inl h,Sum.inl k]:List Key)=Iw x:=by simpa using z
     unfold Iw at this;injection this with z1 z2
     injection z2 with z2 _
     exact .inr ⟨Sum.inl.inj z1,Sum.inl.inj z2⟩
   dsimp only;refine jw (fun σ H6=>∃fv:V,σ=[some (.ref t),some sv,some (.ref q),some (.ref b),some fv]/\Same H5 H6/\((fv = .non/\(∀c',jj ns x.1 x.2.1 c'->cs.length<c'.length)/\G7 cs ns x.1 x.2.1=none) \/ ∃p cc,fv = .ref p/\H p=none/\bQ H6 p cc/\jj ns x.1 x.2.1 cc/\cc.length<=cs.length/\(∀c2,jj ns x.1 x.2.1 c2->cc.length<=c2.length)/\G7 cs ns x.1 x.2.1=some cc)) (fun D' hD' _=> ?_) ?_
   ·exact ⟨_,rfl,_,rfl,t,c,a,b,cs,ns,x.1,x.2.1,rfl,R.same S5,ok,hb,fun H6 s6 no rz=>hD' _ _ ⟨_,rfl,s6,.inl ⟨rfl,no,rz⟩⟩,fun p cc H6 s6 fp N r1 r2 r3 rz=>hD' _ _ ⟨_,rfl,s6,.inr ⟨p,cc,rfl,S5.free fp,N,r1,r2,r3,rz⟩⟩⟩
   rintro σ H6 ⟨fv,rfl,s6,hfv⟩
   have sh6:rJ H H6 cs ns ((kvs.take i).map (·.1)) sv:=by
    rcases sh with h|⟨p,cc,e1,e2,e3,e4⟩
    ·exact .inl h
    ·exact .inr ⟨p,cc,e1,e2,e3.same s6,e4⟩
   have fin:∀sv':V,rJ H H6 cs ns ((kvs.take (i+1)).map (·.1)) sv' -> ∃(sv:V) (x1 x2:Option V),[some (V.ref t),some sv',some (.ref q),some (.ref b),some fv]=[some (.ref t),some sv,some (.ref q),x1,x2]/\Same H2 H6/\H6 q=some (.kh ob (.dT kvs))/\rJ H H6 cs ns ((kvs.take (i+1)).map (·.1)) sv:=fun sv' h=>⟨sv',_,_,rfl,s5.trans s6,s6 _ _ T_,h⟩;refine ⟨_,rfl,rfl,_,rfl, ?_⟩;have yg:∀s,((kvs.take i).map (·.1)).foldl (fS cs ns) none=s->((kvs.take (i+1)).map (·.1)).foldl (fS cs ns) none=fS cs ns s [Sum.inl x.1,Sum.inl x.2.1]:=fun s e=>by rw [tk,List.foldl_append,e];rfl
   rcases hfv with ⟨rfl,no,rz⟩|⟨p,cc,rfl,fp,N,r1,r2,r3,rz⟩
   ·refine dG (fun z=>absurd z (by simp)) (fun _=> ?_)
    refine fin sv ?_;rcases sh6 with ⟨e1,e2,ef⟩|⟨p,cc,e1,e2,e3,e4,e5,e6,ef⟩
    ·refine .inl ⟨e1,fun h k z=> ?_,by rw [yg _ ef,Cy _ rz]⟩
     rcases key z with z|⟨rfl,rfl⟩
     ·exact e2 h k z
     ·exact no
    ·refine .inr ⟨p,cc,e1,e2,e3,e4,e5,fun h k z=> ?_,by rw [yg _ ef,Cy _ rz]⟩
     rcases key z with z|⟨rfl,rfl⟩
     ·exact e6 h k z
     ·intro c' rc
      have:=no c' rc;omega
   refine dG (fun _=> ?_) (fun z=>absurd (by simp) z)
   have new:(∀h k,[Sum.inl h,Sum.inl k]∈(kvs.take i).map (·.1) -> ∀c',jj ns h k c'->cc.length<=c'.length)->((kvs.take (i+1)).map (·.1)).foldl (fS cs ns) none=some cc->rJ H H6 cs ns ((kvs.take (i+1)).map (·.1)) (.ref p):=fun old ef=>by
    refine .inr ⟨p,cc,rfl,fp,N,Dz r1,r2,fun h k z=> ?_,ef⟩;rcases key z with z|⟨rfl,rfl⟩
    ·exact old h k z
    ·exact r3
   refine ⟨_,rfl,rfl,_,rfl, ?_⟩;rcases sh6 with ⟨rfl,e2,ef⟩|⟨p0,cc0,rfl,e2,e3,e4,e5,e6,ef⟩
   ·refine dG (fun _=> ?_) (fun z=>absurd (by simp) z)
    exact ⟨_,rfl,fin _ (new (fun h k z c' rc=>by have:=e2 h k z c' rc;omega) (by rw [yg _ ef,vQ _ rz]))⟩
   refine dG (fun z=>absurd z (by simp)) (fun _=> ?_);obtain ⟨v1,hp1,dp1⟩:=id N;obtain ⟨v2,hp2,dp2⟩:=id e3;have l1:v1.length=cc.length:=by rw [dp1.length,List.length_map]
   have l2:v2.length=cc0.length:=by rw [dp2.length,List.length_map]
   refine ⟨_,rfl,p,_,rfl,.inl (aY.of hp1),_,rfl,p0,_,rfl,.inl (aY.of hp2),_,_,rfl,rfl,_,rfl, ?_⟩
   by_cases w:cc.length<cc0.length
   ·rw [decide_eq_true (show ((v1.length:Nat):Int)<(v2.length:Nat) by omega)]
    refine iB ?_;exact ⟨_,rfl,fin _ (new (fun h k z c' rc=>by have:=e6 h k z c' rc;omega) (by rw [yg _ ef,vQ _ rz];exact if_pos w))⟩
   ·rw [decide_eq_false (show ¬((v1.length:Nat):Int)<(v2.length:Nat) by omega)]
    refine dj ?_;refine fin _ (.inr ⟨p0,cc0,rfl,e2,e3,e4,e5,fun h k z=> ?_,by rw [yg _ ef,vQ _ rz];exact if_neg w⟩);rcases key z with z|⟨rfl,rfl⟩
    ·exact e6 h k z
    ·intro c' rc
     have:=r3 c' rc;omega
  ·rintro σ H5 ⟨sv,x1,x2,rfl,s5,T_,sh⟩
   refine ⟨_,⟨q,_,ob,_,uq,T_,rfl⟩, ?_⟩;have kq2:Kp q H5 (upd H5 q (.dT kvs)):=Kp.set;have S6:Same H (upd H5 q (.dT kvs)):=fun b u e=>kq2 _ _ (s5 _ _ (S2 _ _ e)) (aC e hq0);rw [List.take_length] at sh;rcases sh with ⟨rfl,no,ef⟩|⟨p,cc,rfl,e2,e3,e4,e5,e6,ef⟩
   ·refine ⟨_,rfl,kN (fun ms r=> ?_) (hrg.trans ef) _ S6⟩
    obtain ⟨c',r1,l1,_⟩:=qd ok ms.length ms (Nat.le_refl _) r;obtain ⟨x,r',rfl,mem,_⟩:=id r1;have:=no x.1 x.2.1 ((hkeys _).mpr ⟨x,mem x (by simp),rfl⟩) _ (tO r1);omega
   ·have np:p≠q:=fun z=>by
     obtain ⟨vs,h1,_⟩:=e3;rw [z,T_] at h1;cases h1
    refine ⟨_,rfl,kR p cc _ S6 e2 (e3.kp (fun a xs h=>kq2 _ _ h (lO h T_ (fun z=>nomatch z))) kq2 np) e4 e5 (fun ms r=> ?_) (hrg.trans ef)⟩;obtain ⟨x,r',rfl,mem,_⟩:=id r;exact e6 x.1 x.2.1 ((hkeys _).mpr ⟨x,mem x (by simp),rfl⟩) _ (tO r)
def Bg (K:PySem.W.Frag):Sp:=fun vs H Q _=>∃(t u:Addr) (x y:Nt),vs=[.ref t,.ref u]/\H t=some (.tup (nV x))/\H u=some (.tup (nV y))/\Q (.bl (t_ x y)) H
theorem PJ {f:Addr} {fd:FuncData} (F:jX K "_law_leads" "_law_leads" fQ f fd):cT P w K mg base jV 1 f fd ["tie","later"] (Bg K):=by
 refine F.ok Dr (fun vs H Q E h=> ?_) (fun cdv A outer s H vs Q E hr h=> ?_)
 ·obtain ⟨t,u,x,y,rfl,_⟩:=h
  rfl
 ·obtain ⟨t,u,x,y,rfl,ht,hu,q⟩:=h
  refine ⟨_,(aF (aW (iW (cZ jP (aL (aO (K:=K) rfl) (pv 0) ao (fun _ _=>rfl)) (aL (aO (K:=K) rfl) (pv 1) ao (fun _ _=>rfl)) (aV _)) (iV (cZ w6 (aL (aO (K:=K) rfl) (pv 0) ao (fun _ _=>rfl)) (aL (aO (K:=K) rfl) (pv 1) ao (fun _ _=>rfl)) (aV _)))))), ?_⟩;refine ⟨_,rfl,_,_,_,_,rfl,rfl,cH.of ht,rfl,_,rfl,_,_,_,_,rfl,rfl,cH.of hu,rfl,rfl,_,rfl, ?_⟩
  by_cases e:x.2.2.1=y.1
  ·refine dG (fun _=> ?_) (fun z=>absurd (decide_eq_true (by rw [e])) z)
   refine ⟨_,rfl,_,_,_,_,rfl,rfl,cH.of ht,rfl,_,rfl,_,_,_,_,rfl,rfl,cH.of hu,rfl,_,_,rfl,rfl, ?_⟩;have:t_ x y=decide (x.2.2.2<=y.2.1):=by simp [t_,e]
   rw [this] at q;exact q
  ·refine dG (fun z=>absurd (of_decide_eq_true z) (fun w=>e (by injection w))) (fun _=> ?_)
   have:t_ x y=false:=by simp [t_,e]
   rw [this] at q;exact q
theorem mZ (x y:Nt):t_ x y=true↔pA x y:=by simp [t_,pA]
def ug (x:Nt):List Key:=[Sum.inl x.1,Sum.inl x.2.1,Sum.inl x.2.2.1,Sum.inl x.2.2.2]
theorem Cg {x y:Nt} (h:ug x=ug y):x=y:=by
 obtain ⟨a,b,c,d⟩:=x;obtain ⟨a',b',c',d'⟩:=y;simp only [ug,List.cons.injEq,Sum.inl.injEq,and_true] at h;obtain ⟨rfl,rfl,rfl,rfl⟩:=h;rfl
def uc (L:List (Nt×Nat)):List (List Key×V):=L.map fun e=>(ug e.1,V.int (e.2:Nat))
theorem Lr (L:List (Nt×Nat)):(uc L).length=L.length:=by unfold uc;rw [List.length_map]
theorem zZ {y:Nt}:∀{L:List (Nt×Nat)},y∉L.map (·.1)->bW (uc L) (ug y)=none
 | [],_=>rfl
 | e::L,h=>by
   show bW ((ug e.1,V.int (e.2:Nat))::uc L) (ug y)=none;rw [cJ fun z=>h (by rw [List.map_cons,Cg z];exact .head _)];exact zZ fun z=>h (.tail _ z)
theorem vB:∀{L:List (Nt×Nat)} {e:Nt×Nat},(L.map (·.1)).Nodup->e∈L->bW (uc L) (ug e.1)=some (V.int (e.2:Nat))
 | e'::L,e,nd,h=>by
   rw [List.map_cons,List.nodup_cons] at nd;show bW ((ug e'.1,V.int (e'.2:Nat))::uc L) (ug e.1)=_;rcases List.mem_cons.mp h with rfl|h
   ·exact cR rfl
   ·rw [cJ fun z=>nd.1 (by rw [Cg z];exact List.mem_map.mpr ⟨e,h,rfl⟩)]
    exact vB nd.2 h
theorem Lq {L:List (Nt×Nat)} {y:Nt} {n:Nat} (h:y∉L.map (·.1)):putK (uc L) (ug y) (V.int ((n:Nat):Int))=uc (L++[(y,n)]):=by
 rw [Hf _ (zZ h)];unfold uc;rw [List.map_append];rfl
theorem wG:∀{l m:List Nt},l.Nodup->(∀x∈l,x∈m)->l.length<=m.length
 | [],_,_,_=>Nat.zero_le _
 | x::l,m,nd,h=>by
   rw [List.nodup_cons] at nd;have hx:=h x (.head _);have:=wG (l:=l) (m:=m.erase x) nd.2 fun y hy=>(List.mem_erase_of_ne fun (z:y=x)=>nd.1 (z▸hy)).mpr (h y (.tail _ hy));rw [List.length_erase_of_mem hx] at this;have:0<m.length:=List.length_pos_of_mem hx;simp only [List.length_cons];omega
theorem rT.len {ns:List Nt} {f:Nt} {L:List (Nt×Nat)} {a:Nat} {ys:List Nt} (B:rT ns f L a ys):L.length<=ns.length:=by
 have:=wG B.nd fun x hx=>by
  obtain ⟨e,he,rfl⟩:=List.mem_map.mp hx;exact (B.inn e he).1
 rw [List.length_map] at this;exact this
def WL (H:Hp) (a t d p:Addr) (ns:List Nt) (f:Nt) (m:Nat) (σ:St) (H5:Hp):Prop:=∃(L:List (Nt×Nat)) (n:Nat) (x1 x2:Option V),σ=[some (.ref a),some (.ref t),some (.ref d),some (.ref p),some (.int (n:Int)),x1,x2]/\H5 d=some (.dT (uc L))/\bQ H5 p (L.map (·.1))/\Same H H5/\rT ns f L n []/\n<=L.length/\m=ns.length - n
def GD (K:PySem.W.Frag):Sp:=fun vs H Q _=>∃(a t:Addr) (ns:List Nt) (f:Nt),vs=[.ref a,.ref t]/\bQ H a ns/\H t=some (.tup (nV f))/\f∈ns/\ns.length<=4000 /\ ∀(n:Int) (H':Hp),jk ns f n->Same H H'->Q (.int n) H'
theorem PB {f:Addr} {fd:FuncData} (F:jX K "_law_least" "_law_least" fP f fd) (nG:FnAt P w K mg base 1 "_law_leads" ["tie","later"] (Bg K)) (Bt:o7 mg):cT P w K mg base jV 2 f fd ["ties","first"] (GD K):=by
 refine F.ok gq (fun vs H Q E h=> ?_) (fun cdv A outer s H vs Q E hr h=> ?_)
 ·obtain ⟨a,t,ns,f,rfl,_⟩:=h
  rfl
 ·obtain ⟨a,t,ns,f,rfl,N,ht,hf,nl,k⟩:=h
  have hu:=lR hr
  refine ⟨_,(au (aU (i:=2) gq.nd rfl (Or.inl rfl) (Hw (Nat.lt_of_succ_lt hu) (pv 1) ao))
   (au (aU (i:=3) gq.nd rfl (Or.inl rfl) (cY (aj (pv 1) ak)))
   (au (aU (i:=4) gq.nd rfl (Or.inl rfl) ao)
   (au (wV PassesOwn.never (aX j9 (pv 4) (aN (aH (K:=K) rfl) (by rfl) Bt.cj bH (aj (pv 3) ak)) (aV _)) (au (aU (i:=5) gq.nd rfl (Or.inl rfl) (aL (aJ (K:=K) rfl) (pv 3) (pv 4) (fun _ _=>rfl)))
   (au (aU (i:=4) gq.nd rfl (Or.inl rfl) (bx cF (pv 4) ao))
   (au (b_ (dU (aZ nG (hr.mono (by decide)) (by rfl) (aj (pv 5) (aj (pv 1) ak)))) (aF (aW (iJ hu (pv 2) (pv 5) (fun _ _=>rfl)))) bh)
   (aF (gM PassesOwn.never rfl (cN (K:=K) rfl (pv 0)) (bf (i:=6) gq.nd rfl (Or.inl rfl))
   (aF (b_ (PW.pt (j8 (Hj (tW hu (pv 6) (pv 2))) (iI (dU (aZ nG (hr.mono (by decide)) (by rfl) (aj (pv 5) (aj (pv 6) ak))))))) (au (o_ hu (pv 2) (pv 6) (bx cF (iJ hu (pv 2) (pv 5) (fun _ _=>rfl)) ao) rfl)
   (aF (dI (gB (K:=K) rfl (pv 3) (aj (pv 6) ak))))) bh))))))))
   (aF (aW ao)))))), ?_⟩
  intro d hd;have s1:=aD (o:=HO.dT []) hd;refine ⟨_,rfl,t,ug f,rfl,s1 _ _ ht,aA, ?_⟩;have kd:Kp d (upd H d (.dT [])) (upd (upd H d (.dT [])) d (.dT [(ug f,V.int 1)])):=Kp.set;have S1:Same H (upd (upd H d (.dT [])) d (.dT [(ug f,V.int 1)])):=fun b u e=>kd _ _ (s1 _ _ e) (aC e hd);have hd1:(upd (upd H d (.dT [])) d (.dT [(ug f,V.int 1)])) d=some (.dT (uc [(f,1)])):=aA;generalize (upd (upd H d (.dT [])) d (.dT [(ug f,V.int 1)]))=H1 at S1 hd1 ⊢;refine ⟨_,rfl,(by show 1<=sizeLine;decide),fun p hp=> ?_⟩;have s2:=aD (o:=HO.lst [V.ref t]) hp;have S2:=S1.trans s2;have npd:d≠p:=aC hd1 hp;have hp0:H p=none:=S1.free hp;refine ⟨WL H a t d p ns f,⟨_,[(f,1)],0,none,none,rfl,s2 _ _ hd1,⟨[V.ref t],aA,Nu (jL (S2 _ _ ht))⟩,S2,ab' hf,by simp,rfl⟩, ?_⟩;rintro m σ H5 ⟨L,n,x1,x2,rfl,QC,P5,S5,B,Ru,rfl⟩;obtain ⟨pv,Rv,W4⟩:=id P5;have pl:pv.length=L.length:=by rw [W4.length,List.length_map,List.length_map]
  have Ll:=B.len;refine ⟨_,rfl,_,rfl,p,_,rfl,.inl (aY.of Rv),_,_,rfl,rfl,_,rfl, ?_⟩
  by_cases lt:n<L.length
  rotate_left
  ·refine dG (fun z=>absurd (of_decide_eq_true z) (by omega)) (fun _=> ?_)
   exact k 0 H5 (.inl ⟨rfl,fun r=>B.fin (by omega) r⟩) S5
  refine dG (fun _=> ?_) (fun z=>absurd (decide_eq_true (by omega)) z);refine ⟨fun σ' H'=>∃m',m'<ns.length - n/\WL H a t d p ns f m' σ' H',fun _ _ h=>h, ?_⟩;have eL:L[n]? = some L[n]:=by simp [lt]
  generalize L[n]=e at eL;obtain ⟨v,ev,dx⟩:=W4.getD (i:=n) (d:=nD e.1) (by rw [List.getElem?_map,List.getElem?_map,eL];rfl);obtain ⟨q,rfl,hx⟩:=iC dx;refine ⟨_,rfl,_,rfl,_,_,_,_,rfl,rfl,aY.of Rv,fD ev, ?_⟩;refine ⟨_,rfl,_,_,rfl,rfl, ?_⟩;refine ⟨_,rfl,_,rfl,q,t,e.1,f,rfl,hx,S5 _ _ ht,_,rfl, ?_⟩;have vE:=vB B.nd (List.mem_of_getElem? eL)
  by_cases w:t_ e.1 f=true
  ·rw [w]
   refine iB ?_;refine ⟨_,rfl,_,rfl,d,_,rfl,vE▸gK.t (k:=ug e.1) QC hx, ?_⟩;exact k _ H5 (B.least hf eL ((mZ _ _).mp w)) S5
  rw [Bool.eq_false_iff.mpr w];refine dj ?_;have V0:¬pA e.1 f:=fun z=>w ((mZ _ _).mpr z);obtain ⟨nv,ha,dn⟩:=id N;have P_:nv.length=ns.length:=by rw [dn.length,List.length_map]
  have hta:=S5 _ _ ha;refine ⟨_,rfl,a,rfl,⟨_,aY.of hta⟩, ?_⟩
  refine m9 (K:=K) (a:=a) (xs:=nv) (fun i σ H6=>∃(L:List (Nt×Nat)) (x2:Option V),σ=[some (.ref a),some (.ref t),some (.ref d),some (.ref p),some (.int ((n:Int)+1)),some (.ref q),x2]/\H6 d=some (.dT (uc L))/\bQ H6 p (L.map (·.1))/\Same H H6/\rT ns f L n (ns.take i)/\L[n]? = some e/\H6 q=some (.tup (nV e.1)))
   ⟨L,x2,rfl,QC,P5,S5,B,eL,hx⟩ (fun i σ H6 _ ⟨_,_,_,_,_,S6,_⟩=>aY.of (S6 _ _ ha)) ?_ ?_
  ·clear hx vE eL B P5 Rv W4 pl Ll Ru lt QC ev dx
   rintro i v σ H6 hi ⟨L,x2,rfl,Ge,P6,S6,B,eL,hx⟩;obtain ⟨y,u,ey,rfl,hy0⟩:=fW dn hi;have hy:=S6 _ _ hy0;have tk:ns.take (i+1)=ns.take i++[y]:=by rw [List.take_add_one,ey];rfl
   have ym:=List.mem_of_getElem? ey;have Ll:=B.len;have go:(pA e.1 y -> ∃e'∈L,e'.1=y) -> ∃(L:List (Nt×Nat)) (x2:Option V),[some (V.ref a),some (.ref t),some (.ref d),some (.ref p),some (.int ((n:Int)+1)),some (.ref q),some (.ref u)]=[some (.ref a),some (.ref t),some (.ref d),some (.ref p),some (.int ((n:Int)+1)),some (.ref q),x2]/\H6 d=some (.dT (uc L))/\bQ H6 p (L.map (·.1))/\Same H H6/\rT ns f L n (ns.take (i+1))/\L[n]? = some e/\H6 q=some (.tup (nV e.1)):=fun h=>⟨L,_,rfl,Ge,P6,S6,by rw [tk];exact B.seen eL h,eL,hx⟩;refine ⟨_,rfl,_,rfl,d,_,rfl,gK.t (k:=ug y) Ge hy,_,rfl, ?_⟩
   by_cases hin:y∈L.map (·.1)
   ·obtain ⟨e',he',rfl⟩:=List.mem_map.mp hin
    rw [vB B.nd he'];refine dj ?_;exact go fun _=>⟨e',he',rfl⟩
   rw [zZ hin];refine iB ?_;refine ⟨_,rfl,_,rfl,q,u,e.1,y,rfl,hx,hy,_,rfl, ?_⟩
   by_cases w2:t_ e.1 y=true
   rotate_left
   ·rw [Bool.eq_false_iff.mpr w2]
    refine dj ?_;exact go fun z=>absurd ((mZ _ _).mpr z) w2
   rw [w2];refine iB ?_;have vE:=vB B.nd (List.mem_of_getElem? eL)
   have eD:rQ H6 d (.ref u) (V.int ((e.2:Int)+1)) (upd H6 d (.dT (uc (L++[(y,e.2+1)])))):=by
    have z:=rQ.t (k:=ug y) (v:=V.int ((e.2+1:Nat):Int)) Ge hy (by rw [Lr,sizeLine_eq];omega);rw [Lq hin] at z;exact z
   refine ⟨_,rfl,_,rfl,d,_,rfl,vE▸gK.t (k:=ug e.1) Ge hx,_,_,rfl,rfl,_,rfl,_,rfl,d,_,rfl,eD, ?_⟩;have k7:Kp d H6 (upd H6 d (.dT (uc (L++[(y,e.2+1)])))):=Kp.set;have hd7:(upd H6 d (.dT (uc (L++[(y,e.2+1)])))) d=some (.dT (uc (L++[(y,e.2+1)]))):=aA;have S7:Same H (upd H6 d (.dT (uc (L++[(y,e.2+1)])))):=fun b o z=>k7 _ _ (S6 _ _ z) (aC z hd);have t7:∀b xs,H6 b=some (HO.tup xs)->(upd H6 d (.dT (uc (L++[(y,e.2+1)])))) b=some (HO.tup xs):=fun b xs z=>k7 _ _ z (lO z Ge (by intro z;cases z));have P7:=P6.kp t7 k7 npd.symm;generalize (upd H6 d (.dT (uc (L++[(y,e.2+1)]))))=H7 at k7 hd7 S7 t7 P7 ⊢;obtain ⟨pv,Ua,dp7⟩:=id P7;have pl:pv.length=L.length:=by rw [dp7.length,List.length_map,List.length_map]
   refine ⟨_,rfl,.inl ⟨rfl,_,aY.of Ua⟩,_,rfl,p,_,_,rfl,rfl,Ua,by rw [sizeLine_eq];omega, ?_⟩;have k8:Kp p H7 (upd H7 p (.lst (pv++[V.ref u]))):=Kp.set;have t8:=k8.tups Ua;refine ⟨L++[(y,e.2+1)],_,rfl,k8 _ _ hd7 npd,⟨_,aA, ?_⟩,fun b o z=>k8 _ _ (S7 _ _ z) (aC z hp0),by rw [tk];exact B.put eL ym ((mZ _ _).mp w2) hin,by rw [List.getElem?_append_left (List.getElem?_eq_some_iff.mp eL).1];exact eL,t8 _ _ (t7 _ _ hx)⟩;rw [List.map_append,List.map_append];exact lG (aG.keep t8 _ (bI _ eU _) dp7) (jL (t8 _ _ (t7 _ _ hy)))
  ·clear hx vE eL B P5 Rv W4 pl Ll Ru lt QC ev dx
   rintro σ H6 ⟨L,x2,rfl,Ge,P6,S6,B,eL,hx⟩;rw [P_,List.take_length] at B;have lt:=(List.getElem?_eq_some_iff.mp eL).1;have:=B.len;exact ⟨ns.length - (n+1),by omega,L,n+1,_,_,by rw [show ((n:Int)+1)=((n+1:Nat):Int) by omega],Ge,P6,S6,B.next eL V0,lt,rfl⟩
theorem HX {H:Hp}:∀{vs:List V} {ns:List Nt},aG H vs (ns.map nD) -> ∃as:List EK,vs=as.map (fun x=>V.ref x.2)/\as.map (·.1)=ns.map nK /\ ∀x∈as,H x.2=some (.tup (x.1.map V.int))
 | [],[],_=>⟨[],rfl,rfl,fun x hx=>(by cases hx)⟩
 | [],_::_,h=>by simp only [List.map_cons,aG] at h
 | _::_,[],h=>by simp only [List.map_nil,aG] at h
 | v::vs,n::ns,h=>by
   simp only [List.map_cons,aG] at h;obtain ⟨t,rfl,ht⟩:=iC h.1;obtain ⟨as,e1,e2,e3⟩:=HX h.2;refine ⟨(nK n,t)::as,by rw [e1];rfl,by rw [List.map_cons,List.map_cons,e2],fun x hx=> ?_⟩;rcases List.mem_cons.mp hx with rfl|hx
   ·exact ht
   ·exact e3 x hx
theorem CG {H:Hp}:∀{zs:List EK},(∀z∈zs,∃x,z.1=nK x/\H z.2=some (.tup (nV x)))->aG H (zs.map fun x=>V.ref x.2) ((zs.map fun z=>toN z.1).map nD)
 | [],_=>by simp [aG]
 | z::zs,h=>by
   obtain ⟨x,e,hx⟩:=h z (.head _);simp only [List.map_cons,aG];exact ⟨by rw [e,zf];exact jL hx,CG fun y hy=>h y (.tail _ hy)⟩
section
variable {a D:Addr} {xs:List V} {te:TE} {Q:VK} {rest:St} {H1:Hp}
theorem Fv (p:Nat->Int->Prop) (hD:H1 D=none) (hq:aY K H1 a xs) (hx:xs.length<=100000)
 (hs:∀i x H (F:VK),xs[i]? = some x->Same H1 H->(∀z H',Same H H'->p i z->F (.int z) H')->te (some x::rest) H F)
 (hd:∀H (zs:List Int),zs.length=xs.length->(∀(i:Nat) z,zs[i]? = some z->p i z)->H D=some (.lst (zs.map V.int))->Same H1 H->Q (.ref D) H):jo (J5 K a) (jR 0) Kd te Q D (none::rest) H1:=by
 refine lH (K:=K) (xs:=xs) (fun i σ H=>(∃v,σ=v::rest)/\Same H1 H /\ ∃zs:List Int,zs.length=i/\(∀(j:Nat) z,zs[j]? = some z->p j z)/\H D=some (.lst (zs.map V.int))) ⟨⟨none,rfl⟩,aD hD,[],rfl,fun j z e=>(by cases e),aA⟩ (fun i σ H _ ⟨_,sm,_⟩=>sm.R0 _ _ hq) ?_ (fun σ H ⟨_,sm,zs,hl,hp,e⟩=>hd H zs hl hp e sm);rintro i x σ H hi ⟨⟨v,rfl⟩,sm,zs,hl,hp,e⟩;have hil:i<xs.length:=(List.getElem?_eq_some_iff.mp hi).1;refine hs i x H _ hi sm fun z H' s' hz=> ?_;refine ⟨_,s' _ _ e, ?_,⟨_,rfl⟩,(sm.trans s').newly hD,zs++[z],by simp [hl],mG hl hp hz, ?_⟩
 ·rw [List.length_map,sizeLine_eq];omega
 ·rw [aA];simp
end
theorem Jm:∀(ds:List Int),(List.range ds.length).filterMap (fun i=>(ds[i]?).bind fun d=>if d>0 then some (V.int d) else none)=(ds.filter fun d=>decide (d>0)).map V.int
 | []=>rfl
 | d::ds=>by
   rw [List.length_cons,List.range_succ_eq_map,List.filterMap_cons,List.filterMap_map,List.filter_cons];have ih:=Jm ds;have e:List.filterMap ((fun i=>((d::ds)[i]?).bind fun d=>if d>0 then some (V.int d) else none)∘Nat.succ) (List.range ds.length)=(ds.filter fun d=>decide (d>0)).map V.int:=by rw [←ih];rfl
   rw [e]
   by_cases q:d>0
   ·simp [q]
   ·simp [q]
theorem Dn {as xs zs:List EK} {ns:List Nt} (ek:as.map (·.1)=ns.map nK) (fl:gU xs as) (zp:zs.Perm xs):(∀z∈zs,z∈as /\ ∃x,z.1=nK x) /\ ∀x,x∈(zs.map fun z=>toN z.1)↔x∈ns:=by
 have mem:∀z∈zs,z∈as /\ ∃x,z.1=nK x:=fun z hz=>by
  have hz:=fl.1 z (zp.mem_iff.mp hz);have:z.1∈ns.map nK:=by rw [←ek];exact List.mem_map.mpr ⟨z,hz,rfl⟩
  obtain ⟨x,_,e⟩:=List.mem_map.mp this;exact ⟨hz,x,e.symm⟩
 refine ⟨mem,fun x=>⟨fun h=> ?_,fun h=> ?_⟩⟩
 ·obtain ⟨z,hz,rfl⟩:=List.mem_map.mp h
  have:z.1∈ns.map nK:=by rw [←ek];exact List.mem_map.mpr ⟨z,(mem z hz).1,rfl⟩
  obtain ⟨y,hy,e⟩:=List.mem_map.mp this;rw [←e,zf];exact hy
 ·have:nK x∈as.map (·.1):=by rw [ek];exact List.mem_map.mpr ⟨x,h,rfl⟩
  obtain ⟨y,hy,e⟩:=List.mem_map.mp this;obtain ⟨z,hz,ez⟩:=fl.2.1 y hy;exact List.mem_map.mpr ⟨z,zp.mem_iff.mpr hz,by rw [ez,e,zf]⟩
def GJ (K:PySem.W.Frag):Sp:=fun vs H Q _=>∃(a:Addr) (ns:List Nt),vs=[.ref a]/\bQ H a ns/\ns.length<=4000 /\ ∀(n:Int) (H':Hp),rN ns n->Same H H'->Q (.int n) H'
theorem PX {f:Addr} {fd:FuncData} (F:jX K "_law_fewest" "_law_fewest" d9 f fd) (JT:FnAt P w K mg base 2 "_law_least" ["ties","first"] (GD K)) (Bt:o7 mg):cT P w K mg base jV 3 f fd ["ties"] (GJ K):=by
 refine F.ok lX (fun vs H Q E h=> ?_) (fun cdv A outer s H vs Q E hr h=> ?_)
 ·obtain ⟨a,ns,rfl,_⟩:=h
  rfl
 ·obtain ⟨a,ns,rfl,N,nl,k⟩:=h
  have hu:=lR hr
  refine ⟨_,(au (aU (i:=1) lX.nd rfl (Or.inr rfl) (aN (vV rfl) (by rfl) Bt.JG Fz (aj (eG (Ab (K:=K) rfl rfl hr.uP) (by rfl) Bt.Vf Q8 (aj (pv 0) ak)) ak)))
   (au (jF (i:=2) rfl lX.nd rfl (Or.inl rfl) (N:=["first","some"]) (own:=["first"]) (caps:=[1]) (aR.of (by kernel_rfl)) (cN (K:=K) rfl (pv 1)) (fun _ _ _ _=>(bf (i:=0) (show List.Nodup (["first","some"]:List Str) by decide +kernel) rfl (Or.inl rfl))) (fun _ _ _ _=>eE) (fun _ _ _ _=>(aZ JT (hr.mono (by decide)) (by rfl) (aj (pv 1) (aj (pv 0) ak)))))
   (aF (aW (K4 (K:=K) rfl rfl (by rfl) Bt.Vg Q9 (aj (eF rfl (N:=["many"]) (own:=["many"]) (caps:=[]) (aR.of (by kernel_rfl)) (cN (K:=K) rfl (pv 2)) (fun _ _ _ _=>(bf (i:=0) (show List.Nodup (["many"]:List Str) by decide +kernel) rfl (Or.inl rfl))) (fun _ _ _ _=>(jE (aX qx (pv 0) ao (aV _)))) (fun _ _ _ _=>(pv 0))) ak) ao))))), ?_⟩
  obtain ⟨tv,htv,dtv⟩:=id N;obtain ⟨as,ea,ek,eh⟩:=HX dtv;have asl:as.length=ns.length:=by have:=congrArg List.length ek;simpa using this
  refine ⟨_,rfl,a,as,rfl,by rw [←ea];exact aY.of htv,eh,by omega,fun q xs hq fl=> ?_⟩;have s5:=aD (o:=Aq P w q xs) hq;refine ⟨q,xs,4,rfl,aA,by decide,fun x hx=> ?_,fun p zs hp zp zsr=> ?_⟩
  ·have hx':=fl.1 x hx
   have:x.1∈ns.map nK:=by rw [←ek];exact List.mem_map.mpr ⟨x,hx',rfl⟩
   obtain ⟨y,_,ey⟩:=List.mem_map.mp this;exact ⟨s5 _ _ (eh x hx'),by rw [←ey];rfl⟩
  have s6:=aD (o:=HO.lst (zs.map fun x=>V.ref x.2)) hp;have s56:=s5.trans s6;obtain ⟨z2,zm⟩:=Dn ek fl zp
  have D6:bQ (upd (upd H q (Aq P w q xs)) p (HO.lst (zs.map fun x=>V.ref x.2))) p (zs.map fun z=>toN z.1):=by
   refine ⟨_,aA,CG fun z hz=> ?_⟩;obtain ⟨ha,x,ex⟩:=z2 z hz;have:=s56 _ _ (eh z ha);rw [ex] at this;exact ⟨x,ex,this⟩
  have zl:zs.length<=4000:=by
   have:=fl.2.2.2;rw [zp.length_eq];omega
  have ml:(zs.map fun z=>toN z.1).length<=4000:=by rw [List.length_map];exact zl
  generalize (zs.map fun z=>toN z.1)=ms at D6 zm ml;obtain ⟨mv,hm,dm⟩:=id D6;have mvl:mv.length=ms.length:=by rw [dm.length,List.length_map]
  refine ⟨_,rfl,p,rfl,⟨_,aY.of hm⟩,fun D hD=> ?_⟩;refine Fv (K:=K) (fun i z=>∀x,ms[i]? = some x->jk ms x z) hD (aY.of hm) (by omega) (fun i v H7 F hi s7 kF=> ?_) (fun H7 ds dl hds e7 s7=> ?_)
  ·obtain ⟨x,u,ex,rfl,hx⟩:=fW dm hi
   refine ⟨_,rfl,_,rfl,p,u,ms,x,rfl,D6.same s7,s7 _ _ hx,List.mem_of_getElem? ex,ml,fun n H8 ln s8=>kF n H8 s8 fun x' e'=> ?_⟩;rw [ex] at e';cases e';exact ln
  refine ⟨_,rfl,D,rfl,⟨_,aY.of e7⟩,fun D2 hD2=> ?_⟩;refine ji (K:=K) (fun i=>(ds[i]?).bind fun d=>if d>0 then some (V.int d) else none) hD2 (aY.of e7) (by rw [List.length_map];omega) (fun i v H8 G F hi s8 kG kF=> ?_) (fun H8 s8 e8=> ?_)
  ·rw [List.getElem?_map] at hi
   cases ei:ds[i]? with
   | none=>rw [ei] at hi;cases hi
   | some d=>
     rw [ei] at hi kG kF;cases hi;refine ⟨_,rfl,_,_,rfl,rfl,_,rfl, ?_⟩;refine dG (fun z=> ?_) (fun z=> ?_)
     ·have z:d>0:=of_decide_eq_true z
      exact ⟨_,rfl,kF _ H8 (Same.refl _) (if_pos z)⟩
     ·have z:¬d>0:=fun w=>z (decide_eq_true w)
      exact kG H8 (Same.refl _) (if_neg z)
  rw [List.length_map,Jm] at e8;refine ⟨D2,ds.filter (fun d=>decide (d>0)),0,rfl,rfl,aY.of e8,fun m hm'=> ?_⟩;exact k m H8 (QT zm (dl.trans mvl) (fun i x d ex ed=>hds i d ed x ex) hm') ((s56.trans s7).trans s8)
def Ou (K:PySem.W.Frag):Sp:=fun vs H Q _=>∃(t c a p:Addr) (cs:List Int) (ns ms:List Nt),vs=[.ref t,.ref p]/\RecAt H t c a cs ns/\bQ H p ms/\ms.length<=200/\ns.length<=4000/\yL ns ms /\ ∀H',Same H H'->Q (.bl true) H'
theorem Tg {f:Addr} {fd:FuncData} (F:jX K "_law_goes_round" "_law_goes_round" bU f fd) (nG:FnAt P w K mg base 1 "_law_leads" ["tie","later"] (Bg K)) (Bt:o7 mg):cT P w K mg base jV 2 f fd ["record","found"] (Ou K):=by
 refine F.ok j6 (fun vs H Q E h=> ?_) (fun cdv A outer s H vs Q E hr h=> ?_)
 ·obtain ⟨t,c,a,p,cs,ns,ms,rfl,_⟩:=h
  rfl
 ·obtain ⟨t,c,a,p,cs,ns,ms,rfl,R,N,ml,nl,rp,k⟩:=h
  have dN:=hr.units
  refine ⟨_,(au (b_ (PW.pt (jO (gA (dU (aN (gD (K:=K) (cv:= .ty "list") (c:= .type "list") rfl rfl) (by rfl) Bt.dg cQ (aj (pv 1) (aj (jH (v:= .ty "list") (by rfl) Bt.kO iR rfl) ak))))) (iT (aX (vd (K:=K) rfl dN) (pv 1) (cY ak) (aV _))))) (aF (aW gj)) bh)
   (au (gM PassesOwn.never rfl (cg (by rfl) Bt.dJ (aj (aN (aH (K:=K) rfl) (by rfl) Bt.cj bH (aj (pv 1) ak)) ak)) (bf (i:=2) j6.nd rfl (Or.inl rfl))
   (au (b_ (PW.pt (jO (gA (dU (aN (gD (K:=K) (cv:= .ty "tuple") (c:= .type "tuple") rfl rfl) (by rfl) Bt.dg cQ (aj (aL (aJ (K:=K) rfl) (pv 1) (pv 2) (fun _ _=>rfl)) (aj (jH (v:= .ty "tuple") (by rfl) Bt.CZ yE rfl) ak))))) (iT (aX (zU (K:=K) rfl hr.uP) (aL (aJ (K:=K) rfl) (pv 1) (pv 2) (fun _ _=>rfl)) (aL (aO (K:=K) rfl) (pv 0) ao (fun _ _=>rfl)) (by with_unfolding_all rfl))))) (aF (aW gj)) bh)
   (au (b_ (aX (mX (K:=K) rfl dN) (eF rfl (N:=["part"]) (own:=["part"]) (caps:=[]) (aR.of (by kernel_rfl)) (BK (K:=K) rfl (aL (aJ (K:=K) rfl) (pv 1) (pv 2) (fun _ _=>rfl))) (fun _ _ _ _=>(bf (i:=0) (show List.Nodup (["part"]:List Str) by decide +kernel) rfl (Or.inl rfl))) (fun _ _ _ _=>(jE (dU (aN (gD (K:=K) (cv:= .ty "bool") (c:= .type "bool") rfl rfl) (by rfl) Bt.dg cQ (aj (pv 0) (aj (jH (v:= .ty "bool") (by rfl) Bt.JH CV rfl) ak)))))) (fun _ _ _ _=>(pv 0))) (cY ak) (aV _)) (aF (aW gj)) bh)
   (aF (b_ (gA (dU (aZ nG (hr.mono (by decide)) (by rfl) (aj (aL (aJ (K:=K) rfl) (pv 1) (pv 2) (fun _ _=>rfl)) (aj (aL (aJ (K:=K) rfl) (pv 1) (bx gP (bx cF (pv 2) ao) (aN (aH (K:=K) rfl) (by rfl) Bt.cj bH (aj (pv 1) ak))) (fun _ _=>rfl)) ak))))) (aF (aW gj)) bh)))))
   (aF (aW gj)))), ?_⟩
  obtain ⟨vs,hp,dv⟩:=id N;have vl:vs.length=ms.length:=by rw [dv.length,List.length_map]
  refine ⟨_,rfl,_,_,true,rfl,.lst hp,lQ K,true,rfl,dj ?_⟩;refine ⟨_,rfl,(by show 0<=sizeLine;decide),fun q hq=> ?_⟩;have sq:=aD (o:=HO.lst []) hq;refine ⟨_,_,dz (ds:=ms.map nD) (sq _ _ hp) (aG.keep sq.tups _ (bI _ eU _) dv),dz (ds:=([]:List Nt).map nD) aA (by simp only [List.map_nil,aG]),cD _,cD _,_,rfl, ?_⟩;rw [if_neg Bool.false_ne_true,fY nD kE,decide_eq_false rp.1];refine dj ?_;have R1:=R.same sq;have N1:=N.same sq;generalize (upd H q (HO.lst []))=H1 at sq R1 N1 ⊢;obtain ⟨ht1,hc1,us,ha1,du1⟩:=id R1;obtain ⟨vs1,hp1,Ry⟩:=id N1;have e:vs1=vs:=by have:=sq _ _ hp;rw [hp1] at this;injection this with this;injection this
  subst e;refine ⟨_,rfl,p,_,rfl,.inl (aY.of hp1),_,rfl,by omega,by omega, ?_⟩;rw [show ((vs1.length:Int)).toNat=ms.length by omega];refine gC (lo:=0) (n:=ms.length) (fun i σ H2=>∃(x1:Option V),σ=[some (.ref t),some (.ref p),x1]/\Same H1 H2) ⟨none,rfl,Same.refl _⟩ ?_ ?_
  ·rintro i σ H2 hi ⟨x1,rfl,s2⟩
   have hl2:(i+1) % ms.length<ms.length:=Nat.mod_lt _ (by omega);obtain ⟨x,ex⟩:∃x,ms[i]? = some x:=⟨ms[i],by simp [hi]⟩;obtain ⟨y,ey⟩:∃y,ms[(i+1) % ms.length]? = some y:=⟨ms[(i+1) % ms.length],by simp [hl2]⟩;obtain ⟨v,ev,dx⟩:=Ry.getD (i:=i) (d:=nD x) (by rw [List.getElem?_map,ex];rfl);obtain ⟨w',ew,dy⟩:=Ry.getD (i:=(i+1) % ms.length) (d:=nD y) (by rw [List.getElem?_map,ey];rfl);obtain ⟨q,rfl,hx⟩:=iC dx;obtain ⟨q',rfl,hy⟩:=iC dy;have i1:rY vs1 (0+(i:Int))=some (V.ref q):=by rw [Int.zero_add];exact fD ev
   have i2:rY vs1 ((0+(i:Int)+1) % (vs1.length:Int))=some (V.ref q'):=by
    rw [Int.zero_add,vl,show ((i:Int)+1) % (ms.length:Int)=(((i+1) % ms.length:Nat):Int) by rw [Int.natCast_emod];rfl];exact fD ew
   have hp2:=s2 _ _ hp1;have hx2:=s2 _ _ hx;obtain ⟨xm,ld⟩:=rp.2 i x y ex ey;refine ⟨_,rfl,_,rfl,_,_,_,_,rfl,rfl,aY.of hp2,i1,_,_,true,rfl,.tup hx2,jQ K,_,rfl,dj ?_⟩;refine ⟨_,rfl,_,rfl,_,_,_,_,rfl,rfl,aY.of hp2,i1,_,rfl,_,_,_,_,rfl,rfl,cH.of (s2 _ _ ht1),rfl,a,us,nD x,ns.map nD,rfl,aY.of (s2 _ _ ha1),aG.keep s2.tups _ (bI _ eU _) du1,jL hx2,kZ x,fun e he=> ?_,_,rfl, ?_⟩
   ·obtain ⟨y,_,rfl⟩:=List.mem_map.mp he
    exact kZ y
   rw [if_pos rfl,JL,decide_eq_true xm];refine dj ?_;refine ⟨_,rfl,_,rfl,_,_,_,_,rfl,rfl,aY.of hp2,i1,q,rfl,⟨_,cH.of hx2⟩,fun D hD=> ?_⟩;refine uE (K:=K) (fun _=>none) hD hx2 (by show 4<=100000;decide) (fun j v H3 G F hj s3 kG kF=> ?_) (fun H3 s3 e3=> ?_)
   ·obtain ⟨z,rfl⟩:∃z,v=V.int z:=by
     match j,hj with
     | 0,hj=>exact ⟨_,(Option.some.inj hj).symm⟩
     | 1,hj=>exact ⟨_,(Option.some.inj hj).symm⟩
     | 2,hj=>exact ⟨_,(Option.some.inj hj).symm⟩
     | 3,hj=>exact ⟨_,(Option.some.inj hj).symm⟩
     | j+4,hj=>cases hj
    refine ⟨_,rfl,_,_,false,rfl,.int _,m6 K,_,rfl,dj ?_⟩;exact kG H3 (Same.refl _) rfl
   have e3':H3 D=some (.lst []):=by rw [e3];rfl
   refine ⟨(by show 0<=sizeLine;decide),fun q3 hq3=> ?_⟩;have s4:=aD (o:=HO.lst []) hq3;refine ⟨_,_,dz (ds:=([]:List Nt).map nD) (s4 _ _ e3') (by simp only [List.map_nil,aG]),dz (ds:=([]:List Nt).map nD) aA (by simp only [List.map_nil,aG]),cD _,cD _,_,rfl, ?_⟩;rw [if_pos rfl,fY nD kE];refine Ck rfl ?_;have J1:=s3.trans s4;have Ub:=J1 _ _ hp2;refine ⟨_,rfl,_,rfl,_,_,_,_,rfl,rfl,aY.of Ub,i1,_,rfl,_,rfl,_,_,rfl,rfl,_,rfl,p,_,rfl,.inl (aY.of Ub),_,_,rfl,rfl,by omega,_,_,_,_,rfl,rfl,aY.of Ub,i2,q,q',x,y,rfl,J1 _ _ hx2,J1 _ _ (s2 _ _ hy),_,rfl, ?_⟩;rw [ld];refine dj ?_;exact ⟨_,rfl,s2.trans J1⟩
  ·rintro σ H2 ⟨x1,rfl,s2⟩
   exact k H2 (sq.trans s2)
def acO (cs:List Int) (ns:List Nt):Prop:=∀x∈ns,v9 cs x
section
variable {D r b:Addr} {te:TE} {Q:VK} {rest:St} {H1:Hp} {n bn:Nat}
end
theorem qP:∀(l:List Int) (m:Nat) (h:m<l.length),(l[m]::l.eraseIdx m).Perm l
 | _::_,0,_=>List.Perm.refl _
 | x::l,m+1,h=>by
   simp only [List.getElem_cons_succ,List.eraseIdx_cons_succ];exact (List.Perm.swap x _ _).trans ((qP l m (by simpa using h)).cons x)
def Vt (cs hs:List Int):Prop:=∀h∈hs,0<=h/\h<cs.length/\0<gI cs h
def pO (K:PySem.W.Frag):Sp:=fun vs H Q _=>∃(r b:Addr) (n:Nat) (t c a:Addr) (cs:List Int) (ns:List Nt) (nr:Bool),vs=[.ref r,.ref t,.bl nr]/\bD H r b n/\n<274877906944/\RecAt H t c a cs ns/\c≠r/\a≠r/\a≠b/\c≠a/\fH cs ns/\ns.length<=60 /\
 ∀(p:Addr) (ls ms:List Nt) (H':Hp),H p=none->bQ H' p ls->ls.length<=8->RecAt H' t c a cs ms->fH cs ms->(ls≠[]->ms≠[])->bD H' r b (n+50)->(∀q o,H q=some o->q≠r->q≠a->H' q=some o)->Q (.ref p) H'
theorem DX {f:Addr} {fd:FuncData} (F:jX K "_law_ring_in" "_law_ring_in" cX f fd) (bC:FnAt P w K mg base 2 "_law_draw" ["bag","many"] (j4 K)) (Bt:o7 mg):cT P w K mg base jV 3 f fd ["bag","record","near"] (pO K):=by
 refine F.ok bN (fun vs H Q E h=> ?_) (fun cdv A outer s H vs Q E hr h=> ?_)
 ·obtain ⟨r,b,n,t,c,a,cs,ns,nr,rfl,_⟩:=h
  rfl
 ·obtain ⟨r,b,n,t,c,a,cs,ns,nr,rfl,B0,hn,R,Ng,Gd,nab,Qf,ok,ZJ,k⟩:=h
  obtain ⟨ht,hc,N⟩:=id R;have c8:=ok.1.1
  refine ⟨_,(au (lY (pv 1) (BP (K:=K) (n:=2) rfl rfl (mW (bf (i:=3) bN.nd rfl (Or.inr rfl)) (mW (bf (i:=4) bN.nd rfl (Or.inl rfl)) BL))))
   (au (jF (i:=5) rfl bN.nd rfl (Or.inl rfl) (N:=["hand","counts"]) (own:=["hand"]) (caps:=[3]) (aR.of (by kernel_rfl)) (cg (by rfl) Bt.dJ (aj (aN (aH (K:=K) rfl) (by rfl) Bt.cj bH (aj (pv 3) ak)) ak)) (fun _ _ _ _=>(bf (i:=0) (show List.Nodup (["hand","counts"]:List Str) by decide +kernel) rfl (Or.inl rfl))) (fun _ _ _ _=>(jE (aX qx (aL (aJ (K:=K) rfl) (pv 1) (pv 0) (fun _ _=>rfl)) ao (aV _)))) (fun _ _ _ _=>(pv 0)))
   (au (b_ (aX j9 (aN (aH (K:=K) rfl) (by rfl) Bt.cj bH (aj (pv 5) ak)) ao (aV _)) (aF (aW (cY ak))) bh)
   (au (aU (i:=6) bN.nd rfl (Or.inl rfl) (cY ak))
   (au (gM PassesOwn.never rfl (cg (by rfl) Bt.dJ (aj (bx cF ao (aZ bC (hr.mono (by decide)) (by rfl) (aj (pv 0) (aj (bx nT (aN (aH (K:=K) rfl) (by rfl) Bt.cj bH (aj (pv 5) ak)) ao) ak)))) ak)) (bf (i:=7) bN.nd rfl (Or.inl rfl))
   (aF (dI (gB (K:=K) rfl (pv 6) (aj (qu (K:=K) rfl PySem.F.plainAttrs_list PySem.F.slot_list_pop PySem.F.type_list_pop Ie (pv 5) (aj (aZ bC (hr.mono (by decide)) (by rfl) (aj (pv 0) (aj (aN (aH (K:=K) rfl) (by rfl) Bt.cj bH (aj (pv 5) ak)) ak))) ak)) ak)))))
   (au (jF (i:=8) rfl bN.nd rfl (Or.inl rfl) (N:=["hand","bag","counts"]) (own:=["hand"]) (caps:=[0,3]) (aR.of (by kernel_rfl)) (cN (K:=K) rfl (pv 6)) (fun _ _ _ _=>(bf (i:=0) (show List.Nodup (["hand","bag","counts"]:List Str) by decide +kernel) rfl (Or.inl rfl))) (fun _ _ _ _=>eE) (fun _ _ _ _=>(aZ bC (hr.mono (by decide)) (by rfl) (aj (pv 1) (aj (aL (aJ (K:=K) rfl) (pv 2) (pv 0) (fun _ _=>rfl)) ak)))))
   (au (jF (i:=9) rfl bN.nd rfl (Or.inl rfl) (N:=["k","bag"]) (own:=["k"]) (caps:=[0]) (aR.of (by kernel_rfl)) (cN (K:=K) rfl (pv 8)) (fun _ _ _ _=>(bf (i:=0) (show List.Nodup (["k","bag"]:List Str) by decide +kernel) rfl (Or.inl rfl))) (fun _ _ _ _=>eE) (fun _ _ _ _=>(aZ bC (hr.mono (by decide)) (by rfl) (aj (pv 1) (aj (bx cF (pv 0) ao) ak)))))
   (au (aU (i:=10) bN.nd rfl (Or.inl rfl) (aZ bC (hr.mono (by decide)) (by rfl) (aj (pv 0) (aj (aN (aH (K:=K) rfl) (by rfl) Bt.cj bH (aj (pv 6) ak)) ak))))
   (au (b_ (PW.pt (j8 (dU (pv 2)) (iI (aX j9 (bx cF (aL (aJ (K:=K) rfl) (pv 8) (pv 10) (fun _ _=>rfl)) ao) (aL (aJ (K:=K) rfl) (pv 3) (aL (aJ (K:=K) rfl) (pv 6) (pv 10) (fun _ _=>rfl)) (fun _ _=>rfl)) (aV _))))) (aF (lY (bx cF (aL (aJ (K:=K) rfl) (pv 8) (pv 10) (fun _ _=>rfl)) ao) (nR (pv 9) (pv 10) set_list))) bh)
   (au (aU (i:=11) bN.nd rfl (Or.inl rfl) (cY ak))
   (au (gM PassesOwn.never rfl (cg (by rfl) Bt.dJ (aj (aN (aH (K:=K) rfl) (by rfl) Bt.cj bH (aj (pv 6) ak)) ak)) (bf (i:=12) bN.nd rfl (Or.inl rfl))
   (au (aU (i:=13) bN.nd rfl (Or.inl rfl) (bx gP (bx cF (pv 12) ao) (aN (aH (K:=K) rfl) (by rfl) Bt.cj bH (aj (pv 6) ak))))
   (au (dI (gB (K:=K) rfl (pv 11) (aj (jG (aj (aL (aJ (K:=K) rfl) (pv 6) (pv 12) (fun _ _=>rfl)) (aj (aL (aJ (K:=K) rfl) (pv 8) (pv 12) (fun _ _=>rfl)) (aj (aL (aJ (K:=K) rfl) (pv 6) (pv 13) (fun _ _=>rfl)) (aj (aL (aJ (K:=K) rfl) (pv 9) (pv 13) (fun _ _=>rfl)) ak))))) ak)))
   (aF (dI (qu (K:=K) rfl PySem.F.plainAttrs_list PySem.F.slot_list_insert PySem.F.type_list_insert nU (pv 4) (aj (aZ bC (hr.mono (by decide)) (by rfl) (aj (pv 0) (aj (bx cF (aN (aH (K:=K) rfl) (by rfl) Bt.cj bH (aj (pv 4) ak)) ao) ak))) (aj (aL (aJ (K:=K) rfl) (pv 11) (Ht yX ao) (fun _ _=>rfl)) ak))))))))
   (aF (aW (pv 11)))))))))))))), ?_⟩
  refine ⟨_,rfl,t,_,rfl,cH.of ht,rfl,_,_,rfl,_,_,rfl,rfl, ?_⟩;refine ⟨_,rfl,c,_,rfl,.inl (aY.of hc),_,rfl,by rw [List.length_map];omega,by rw [List.length_map];omega,fun S hS=> ?_⟩;have Em:(((cs.map V.int).length:Nat):Int).toNat=cs.length:=by simp
  rw [Em];refine jh (fun (i:Nat)=>if gI cs (i:Int)>0 then some (V.int (0+(i:Int))) else none) hS (by omega) (fun j H3 G F hj s3 kG kF=> ?_) (fun H3 s3 e3=> ?_)
  ·refine ⟨_,rfl,_,rfl,_,_,_,_,rfl,rfl,aY.of (s3 _ _ hc),(dX (h:=0+(j:Int)) (by omega) (by omega)),_,_,rfl,rfl,_,rfl, ?_⟩
   have ej:(0+(j:Int))=(j:Int):=by omega
   rw [ej];refine dG (fun q=> ?_) (fun q=> ?_)
   ·have q:=of_decide_eq_true q
    refine ⟨_,rfl,kF _ H3 (Same.refl _) ?_⟩;rw [if_pos q,ej]
   ·have q:¬gI cs (j:Int)>0:=fun z=>q (decide_eq_true z)
    exact kG H3 (Same.refl _) (if_neg q)
  rw [u5] at e3;have p8:=u6 cs;have B3:=B0.keep s3;obtain ⟨ZF,nSb⟩:=B0.ne hS;refine ⟨_,rfl,S,_,rfl,.inl (aY.of e3),_,_,rfl,rfl,_,rfl, ?_⟩;refine dG (fun q=> ?_) (fun q=> ?_)
  ·refine ⟨(by show 0<=sizeLine;decide),fun p hp=> ?_⟩
   have sp:=aD (o:=HO.lst []) hp;have X6:=s3.trans sp;exact k p [] ns _ (s3.free hp) ⟨[],aA,by simp [aG]⟩ (by simp) (R.same X6) ok (fun z=>absurd rfl z) ((B0.keep X6).mono (by omega)) (fun q o e _ _=>X6 _ _ e)
  have two:2<=(pos cs).length:=by
   have:¬(((pos cs).map V.int).length:Int)<2:=fun z=>q (decide_eq_true z);rw [List.length_map] at this;omega
  refine ⟨(by show 0<=sizeLine;decide),fun hd hhd=> ?_⟩;have s4:=aD (o:=HO.lst []) hhd;have J1:=s3.trans s4;have nSh:S≠hd:=aC e3 hhd;obtain ⟨Nf,nhb⟩:=B3.ne hhd;have e4:=s4 _ _ e3;refine ⟨_,rfl,_,rfl,S,_,rfl,.inl (aY.of e4),_,_,rfl,rfl,r,b,_,_,rfl,B3.keep s4,by omega,by show (0:Int)<(((pos cs).map V.int).length:Int) - 1;rw [List.length_map];omega,by show (((pos cs).map V.int).length:Int) - 1<_;rw [List.length_map];omega,fun z H5 z0 z1 B5 k5=> ?_⟩;have z1':z<((pos cs).length:Int) - 1:=by rw [←List.length_map (f:=V.int)];exact z1
  refine ⟨_,_,rfl,rfl,2+z,rfl,by omega,by omega, ?_⟩;have fS:H S=none:=hS;have fh:H hd=none:=s3.free hhd
  refine gC (lo:=0) (n:=(2+z).toNat) (fun i σ H6=>∃(ls hs:List Int) (x1:Option V),σ=[some (.ref r),some (.ref t),some (.bl nr),some (.ref c),some (.ref a),some (.ref S),some (.ref hd),x1,none,none,none,none,none,none]/\H6 S=some (.lst (ls.map V.int))/\H6 hd=some (.lst (hs.map V.int))/\hs.length=i/\ls.length+i=(pos cs).length/\Vt cs (ls++hs)/\(ls++hs).Nodup/\bD H6 r b (n+1+i)/\Kp r H H6)
   ⟨pos cs,[],none,rfl,k5 _ _ e4 ZF,k5 _ _ aA Nf,rfl,by omega,fun h hh=>vh (by simpa using hh),by simpa using tU cs,B5.mono (by omega),(Kp.of_same J1).trans k5⟩ ?_ ?_
  ·rintro i σ H6 hi ⟨ls,hs,x1,rfl,Wr,Qz,hl,ll,hok,nd,B6,k6⟩
   have afw:0<ls.length:=by omega
   refine ⟨_,rfl,.inl ⟨rfl,_,aY.of Qz⟩,_,rfl,.inl ⟨rfl,_,aY.of Wr⟩,_,rfl,_,rfl,S,_,rfl,.inl (aY.of Wr),r,b,_,_,rfl,B6,by omega,by rw [List.length_map];omega,by rw [List.length_map];omega,fun y H7 y0 y1 B7 k7=> ?_⟩;rw [List.length_map] at y1;obtain ⟨m,rfl⟩:=Int.eq_ofNat_of_zero_le y0;have hm:m<ls.length:=by omega
   have hS7:=k7 _ _ Wr ZF;have Wo:=k7 _ _ Qz Nf;have si:seqIndex? (m:Int) (ls.map V.int).length=some m:=by rw [List.length_map,seqIndex_of (by omega) (by omega),Int.toNat_natCast]
   refine ⟨S,_,(m:Int),m,_,rfl,rfl,hS7,by omega,by omega,si,by rw [List.getElem?_map,List.getElem?_eq_getElem hm];rfl, ?_⟩;have k8:Kp S H7 (upd H7 S (.lst ((ls.map V.int).eraseIdx m))):=Kp.set;have Wn:=k8 _ _ Wo nSh.symm;refine ⟨hd,_,_,rfl,rfl,Wn,by rw [List.length_map,sizeLine_eq];omega, ?_⟩;have k9:Kp hd (upd H7 S (.lst ((ls.map V.int).eraseIdx m))) (upd (upd H7 S (.lst ((ls.map V.int).eraseIdx m))) hd (.lst (hs.map V.int++[V.int ls[m]]))):=Kp.set
   have perm:(ls.eraseIdx m++(hs++[ls[m]])).Perm (ls++hs):=by
    have p1:(ls[m]::ls.eraseIdx m).Perm ls:=qP ls m hm
    have p2:(ls.eraseIdx m++(hs++[ls[m]])).Perm ((ls[m]::ls.eraseIdx m)++hs):=by
     rw [←List.append_assoc];exact (List.perm_append_singleton _ _)
    exact p2.trans (p1.append_right hs)
   refine ⟨ls.eraseIdx m,hs++[ls[m]],_,rfl, ?_, ?_,by simp [hl], ?_,fun h hh=>hok h (perm.mem_iff.mp hh),perm.nodup_iff.mpr nd,((B7.kp k8 ZF.symm nSb.symm).kp k9 Nf.symm nhb.symm).mono (by omega),fun q o e nq=>k9 _ _ (k8 _ _ (k7 _ _ (k6 _ _ e nq) nq) (aC e fS)) (aC e fh)⟩
   ·refine (k9 _ _ aA nSh).trans ?_
    rw [qH]
   ·rw [aA,List.map_append];rfl
   ·rw [List.length_eraseIdx,if_pos hm];omega
  ·rintro σ H6 ⟨ls,hs,x1,rfl,Wr,Qz,hl,ll,hok,nd,B6,k6⟩
   have h2:2<=hs.length:=by omega
   have h8:hs.length<=8:=by omega
   have hok':Vt cs hs:=fun h hh=>hok h (by simp [hh]);have nd':hs.Nodup:=(List.nodup_append.mp nd).2.1
   have hget:∀j:Nat,j<hs.length -> ∃h,hs[j]? = some h/\rY (hs.map V.int) (j:Int)=some (.int h)/\0<=h/\h<cs.length/\0<gI cs h:=fun j hj=>by
    have e:hs[j]? = some hs[j]:=by simp [hj]
    exact ⟨hs[j],e,fD (by rw [List.getElem?_map,e];rfl),hok' _ (List.mem_of_getElem? e)⟩
   have hc6:=k6 _ _ hc Ng;refine ⟨_,rfl,hd,rfl,⟨_,aY.of Qz⟩,fun L hL=> ?_⟩;refine qZ (K:=K) (f:=0) (fun i z=>0<=z/\z<gI cs (gI hs i)) hL B6 (by rw [List.length_map];omega) Qz Nf (fun i x H7 F hi k7 B7 kF=> ?_) (fun H7 lv vl hv e7 k7 B7=> ?_)
   ·rw [List.getElem?_map] at hi
    cases ei:hs[i]? with
    | none=>rw [ei] at hi;cases hi
    | some h=>
      rw [ei] at hi;cases hi;obtain ⟨g0,g1,g2⟩:=hok' h (List.mem_of_getElem? ei);have gg:=ok.1.gI h;have il:=(List.getElem?_eq_some_iff.mp ei).1;exact ⟨_,rfl,_,rfl,_,rfl,_,_,_,_,rfl,rfl,aY.of (k7 _ _ hc6 Ng),dX g0 g1,r,b,_,_,rfl,B7,by omega,g2,by omega,fun z H8 z0 z1 B8 k8=>kF z H8 ⟨z0,by rw [fX ei];exact z1⟩ k8 B8⟩
   rw [List.length_map] at vl B7;obtain ⟨V2,nLb⟩:=B6.ne hL;have fL:H L=none:=Kp.new k6 hL B6.at;have k07:=k6.trans k7
   have Wm:∀j:Nat,j<hs.length->0<=gI lv j/\gI lv j<gI cs (gI hs j):=fun j hj=>by
    have:=hv j lv[j] (by simp [vl,hj]);rw [fX (cs:=lv) (i:=j) (c:=lv[j]) (by simp [vl,hj])];exact this
   refine ⟨_,rfl,L,rfl,⟨_,aY.of e7⟩,fun C hC=> ?_⟩;refine qZ (K:=K) (f:=0) (fun i z=>0<=z/\z<=gI lv i) hC B7 (by rw [List.length_map];omega) e7 V2 (fun i x H8 F hi k8 B8 kF=> ?_) (fun H8 cm cl hcm e8 k8 B8=> ?_)
   ·rw [List.getElem?_map] at hi
    cases ei:lv[i]? with
    | none=>rw [ei] at hi;cases hi
    | some v=>
      rw [ei] at hi;cases hi;have il:=(List.getElem?_eq_some_iff.mp ei).1;have g:=Wm i (by omega);have gg:=ok.1.gI (gI hs (i:Int));rw [fX ei] at g;exact ⟨_,rfl,_,rfl,_,_,rfl,rfl,r,b,v+1,_,rfl,B8,by omega,by omega,by omega,fun z H9 z0 z1 B9 k9=>kF z H9 ⟨z0,by rw [fX ei];omega⟩ k9 B9⟩
   rw [List.length_map] at cl B8;obtain ⟨ZG,nCb⟩:=B7.ne hC;have fC:H C=none:=Kp.new k07 hC B7.at;have k08:=k07.trans k8;have nCL:L≠C:=aC e7 hC;have Wo:=k7 _ _ Qz Nf;have nCh:hd≠C:=aC Wo hC;have nLh:hd≠L:=aC Qz hL;have e7':=k8 _ _ e7 V2;have Wn:=k8 _ _ Wo Nf;have hc8:=k8 _ _ (k7 _ _ hc6 Ng) Ng;have ncC:c≠C:=aC hc fC;refine ⟨_,rfl,_,rfl,hd,_,rfl,.inl (aY.of Wn),r,b,_,_,rfl,B8,by omega,by rw [List.length_map];omega,by rw [List.length_map];omega,fun at_ H9 a0 a1 B9 k9=> ?_⟩;rw [List.length_map] at a1;have k09:=k08.trans k9;have hc9:=k9 _ _ hc8 Ng;have hh9:=k9 _ _ Wn Nf;have eL9:=k9 _ _ e7' V2;have eC9:=k9 _ _ e8 ZG;obtain ⟨am,rfl⟩:=Int.eq_ofNat_of_zero_le a0;have ham:am<hs.length:=by omega
   obtain ⟨hA,eA,atA,A0,A1,A2⟩:=hget am ham;dsimp only;refine jw (fun σ oW=>∃z_:List Int,σ=[some (.ref r),some (.ref t),some (.bl nr),some (.ref c),some (.ref a),some (.ref S),some (.ref hd),x1,some (.ref L),some (.ref C),some (.int am),none,none,none]/\oW C=some (.lst (z_.map V.int))/\z_.length=hs.length/\(∀j:Nat,j<hs.length->0<=gI z_ j/\gI z_ j<gI cs (gI hs j))/\Kp C H9 oW) (fun D' hD' _=> ?_) ?_
   ·have base:∀j:Nat,j<hs.length->0<=gI cm j/\gI cm j<gI cs (gI hs j):=fun j hj=>by
     have:=hcm j cm[j] (by simp [cl,vl,hj]);rw [fX (cs:=cm) (i:=j) (c:=cm[j]) (by simp [cl,vl,hj])];have:=Wm j hj;omega
    have stay:=hD' _ _ ⟨cm,rfl,eC9,by omega,base,Kp.refl _ _⟩;refine ⟨_,rfl,_,rfl, ?_⟩;refine dG (fun _=> ?_) (fun _=>stay);refine ⟨_,rfl,_,rfl,_,_,_,_,rfl,rfl,aY.of eL9,dX (by omega) (by omega),_,_,rfl,rfl,_,rfl,_,rfl,_,rfl,_,_,_,_,rfl,rfl,aY.of hh9,atA,_,_,_,_,rfl,rfl,aY.of hc9,dX A0 A1,_,_,rfl,rfl,_,rfl, ?_⟩;refine dG (fun w=> ?_) (fun _=>stay);have w:gI lv (am:Int)+1<gI cs hA:=of_decide_eq_true w;refine ⟨_,rfl,_,rfl,_,_,_,_,rfl,rfl,aY.of eL9,dX (by omega) (by omega),_,_,rfl,rfl,_,rfl,_,rfl,_,_,_,_,rfl,rfl,eC9,vG (by omega) (by rw [List.length_map];omega), ?_⟩;refine hD' _ _ ⟨cm.set am (gI lv (am:Int)+1),rfl, ?_,by rw [List.length_set];omega,fun j hj=> ?_,Kp.set⟩
    ·show (upd H9 C (.lst ((cm.map V.int).set (am:Int).toNat (V.int (gI lv (am:Int)+1))))) C=_
     rw [aA,List.map_set,Int.toNat_natCast]
    ·have e:=vO (cs:=cm) (h:=(am:Int)) (k:=(j:Int)) (v:=gI lv (am:Int)+1) (by omega) (by omega) (by omega)
     rw [Int.toNat_natCast] at e;rw [e]
     by_cases ej:(j:Int)=(am:Int)
     ·have:j=am:=by omega
      subst this;rw [if_pos rfl,fX eA];have:=Wm j hj;omega
     ·rw [if_neg ej]
      exact base j hj
   rintro σ oW ⟨z_,rfl,eC,cl',aaT,k10⟩;have Qy:Kp C H9 oW:=k10;have Jf:=k10 _ _ hc9 ncC;have QB:=k10 _ _ hh9 nCh;have Uq:=k10 _ _ eL9 nCL;have B10:=B9.kp k10 ZG.symm nCb.symm;have IV:Kp r H oW:=fun q o e nq=>k10 _ _ (k09 _ _ e nq) (aC e fC);refine ⟨(by show 0<=sizeLine;decide),fun p hp=> ?_⟩;have Ds:=aD (o:=HO.lst []) hp;obtain ⟨npr,npb⟩:=B10.ne hp;have fp:H p=none:=Kp.new IV hp B10.at;have npc:c≠p:=aC hc fp;have nph:hd≠p:=aC QB hp;have npL:L≠p:=aC Uq hp;have npC:C≠p:=aC eC hp
   have Mv:bQ oW a ns:=by
    obtain ⟨ys,hl0⟩:=B0.lst;exact N.kp (IV.tups hl0) IV Gd
   have aaL:oW t=some (.tup [.ref c,.ref a]):=by
    obtain ⟨ys,hl0⟩:=B0.lst;exact IV.tups hl0 _ _ ht
   have npa:a≠p:=by
    obtain ⟨us,ha,_⟩:=id Mv;exact aC ha hp
   have nha:hd≠a:=by
    obtain ⟨us,ha,_⟩:=id N;exact (aC ha fh).symm
   have nLa:L≠a:=by
    obtain ⟨us,ha,_⟩:=id N;exact (aC ha fL).symm
   have nCa:C≠a:=by
    obtain ⟨us,ha,_⟩:=id N;exact (aC ha fC).symm
   refine ⟨_,rfl,hd,_,rfl,.inl (aY.of (Ds _ _ QB)),_,rfl,by rw [List.length_map];omega,by rw [List.length_map];omega, ?_⟩;have ZP:(((hs.map V.int).length:Nat):Int).toNat=hs.length:=by simp
   rw [ZP]
   refine gC (lo:=0) (n:=hs.length) (fun j σ nA=>∃(ls' ms:List Nt) (x2 x3:Option V),σ=[some (.ref r),some (.ref t),some (.bl nr),some (.ref c),some (.ref a),some (.ref S),some (.ref hd),x1,some (.ref L),some (.ref C),some (.int am),some (.ref p),x2,x3]/\bQ nA p ls'/\ls'.length=j/\bQ nA a ms/\ms.length=ns.length+j/\acO cs ms/\nA hd=some (.lst (hs.map V.int))/\nA L=some (.lst (lv.map V.int))/\nA C=some (.lst (z_.map V.int))/\nA t=some (.tup [.ref c,.ref a])/\nA c=some (.lst (cs.map V.int))/\bD nA r b (n+30+j)/\(∀q o,H q=some o->q≠r->q≠a->nA q=some o))
    ⟨[],ns,none,none,rfl,⟨[],aA,by simp [aG]⟩,rfl,Mv.same Ds,by omega,ok.2.2,Ds _ _ QB,Ds _ _ Uq,Ds _ _ eC,Ds _ _ aaL,Ds _ _ Jf,(B10.keep Ds).mono (by omega),fun q o e nq _=>Ds _ _ (IV _ _ e nq)⟩ ?_ ?_
   ·rintro j σ nA hj ⟨ls',ms,x2,x3,rfl,Np,ZM,Na,ZL,Tp,Je,QG,QH,Ew,QD,B12,k12⟩
    obtain ⟨h,eh,ath,h0,h1,hpos⟩:=hget j hj;have hto:(j+1) % hs.length<hs.length:=Nat.mod_lt _ (by omega);obtain ⟨g,eg,atg,g0,g1,agb⟩:=hget ((j+1) % hs.length) hto
    have ngh:h≠g:=fun e=>by
     have nde:=List.pairwise_iff_getElem.mp nd';obtain ⟨b1,b2⟩:=List.getElem?_eq_some_iff.mp eh;obtain ⟨c1,c2⟩:=List.getElem?_eq_some_iff.mp eg
     have nj:j≠(j+1) % hs.length:=by
      by_cases w:j+1<hs.length
      ·rw [Nat.mod_eq_of_lt w];omega
      ·have:j+1=hs.length:=by omega
       rw [this,Nat.mod_self];omega
     rcases Nat.lt_or_gt_of_ne nj with w|w
     ·exact nde _ _ b1 c1 w (by rw [b2,c2,e])
     ·exact nde _ _ c1 b1 w (by rw [b2,c2,e])
    refine ⟨_,rfl,_,_,rfl,rfl,_,rfl,hd,_,rfl,.inl (aY.of Je),_,_,rfl,rfl,by rw [List.length_map];omega, ?_⟩
    have eto:(fun (i j:Int)=>V.int (i % j)) (0+(j:Int)+1) ((hs.map V.int).length:Int)=V.int (((j+1) % hs.length:Nat):Int):=by
     show V.int _=_;rw [List.length_map,Int.zero_add,Int.natCast_emod];rfl
    rw [eto];have ej:(0+(j:Int))=(j:Int):=by omega
    obtain ⟨us,Ez,Ur⟩:=id Np;have ul:us.length=j:=by rw [Ur.length,List.length_map,ZM]
    have v1:=Wm j hj;have v2:=aaT _ hto;rw [fX eh] at v1;rw [fX eg] at v2;refine ⟨_,rfl,.inl ⟨rfl,_,aY.of Ez⟩, ?_⟩;refine ⟨_,rfl,_,rfl,_,_,_,_,rfl,rfl,aY.of Je,by rw [ej];exact ath, ?_⟩;refine ⟨_,rfl,_,rfl,_,_,_,_,rfl,rfl,aY.of QG,dX (h:=0+(j:Int)) (by omega) (by omega), ?_⟩;refine ⟨_,rfl,_,rfl,_,_,_,_,rfl,rfl,aY.of Je,atg, ?_⟩;refine ⟨_,rfl,_,rfl,_,_,_,_,rfl,rfl,aY.of QH,dX (by omega) (by omega), ?_⟩;rw [ej];refine ⟨(by show 4<=sizeLine;decide),fun q hq=> ?_⟩;have sq:=aD (o:=HO.tup [V.int h,V.int (gI lv j),V.int g,V.int (gI z_ (((j+1) % hs.length:Nat):Int))]) hq;refine ⟨p,us,_,rfl,rfl,sq _ _ Ez,by rw [sizeLine_eq];omega, ?_⟩;have xok:v9 cs (h,gI lv j,g,gI z_ (((j+1) % hs.length:Nat):Int)):=⟨⟨h0,h1⟩,v1,⟨g0,g1⟩,v2,ngh⟩;have hq0:(upd nA q (.tup [V.int h,V.int (gI lv j),V.int g,V.int (gI z_ (((j+1) % hs.length:Nat):Int))])) q=some (.tup (nV (h,gI lv j,g,gI z_ (((j+1) % hs.length:Nat):Int)))):=aA;have k13:Kp p (upd nA q (.tup [V.int h,V.int (gI lv j),V.int g,V.int (gI z_ (((j+1) % hs.length:Nat):Int))])) (upd (upd nA q (.tup [V.int h,V.int (gI lv j),V.int g,V.int (gI z_ (((j+1) % hs.length:Nat):Int))])) p (.lst (us++[V.ref q]))):=Kp.set;have Uc:(upd (upd nA q (.tup [V.int h,V.int (gI lv j),V.int g,V.int (gI z_ (((j+1) % hs.length:Nat):Int))])) p (.lst (us++[V.ref q]))) p=some (.lst (us++[V.ref q])):=aA;have J9:=k13.tups (sq _ _ Ez);have Qx:=J9 _ _ hq0;generalize (upd (upd nA q (.tup [V.int h,V.int (gI lv j),V.int g,V.int (gI z_ (((j+1) % hs.length:Nat):Int))])) p (.lst (us++[V.ref q])))=Xb at k13 Uc J9 Qx ⊢;generalize ((h,gI lv j,g,gI z_ (((j+1) % hs.length:Nat):Int)):Nt)=x at xok Qx;have B13:=(B12.keep sq).kp k13 npr.symm npb.symm;have Vq:bQ Xb a ms:=(Na.same sq).kp J9 k13 npa;obtain ⟨as,Ui,abw⟩:=id Vq;have asl:as.length=ms.length:=by rw [abw.length,List.length_map]
    refine ⟨_,rfl,.inl ⟨rfl,_,aY.of Ui⟩,_,rfl,_,rfl,a,_,rfl,.inl (aY.of Ui),_,_,rfl,rfl,r,b,_,_,rfl,B13,by omega,by omega,by omega,fun y NT y0 y1 B14 k14=> ?_⟩;have Ey:=k14 _ _ Uc npr;have uQ:=B13.tups k14;have acK:=Vq.kp uQ k14 Gd;obtain ⟨as',Uh,Uu⟩:=id acK;have agU:as'.length=ms.length:=by rw [Uu.length,List.length_map]
    refine ⟨_,rfl,_,rfl,_,_,_,_,rfl,rfl,aY.of Ey,rH _ _,a,as',y,_,rfl,rfl,Uh,y0,by omega,by rw [sizeLine_eq];omega, ?_⟩;have Lx:Kp a NT (upd NT a (.lst (as'.take y.toNat++V.ref q::as'.drop y.toNat))):=Kp.set;have N_:=Lx.tups Uh;have up:∀{e:Addr} {o:HO},nA e=some o->e≠p->e≠r->e≠a->(upd NT a (.lst (as'.take y.toNat++V.ref q::as'.drop y.toNat))) e=some o:=fun w n1 n2 n3=>Lx _ _ (k14 _ _ (k13 _ _ (sq _ _ w) n1) n2) n3;have tpA:∀e xs,nA e=some (HO.tup xs)->(upd NT a (.lst (as'.take y.toNat++V.ref q::as'.drop y.toNat))) e=some (HO.tup xs):=fun e xs w=>N_ _ _ (uQ _ _ (J9 _ _ (sq _ _ w)));have dx:Dat (upd NT a (.lst (as'.take y.toNat++V.ref q::as'.drop y.toNat))) (V.ref q) (nD x):=jL (N_ _ _ (uQ _ _ Qx));refine ⟨ls'++[x],ms.take y.toNat++x::ms.drop y.toNat,_,_,rfl,⟨_,Lx _ _ Ey npa.symm, ?_⟩,by simp [ZM],⟨_,aA,vf _ (aG.keep N_ _ (bI _ eU _) Uu) dx⟩,by rw [vo];omega,fun w hw=> ?_,up Je nph Nf nha,up QG npL V2 nLa,up QH npC ZG nCa,tpA _ _ Ew,up QD npc Ng Qf,((B14.kp Lx Gd.symm nab.symm).mono (by omega)),fun w o e n1 n2=>up (k12 _ _ e n1 n2) (aC e fp) n1 n2⟩
    ·rw [List.map_append]
     exact lG (aG.keep tpA _ (bI _ eU _) Ur) dx
    ·rcases vm hw with rfl|hw
     ·exact xok
     ·exact Tp w hw
   ·rintro σ nA ⟨ls',ms,x2,x3,rfl,Np,ZM,Na,ZL,Tp,Je,QG,QH,Ew,QD,B12,k12⟩
    exact ⟨_,rfl,k p ls' ms nA fp Np (by omega) ⟨Ew,QD,Na⟩ ⟨ok.1,by omega,Tp⟩ (fun _ e=>by rw [e] at ZL;simp at ZL;omega) (B12.mono (by omega)) k12⟩
def Ot (K:PySem.W.Frag):Sp:=fun vs H Q _=>∃(t c a o:Addr) (cs os:List Int) (ns:List Nt),vs=[.ref t,.ref o]/\RecAt H t c a cs ns/\fH cs ns/\H o=some (.lst (os.map V.int))/\pJ cs os/\runK cs ns os (zs cs)=true /\ ∀H',Same H H'->Q (.bl true) H'
theorem Tf {f:Addr} {fd:FuncData} (F:jX K "_law_keeps" "_law_keeps" fU f fd) (rO:FnAt P w K mg base 1 "_law_spots" ["order"] (o8 K)) (Bt:o7 mg):cT P w K mg base jV 2 f fd ["record","order"] (Ot K):=by
 refine F.ok tM (fun vs H Q E h=> ?_) (fun cdv A outer s H vs Q E hr h=> ?_)
 ·obtain ⟨t,c,a,o,cs,os,ns,rfl,_⟩:=h
  rfl
 ·obtain ⟨t,c,a,o,cs,os,ns,rfl,R,ok,ho,of_,run,k⟩:=h
  have hu:=lR hr;have dN:=hr.units;have c8:=ok.1.1;have nl:=ok.2.1;have ol:=of_.2.1;have oo:=uy of_;have ks:=(uf ok oo).mp run;obtain ⟨ec,el⟩:=Jh.mp oo;obtain ⟨ht,hc,N⟩:=id R
  refine ⟨_,(au (b_ (PW.pt (jO (gA (dU (aN (gD (K:=K) (cv:= .ty "list") (c:= .type "list") rfl rfl) (by rfl) Bt.dg cQ (aj (pv 1) (aj (jH (v:= .ty "list") (by rfl) Bt.kO iR rfl) ak))))) (iT (aX BX (aN (aH (K:=K) rfl) (by rfl) Bt.cj bH (aj (pv 1) ak)) (aN (uF (K:=K) rfl rfl) (by rfl) Bt.Ny Jy (aj (aL (aO (K:=K) rfl) (pv 0) ao (fun _ _=>rfl)) ak)) (aV _))))) (aF (aW gj)) bh)
   (au (b_ (aX (mX (K:=K) rfl dN) (eF rfl (N:=["hand","order"]) (own:=["hand"]) (caps:=[1]) (aR.of (by kernel_rfl)) (cg (by rfl) Bt.dJ (aj (aN (aH (K:=K) rfl) (by rfl) Bt.cj bH (aj (aL (aO (K:=K) rfl) (pv 0) ao (fun _ _=>rfl)) ak)) ak)) (fun _ _ _ _=>(bf (i:=0) (show List.Nodup (["hand","order"]:List Str) by decide +kernel) rfl (Or.inl rfl))) (fun _ _ _ _=>eE) (fun _ _ _ _=>(qu (K:=K) rfl PySem.F.plainAttrs_list PySem.F.slot_list_count PySem.F.type_list_count (Ed (K:=K) rfl) (pv 1) (aj (pv 0) ak)))) (aL (aO (K:=K) rfl) (pv 0) ao (fun _ _=>rfl)) (aV _)) (aF (aW gj)) bh)
   (au (aU (i:=2) tM.nd rfl (Or.inr rfl) (aZ rO (hr.mono (by decide)) (by rfl) (aj (pv 1) ak)))
   (aF (aW (cZ (vd (K:=K) rfl dN) (eF rfl (N:=["tie","spots"]) (own:=["tie"]) (caps:=[2]) (aR.of (by kernel_rfl)) (cN (K:=K) rfl (aL (aO (K:=K) rfl) (pv 0) ao (fun _ _=>rfl))) (fun _ _ _ _=>(bf (i:=0) (show List.Nodup (["tie","spots"]:List Str) by decide +kernel) rfl (Or.inl rfl))) (fun _ _ _ _=>(jE (aX qx (iJ hu (pv 1) (dh (gY (K:=K) rfl) (pv 0) eZ (eY ao)) (fun _ _=>rfl)) (iJ hu (pv 1) (dh (gY (K:=K) rfl) (pv 0) (eY ao) eZ) (fun _ _=>rfl)) (aV _)))) (fun _ _ _ _=>(pv 0))) (cY ak) (aV _))))))), ?_⟩
  refine ⟨_,rfl,_,_,true,rfl,.lst ho,lQ K,true,rfl,dj ?_⟩;refine ⟨_,rfl,o,_,rfl,.inl (aY.of ho),_,rfl,_,_,_,_,rfl,rfl,cH.of ht,rfl,c,cs,rfl,aY.of hc,rfl,_,rfl, ?_⟩;refine Ck (by rw [List.length_map,el]) ?_;refine ⟨_,rfl,_,_,_,_,rfl,rfl,cH.of ht,rfl,c,_,rfl,.inl (aY.of hc),_,rfl,by rw [List.length_map];omega,by rw [List.length_map];omega,fun D2 hD2=> ?_⟩;have Em:(((cs.map V.int).length:Nat):Int).toNat=cs.length:=by simp
  rw [Em];refine jh (fun (i:Nat)=>some (V.int (os.count (0+(i:Int)):Nat))) hD2 (by omega) (fun j H3 G F hj s3 kG kF=> ?_) (fun H3 s3 e3=> ?_)
  ·exact ⟨_,rfl,.inl ⟨rfl,_,aY.of (s3 _ _ ho)⟩,_,rfl,o,os,0+(j:Int),rfl,rfl,aY.of (s3 _ _ ho),kF _ H3 (Same.refl _) rfl⟩
  have e3':H3 D2=some (.lst (cs.map V.int)):=by
   rw [e3];congr 2
   have:(List.range cs.length).filterMap (fun (i:Nat)=>some (V.int (os.count (0+(i:Int)):Nat)))=(List.range cs.length).filterMap (fun (i:Nat)=>(cs[i]?).map V.int):=by
    refine kj _ trivial fun i hi=> ?_;have hi':i<cs.length:=by simpa using hi
    have q:=oo.2 (0+(i:Int)) (by omega) (by omega);rw [q,show (0+(i:Int))=i by omega,fX (c:=cs[i]) (by simp [hi'])];simp [hi']
   rw [this,pG]
  refine ⟨_,rfl,_,_,_,_,rfl,rfl,cH.of (s3 _ _ ht),rfl,_,_,kI e3',kI (s3 _ _ hc),shaped_ints _,shaped_ints _,_,rfl, ?_⟩;rw [if_pos rfl,fY PyData.int vR,decide_eq_true rfl];refine dj ?_;refine ⟨_,rfl,o,os,rfl,s3 _ _ ho,ol,fun d kvs H4 hd0 hd S s4=> ?_⟩;have J1:=s3.trans s4;obtain ⟨vs,ha,dv⟩:=id (N.same J1);have vl:vs.length=ns.length:=by rw [dv.length,List.length_map]
  refine ⟨_,rfl,_,_,_,_,rfl,rfl,cH.of (J1 _ _ ht),rfl,a,rfl,⟨_,aY.of ha⟩,fun D3 hD3=> ?_⟩;refine ji (K:=K) (fun i=>none) hD3 (aY.of ha) (by omega) (fun j v H5 G F hj s5 kG kF=> ?_) (fun H5 s5 e5=> ?_)
  ·obtain ⟨x,w',ex,rfl,hx⟩:=fW dv hj
   have hx5:=s5 _ _ hx;have QC:=s5 _ _ hd;have xm:=List.mem_of_getElem? ex;obtain ⟨⟨a0,a1⟩,⟨b0,b1⟩,⟨o0,o1⟩,⟨m0,m1⟩,_⟩:=ok.2.2 x xm;have c1:=oo.2 x.1 a0 a1;have c2:=oo.2 x.2.2.1 o0 o1;obtain ⟨p,vp,p2,p3⟩:=S x.1 x.2.1.toNat (by omega);obtain ⟨q,vq,q2,q3⟩:=S x.2.2.1 x.2.2.2.toNat (by omega);rw [show ((x.2.1.toNat:Nat):Int)=x.2.1 by omega] at vp;rw [show ((x.2.2.2.toNat:Nat):Int)=x.2.2.2 by omega] at vq;have lt:=ks x xm p q ⟨p2,p3⟩ ⟨q2,q3⟩;refine ⟨_,rfl,_,rfl,_,rfl,_,_,rfl,cH.of hx5,qw _ rfl,fun p1 hp1=> ?_⟩;have c1:iH (nV x) none (some 2)=[.int x.1,.int x.2.1]:=CP ..;rw [c1];have su:=aD (o:=HO.tup [V.int x.1,V.int x.2.1]) hp1;refine ⟨d,_,rfl,vp▸gK.t (k:=[Sum.inl x.1,Sum.inl x.2.1]) (su _ _ QC) aA, ?_⟩;refine ⟨_,rfl,_,rfl,_,rfl,_,_,rfl,cH.of (su _ _ hx5),u9 _ rfl,fun p2 hp2=> ?_⟩;have c2:iH (nV x) (some 2) none=[.int x.2.2.1,.int x.2.2.2]:=Jr ..;rw [c2];have Km:=aD (o:=HO.tup [V.int x.2.2.1,V.int x.2.2.2]) hp2;refine ⟨d,_,rfl,vq▸gK.t (k:=[Sum.inl x.2.2.1,Sum.inl x.2.2.2]) (Km _ _ (su _ _ QC)) aA,_,_,rfl,rfl,_,rfl, ?_⟩;refine dG (fun z=>absurd (of_decide_eq_true z) (by omega)) (fun _=> ?_);exact kG _ (su.trans Km) rfl
  have e5':H5 D3=some (.lst []):=by rw [e5];congr 2;exact List.filterMap_eq_nil_iff.mpr fun _ _=>rfl
  refine ⟨(by show 0<=sizeLine;decide),fun q hq=> ?_⟩;have s6:=aD (o:=HO.lst []) hq;refine ⟨_,_,dz (ds:=([]:List Nt).map nD) (s6 _ _ e5') (by simp only [List.map_nil,aG]),dz (ds:=([]:List Nt).map nD) aA (by simp only [List.map_nil,aG]),cD _,cD _, ?_⟩;rw [if_neg Bool.false_ne_true,fY nD kE,decide_eq_true rfl];exact k _ ((J1.trans s5).trans s6)
theorem Dw {ns:List Nt}:∀{c:List Nt},yL ns c->oH ns c:=fun {c} h=>by
 obtain ⟨ne,hj⟩:=h;cases c with
 | nil=>exact absurd rfl ne
 | cons x r=>
   refine ⟨x,r,rfl,fun y hy=> ?_, ?_⟩
   ·obtain ⟨j,e⟩:=List.getElem?_of_mem hy
    have jl:=(List.getElem?_eq_some_iff.mp e).1;have hl2:(j+1) % (x::r).length<(x::r).length:=Nat.mod_lt _ (by omega);exact (hj j y _ e (by rw [List.getElem?_eq_getElem hl2])).1
   ·have key:∀(l:List Nt),(∀(i:Nat) a b,l[i]? = some a->l[i+1]? = some b->pA a b)->Lk l:=fun l=>by
     induction l with
     | nil=>intro _;exact True.intro
     | cons y l ih=>
       intro h;cases l with
       | nil=>exact True.intro
       | cons z l=>exact ⟨h 0 y z rfl rfl,ih fun i a b h1 h2=>h (i+1) a b (by simpa using h1) (by simpa using h2)⟩
    refine key _ fun i a b h1 h2=> ?_;have il:i+1<(x::r++[x]).length:=(List.getElem?_eq_some_iff.mp h2).1;rw [List.length_append] at il;have il':i<(x::r).length:=by simpa using il
    rw [List.getElem?_append_left il'] at h1;refine (mZ _ _).mp (hj i a b h1 ?_).2
    by_cases q:i+1<(x::r).length
    ·rw [Nat.mod_eq_of_lt q]
     rw [List.getElem?_append_left q] at h2;exact h2
    ·have e:i+1=(x::r).length:=by omega
     rw [e] at h2 ⊢;rw [Nat.mod_self];rw [List.getElem?_append_right (Nat.le_refl _)] at h2;simpa using h2
def Bh (K:PySem.W.Frag):Sp:=fun vs H Q _=>∃(a:Addr) (ns:List Int),vs=[.ref a]/\aY K H a (ns.map V.int)/\ns.length<=63 /\ ∀H',Q (.bl true) H'
theorem PK {f:Addr} {fd:FuncData} (F:jX K "law" "law" mU f fd) (Rm:FnAt P w K mg base 1 "_law_bag" ["script"] (GK K)) (bC:FnAt P w K mg base 2 "_law_draw" ["bag","many"] (j4 K)) (Ga:FnAt P w K mg base 4 "_law_record" ["bag","great"] (nJ K)) (Av:FnAt P w K mg base 3 "_law_ring_in" ["bag","record","near"] (pO K)) (Mz:FnAt P w K mg base 1 "_law_copy" ["record"] (zH K)) (tu:FnAt P w K mg base 5 "first_order" ["record"] (uX K)) (JQ:FnAt P w K mg base 5 "ring" ["record"] (uT K)) (nF:FnAt P w K mg base 5 "ring_shows" ["record","some"] (zE K)) (JV:FnAt P w K mg base 2 "_law_keeps" ["record","order"] (Ot K)) (uK:FnAt P w K mg base 3 "_law_fewest" ["ties"] (GJ K)) (tD:FnAt P w K mg base 2 "_law_goes_round" ["record","found"] (Ou K)) (Bt:o7 mg):cT P w K mg base jV 6 f fd ["script"] (Bh K):=by
 refine F.ok jz (fun vs H Q E h=> ?_) (fun cdv A outer s H vs Q E hr h=> ?_)
 ·obtain ⟨a,ns,rfl,_⟩:=h
  rfl
 ·obtain ⟨sa,sns,rfl,hS,hlen,k⟩:=h
  have dN:=hr.units
  refine ⟨_,(au (aU (i:=1) jz.nd rfl (Or.inl rfl) (aZ Rm (hr.mono (by decide)) (by rfl) (aj (pv 0) ak)))
   (au (aU (i:=2) jz.nd rfl (Or.inl rfl) (eG Fy (by rfl) Bt.Nz Jz (aj (cZ jP (aZ bC (hr.mono (by decide)) (by rfl) (aj (pv 1) (aj ao ak))) ao (aV _)) ak)))
   (au (aU (i:=3) jz.nd rfl (Or.inl rfl) (aZ bC (hr.mono (by decide)) (by rfl) (aj (pv 1) (aj ao ak))))
   (au (aU (i:=4) jz.nd rfl (Or.inl rfl) (aZ Ga (hr.mono (by decide)) (by rfl) (aj (pv 1) (aj (pv 2) ak))))
   (au (b_ (aX jP (pv 3) ao (aV _)) (aF (dI (aZ Av (hr.mono (by decide)) (by rfl) (aj (pv 1) (aj (pv 4) (aj gj ak)))))) bh)
   (au (aU (i:=5) jz.nd rfl (Or.inl rfl) (aZ Mz (hr.mono (by decide)) (by rfl) (aj (pv 4) ak)))
   (au (aU (i:=6) jz.nd rfl (Or.inl rfl) (aZ tu (hr.mono (by decide)) (by rfl) (aj (pv 5) ak)))
   (au (aU (i:=7) jz.nd rfl (Or.inl rfl) (aZ JQ (hr.mono (by decide)) (by rfl) (aj (pv 5) ak)))
   (au (b_ (aX (mX (K:=K) rfl dN) (pv 5) (pv 4) (aV _)) (aF (aW gj)) bh)
   (au (b_ (aX Hz (pv 7) gO (aV _)) (aF (aW (iW (cZ lA (pv 6) gO (aV _)) (iW (aZ JV (hr.mono (by decide)) (by rfl) (aj (pv 4) (aj (pv 6) ak))) (iV (cZ jP (aZ uK (hr.mono (by decide)) (by rfl) (aj (aL (aO (K:=K) rfl) (pv 4) ao (fun _ _=>rfl)) ak)) ao (aV _))))))) bh)
   (au (b_ (PW.pt (jO (aX lA (pv 6) gO (aV _)) (jO (gA (dU (aZ tD (hr.mono (by decide)) (by rfl) (aj (pv 4) (aj (pv 7) ak))))) (iT (aX BX (aN (aH (K:=K) rfl) (by rfl) Bt.cj bH (aj (pv 7) ak)) (aZ uK (hr.mono (by decide)) (by rfl) (aj (aL (aO (K:=K) rfl) (pv 4) ao (fun _ _=>rfl)) ak)) (aV _)))))) (aF (aW gj)) bh)
   (au (b_ (PW.pt (jO (aX BW (aZ nF (hr.mono (by decide)) (by rfl) (aj (pv 5) (aj (eG (dF (K:=K) rfl) (by rfl) Bt.kO iR (aj (pv 7) ak)) ak))) gj (aV _)) (iT (aX BW (aZ nF (hr.mono (by decide)) (by rfl) (aj (pv 5) (aj (dh (pX (K:=K) rfl) (pv 7) (eY ao) eZ) ak))) gj (aV _))))) (aF (aW gj)) bh)
   (au (aU (i:=8) jz.nd rfl (Or.inl rfl) (eG (dF (K:=K) rfl) (by rfl) Bt.kO iR (aj (pv 7) ak)))
   (au (dI (K6 (K:=K) rfl PySem.F.plainAttrs_list PySem.F.slot_list_clear PySem.F.type_list_clear Ih (pv 7)))
   (aF (aW (cZ (vd (K:=K) rfl dN) (aZ JQ (hr.mono (by decide)) (by rfl) (aj (pv 5) ak)) (pv 8) (aV _)))))))))))))))))), ?_⟩
  refine ⟨_,rfl,sa,sns,rfl,hS,hlen,fun r b H1 hr1 hb1 B1 Ko=> ?_⟩;refine ⟨_,rfl,r,b,8,0,rfl,B1,by decide,by decide,by decide,fun z H2 z0 z1 B2 k2=> ?_⟩;refine ⟨rfl,Or.inr ⟨_,rfl, ?_⟩⟩;refine ⟨_,rfl,r,b,2,1,rfl,B2,by decide,by decide,by decide,fun pl H3 y0 y1 B3 k3=> ?_⟩;refine ⟨_,rfl,_,rfl,r,b,2,_,rfl, ?_,B3,by decide,fun t c a cs ns0 H4 ht0 hc0 ha0 R ok _ B4 k4 Qf ZJ=> ?_⟩
  ·by_cases q:z=7
   ·exact .inr (by simp [q])
   ·exact .inl (by simp [q])
  obtain ⟨Ng,ncb⟩:=B3.ne hc0;obtain ⟨Gd,nab⟩:=B3.ne ha0;dsimp only;refine jw (fun σ H5=>∃(g:V) (ns:List Nt),σ=[some (.ref sa),some (.ref r),some g,some (.int pl),some (.ref t),none,none,none,none]/\RecAt H5 t c a cs ns/\fH cs ns) (fun D' hD' _=> ?_) ?_
  ·refine ⟨_,rfl,rfl,_,rfl, ?_⟩
   refine dG (fun _=> ?_) (fun _=>hD' _ _ ⟨_,ns0,rfl,R,ok⟩);exact ⟨_,rfl,_,rfl,r,b,_,t,c,a,cs,ns0,_,rfl,B4,by decide,R,Ng,Gd,nab,Qf,ok,ZJ,fun p ls ms H6 hp N6 ll R6 ok6 ne6 B6 keep=>hD' _ _ ⟨_,ms,rfl,R6,ok6⟩⟩
  clear B1 B2 B3 B4 k2 k3 k4 R ok ZJ;rintro σ H5 ⟨g,ns,rfl,R5,ok⟩;have c8:=ok.1.1;have nl:=ok.2.1;refine ⟨_,rfl,t,c,a,cs,ns,rfl,R5,fun t' c' a' H6 ht' hc' ha' R6 s6=> ?_⟩;have R56:=R5.same s6;clear R5 s6 ht' hc' ha';have tail:∀(ov:V) (H7:Hp),RecAt H7 t c a cs ns->RecAt H7 t' c' a' cs ns->((ov = .non/\Stuck cs ns) \/ ∃o os,ov = .ref o/\H7 o=some (.lst (os.map V.int))/\pJ cs os/\runK cs ns os (zs cs)=true)->True:=fun _ _ _ _ _=>True.intro;refine ⟨_,rfl,t',c',a',cs,ns,rfl,R6,ok,fun H7 st s7=> ?_,fun o os H7 ho eo fr ir ol s7=> ?_⟩
  ·
   have R7:=R6.same s7;have R57:=R56.same s7;refine ⟨_,rfl,t',c',a',cs,ns,rfl,R7,ok,fun no _ H8 s8=> ?_,fun p cc H8 s8 hp N rg le sh rp=> ?_⟩
   ·obtain ⟨c2,rg⟩:=zu ok st
    exact absurd rg (no c2)
   have R8:=R7.same s8;have Rh:=R57.same s8;refine ⟨_,rfl,_,rfl,_,_,pH R8,pH Rh,ju _ _,ju _ _,_,rfl, ?_⟩;rw [if_pos rfl,Cz,decide_eq_true rfl,decide_eq_true rfl];refine dj ?_;refine ⟨_,rfl,rfl,_,rfl,dj ?_⟩;refine ⟨_,rfl,rfl,_,rfl,dj ?_⟩;have pr:=Dt rg;refine ⟨_,rfl,_,rfl,t,c,a,p,cs,ns,cc,rfl,Rh,N,by omega,by omega,pr,fun H9 s9=>⟨_,rfl,dj ?_⟩⟩;have R9:=R8.same s9;have Vl:=Rh.same s9;have N9:=N.same s9;obtain ⟨vs,hp9,W3⟩:=id N9;have vl:vs.length=cc.length:=by rw [W3.length,List.length_map]
   refine ⟨_,rfl,p,_,rfl,.inl (aY.of hp9),_,rfl,_,_,_,_,rfl,rfl,cH.of Vl.1,rfl,a,ns,rfl,Vl.2.2,by omega,fun n oW few OJ=>⟨rfl,_,rfl, ?_⟩⟩;have fc:rN ns (cc.length:Nat):= .inr ⟨by obtain ⟨x,r,rfl,_⟩:=rg;simp,⟨cc,rg,rfl⟩,fun c2 r2=>by have:=sh c2 r2;omega⟩;have en:=qL few fc;subst en;refine Ck (by rw [vl]) ?_;have R10:=R9.same OJ;have Qy:=OJ _ _ hp9;have Mv:=N9.same OJ;refine ⟨_,rfl,_,rfl,p,_,rfl,.inl (aY.of Qy),fun l hl=> ?_⟩;have Ds:=aD (o:=HO.lst vs) hl;have Rk:bQ (upd oW l (HO.lst vs)) l cc:=⟨vs,aA,aG.keep (OJ.trans Ds).tups _ (bI _ eU _) W3⟩;refine ⟨t',c',a',l,cs,ns,cc,rfl,R10.same Ds,ok,Rk,by omega,fun bl nA hb s12=> ?_⟩;rw [hb.mpr pr];refine ⟨_,_,rfl,rfl,_,rfl,dj ?_⟩;have Kw:=Ds.trans s12;have R12:=R10.same Kw;have Ez:=Kw _ _ Qy;refine ⟨_,rfl,_,rfl,_,rfl,p,vs,rfl,aY.of Ez,fun l2 hl2=> ?_⟩;rw [show iH vs (some 1) none=vs.drop 1 from qW vs 1];have zM:=aD (o:=HO.lst (vs.drop 1)) hl2
   have N13:bQ (upd nA l2 (HO.lst (vs.drop 1))) l2 (cc.drop 1):=⟨vs.drop 1,aA,by
    rw [List.map_drop];exact (aG.keep ((OJ.trans Kw).trans zM).tups _ (bI _ eU _) W3).drop 1⟩
   refine ⟨t',c',a',l2,cs,ns,cc.drop 1,rfl,R12.same zM,ok,N13,by rw [List.length_drop];omega,fun bl NT hb s14=> ?_⟩
   have eb:bl=false:=by
    cases bl with
    | false=>rfl
    | true=>
      have r2:=Dw (hb.mp rfl);have:=sh _ r2;obtain ⟨x,r,rfl,_⟩:=rg;simp at this;omega
   subst eb;refine ⟨_,_,rfl,rfl,_,rfl,dj ?_⟩;have OD:=zM.trans s14;have R14:=R12.same OD;have Ey:=OD _ _ Ez;refine ⟨_,rfl,p,_,rfl,.inl (aY.of Ey),fun l3 hl3=> ?_⟩;have VH:=aD (o:=HO.lst vs) hl3;have LK:=VH _ _ Ey;have npl:p≠l3:=aC Ey hl3;have W6:=R14.same VH;have Vu:bQ (upd NT l3 (HO.lst vs)) l3 cc:=⟨vs,aA,aG.keep (((OJ.trans Kw).trans OD).trans VH).tups _ (bI _ eU _) W3⟩;generalize (upd NT l3 (HO.lst vs))=H15 at VH LK W6 Vu ⊢;refine ⟨_,rfl,.inl ⟨rfl,_,aY.of LK⟩,p,_,rfl,rfl,LK, ?_⟩;have Lw:Kp p H15 (upd H15 p (.lst [])):=Kp.set;have Xn:=Lw.tups LK;have Mi:c'≠p:=aC (R7.2.1) hp
   have ane:a'≠p:=by
    obtain ⟨_,_,av,ha,_⟩:=R7;exact aC ha hp
   have R16:RecAt (upd H15 p (.lst [])) t' c' a' cs ns:=⟨Xn _ _ W6.1,Lw _ _ W6.2.1 Mi,W6.2.2.kp Xn Lw ane⟩;have N16:=Vu.kp Xn Lw npl.symm;refine ⟨_,rfl,t',c',a',cs,ns,rfl,R16,ok,fun no _ H17 s17=>absurd rg (no cc),fun p2 cc2 H17 s17 hp2 N17 rg2 le2 sh2 rp2=> ?_⟩;have ec:cc2=cc:=Option.some.inj (rp2.symm.trans rp);subst ec;obtain ⟨v2,h2,d2⟩:=N17;obtain ⟨v3,h3,d3⟩:=N16.same s17;refine ⟨_,rfl,_,_,dz h2 d2,dz h3 d3,cD _,cD _, ?_⟩;rw [if_neg Bool.false_ne_true,fY nD kE,decide_eq_true rfl];exact k H17
  ·
   have full:=Fe ir ol fr;have run:=(qO fr).1;have none_:=Du ok (uy full) run;have R7:=R6.same s7;have R57:=R56.same s7;refine ⟨_,rfl,t',c',a',cs,ns,rfl,R7,ok,fun no _ H8 s8=> ?_,fun p cc H8 s8 hp N rg le sh rp=>absurd rg (none_ cc)⟩;have R8:=R7.same s8;have Rh:=R57.same s8;refine ⟨_,rfl,_,rfl,_,_,pH R8,pH Rh,ju _ _,ju _ _,_,rfl, ?_⟩;rw [if_pos rfl,Cz,decide_eq_true rfl,decide_eq_true rfl];refine dj ?_;refine ⟨_,rfl,rfl,_,rfl,iB ?_⟩;refine ⟨_,rfl,rfl,_,rfl,iB ?_⟩;refine ⟨_,rfl,_,rfl,t,c,a,o,cs,os,ns,rfl,Rh,ok,s8 _ _ eo,full,run,fun H9 s9=>⟨_,rfl,iB ?_⟩⟩;have Vl:=Rh.same s9;refine ⟨_,rfl,_,_,_,_,rfl,rfl,cH.of Vl.1,rfl,a,ns,rfl,Vl.2.2,by omega,fun n oW few OJ=> ?_⟩;have en:=qL few (.inl ⟨rfl,none_⟩);subst en;refine ⟨rfl, ?_⟩;show Q (.bl (decide (V.int 0=V.int 0))) oW;rw [decide_eq_true rfl];exact k oW
end
theorem len0 {us:List Value} (h:us.length=0):us=[]:=List.eq_nil_of_length_eq_zero h
theorem bV {us:List Value} {n:Nat} (h:us.length=n+1):∃a vs,us=a::vs/\vs.length=n:=by
 cases us with
 | nil=>cases h
 | cons a t=>exact ⟨a,t,rfl,Nat.succ.inj h⟩
theorem Mr (kV doc pm:Value) (an:Option Addr) (cdv ct:Value) (us:List Value) (hl:us.length=(["script"]:List Str).length):bindArgs (PySem.W.fnOf "_law_bag" "_law_bag" (aM jD) (aK jD) (aB jD) .none kV doc pm an cdv ct) ⟨us,[]⟩=pure ((["script"]:List Str).zip us):=by obtain ⟨_,_,rfl,h1⟩:=bV hl;cases len0 h1;rfl
theorem JB (kV doc pm:Value) (an:Option Addr) (cdv ct:Value) (us:List Value) (hl:us.length=(["number","place"]:List Str).length):bindArgs (PySem.W.fnOf "_law_stir" "_law_stir" (aM gZ) (aK gZ) (aB gZ) .none kV doc pm an cdv ct) ⟨us,[]⟩=pure ((["number","place"]:List Str).zip us):=by obtain ⟨_,_,rfl,h1⟩:=bV hl;obtain ⟨_,_,rfl,h2⟩:=bV h1;cases len0 h2;rfl
theorem JD (kV doc pm:Value) (an:Option Addr) (cdv ct:Value) (us:List Value) (hl:us.length=(["bag","many"]:List Str).length):bindArgs (PySem.W.fnOf "_law_draw" "_law_draw" (aM g_) (aK g_) (aB g_) .none kV doc pm an cdv ct) ⟨us,[]⟩=pure ((["bag","many"]:List Str).zip us):=by obtain ⟨_,_,rfl,h1⟩:=bV hl;obtain ⟨_,_,rfl,h2⟩:=bV h1;cases len0 h2;rfl
theorem Ah (kV doc pm:Value) (an:Option Addr) (cdv ct:Value) (us:List Value) (hl:us.length=(["bag","great"]:List Str).length):bindArgs (PySem.W.fnOf "_law_counts" "_law_counts" (aM d_) (aK d_) (aB d_) .none kV doc pm an cdv ct) ⟨us,[]⟩=pure ((["bag","great"]:List Str).zip us):=by obtain ⟨_,_,rfl,h1⟩:=bV hl;obtain ⟨_,_,rfl,h2⟩:=bV h1;cases len0 h2;rfl
theorem FN (kV doc pm:Value) (an:Option Addr) (cdv ct:Value) (us:List Value) (hl:us.length=(["bag","counts"]:List Str).length):bindArgs (PySem.W.fnOf "_law_order" "_law_order" (aM fO) (aK fO) (aB fO) .none kV doc pm an cdv ct) ⟨us,[]⟩=pure ((["bag","counts"]:List Str).zip us):=by obtain ⟨_,_,rfl,h1⟩:=bV hl;obtain ⟨_,_,rfl,h2⟩:=bV h1;cases len0 h2;rfl
theorem FJ (kV doc pm:Value) (an:Option Addr) (cdv ct:Value) (us:List Value) (hl:us.length=(["order"]:List Str).length):bindArgs (PySem.W.fnOf "_law_spots" "_law_spots" (aM fM) (aK fM) (aB fM) .none kV doc pm an cdv ct) ⟨us,[]⟩=pure ((["order"]:List Str).zip us):=by obtain ⟨_,_,rfl,h1⟩:=bV hl;cases len0 h1;rfl
theorem JC (kV doc pm:Value) (an:Option Addr) (cdv ct:Value) (us:List Value) (hl:us.length=(["bag","counts"]:List Str).length):bindArgs (PySem.W.fnOf "_law_note" "_law_note" (aM g8) (aK g8) (aB g8) .none kV doc pm an cdv ct) ⟨us,[]⟩=pure ((["bag","counts"]:List Str).zip us):=by obtain ⟨_,_,rfl,h1⟩:=bV hl;obtain ⟨_,_,rfl,h2⟩:=bV h1;cases len0 h2;rfl
theorem Af (kV doc pm:Value) (an:Option Addr) (cdv ct:Value) (us:List Value) (hl:us.length=(["bag","great"]:List Str).length):bindArgs (PySem.W.fnOf "_law_record" "_law_record" (aM d8) (aK d8) (aB d8) .none kV doc pm an cdv ct) ⟨us,[]⟩=pure ((["bag","great"]:List Str).zip us):=by obtain ⟨_,_,rfl,h1⟩:=bV hl;obtain ⟨_,_,rfl,h2⟩:=bV h1;cases len0 h2;rfl
theorem JF (kV doc pm:Value) (an:Option Addr) (cdv ct:Value) (us:List Value) (hl:us.length=(["record"]:List Str).length):bindArgs (PySem.W.fnOf "_law_copy" "_law_copy" (aM h_) (aK h_) (aB h_) .none kV doc pm an cdv ct) ⟨us,[]⟩=pure ((["record"]:List Str).zip us):=by obtain ⟨_,_,rfl,h1⟩:=bV hl;cases len0 h1;rfl
theorem yG (kV doc pm:Value) (an:Option Addr) (cdv ct:Value) (us:List Value) (hl:us.length=(["value"]:List Str).length):bindArgs (PySem.W.fnOf "is_whole" "is_whole" (aM cV) (aK cV) (aB cV) .none kV doc pm an cdv ct) ⟨us,[]⟩=pure ((["value"]:List Str).zip us):=by obtain ⟨_,_,rfl,h1⟩:=bV hl;cases len0 h1;rfl
theorem yH (kV doc pm:Value) (an:Option Addr) (cdv ct:Value) (us:List Value) (hl:us.length=(["value","count"]:List Str).length):bindArgs (PySem.W.fnOf "is_below" "is_below" (aM cW) (aK cW) (aB cW) .none kV doc pm an cdv ct) ⟨us,[]⟩=pure ((["value","count"]:List Str).zip us):=by obtain ⟨_,_,rfl,h1⟩:=bV hl;obtain ⟨_,_,rfl,h2⟩:=bV h1;cases len0 h2;rfl
theorem Ad (kV doc pm:Value) (an:Option Addr) (cdv ct:Value) (us:List Value) (hl:us.length=(["value"]:List Str).length):bindArgs (PySem.W.fnOf "is_note" "is_note" (aM dZ) (aK dZ) (aB dZ) .none kV doc pm an cdv ct) ⟨us,[]⟩=pure ((["value"]:List Str).zip us):=by obtain ⟨_,_,rfl,h1⟩:=bV hl;cases len0 h1;rfl
theorem sY (kV doc pm:Value) (an:Option Addr) (cdv ct:Value) (us:List Value) (hl:us.length=(["counts","note"]:List Str).length):bindArgs (PySem.W.fnOf "is_between" "is_between" (aM cA) (aK cA) (aB cA) .none kV doc pm an cdv ct) ⟨us,[]⟩=pure ((["counts","note"]:List Str).zip us):=by obtain ⟨_,_,rfl,h1⟩:=bV hl;obtain ⟨_,_,rfl,h2⟩:=bV h1;cases len0 h2;rfl
theorem rC (kV doc pm:Value) (an:Option Addr) (cdv ct:Value) (us:List Value) (hl:us.length=(["record"]:List Str).length):bindArgs (PySem.W.fnOf "check_notes" "check_notes" (aM bT) (aK bT) (aB bT) .none kV doc pm an cdv ct) ⟨us,[]⟩=pure ((["record"]:List Str).zip us):=by obtain ⟨_,_,rfl,h1⟩:=bV hl;cases len0 h1;rfl
theorem Rb (kV doc pm:Value) (an:Option Addr) (cdv ct:Value) (us:List Value) (hl:us.length=(["done","touch"]:List Str).length):bindArgs (PySem.W.fnOf "has" "has" (aM mV) (aK mV) (aB mV) .none kV doc pm an cdv ct) ⟨us,[]⟩=pure ((["done","touch"]:List Str).zip us):=by obtain ⟨_,_,rfl,h1⟩:=bV hl;obtain ⟨_,_,rfl,h2⟩:=bV h1;cases len0 h2;rfl
theorem vZ (kV doc pm:Value) (an:Option Addr) (cdv ct:Value) (us:List Value) (hl:us.length=(["record"]:List Str).length):bindArgs (PySem.W.fnOf "firsts_of" "firsts_of" (aM cM) (aK cM) (aB cM) .none kV doc pm an cdv ct) ⟨us,[]⟩=pure ((["record"]:List Str).zip us):=by obtain ⟨_,_,rfl,h1⟩:=bV hl;cases len0 h1;rfl
theorem Ae (kV doc pm:Value) (an:Option Addr) (cdv ct:Value) (us:List Value) (hl:us.length=(["counts","firsts","done","hand"]:List Str).length):bindArgs (PySem.W.fnOf "is_free" "is_free" (aM d7) (aK d7) (aB d7) .none kV doc pm an cdv ct) ⟨us,[]⟩=pure ((["counts","firsts","done","hand"]:List Str).zip us):=by obtain ⟨_,_,rfl,h1⟩:=bV hl;obtain ⟨_,_,rfl,h2⟩:=bV h1;obtain ⟨_,_,rfl,h3⟩:=bV h2;obtain ⟨_,_,rfl,h4⟩:=bV h3;cases len0 h4;rfl
theorem sZ (kV doc pm:Value) (an:Option Addr) (cdv ct:Value) (us:List Value) (hl:us.length=(["counts","firsts","done"]:List Str).length):bindArgs (PySem.W.fnOf "free_hands" "free_hands" (aM cB) (aK cB) (aB cB) .none kV doc pm an cdv ct) ⟨us,[]⟩=pure ((["counts","firsts","done"]:List Str).zip us):=by obtain ⟨_,_,rfl,h1⟩:=bV hl;obtain ⟨_,_,rfl,h2⟩:=bV h1;obtain ⟨_,_,rfl,h3⟩:=bV h2;cases len0 h3;rfl
theorem rB (kV doc pm:Value) (an:Option Addr) (cdv ct:Value) (us:List Value) (hl:us.length=(["record"]:List Str).length):bindArgs (PySem.W.fnOf "first_order" "first_order" (aM bR) (aK bR) (aB bR) .none kV doc pm an cdv ct) ⟨us,[]⟩=pure ((["record"]:List Str).zip us):=by obtain ⟨_,_,rfl,h1⟩:=bV hl;cases len0 h1;rfl
theorem oF (kV doc pm:Value) (an:Option Addr) (cdv ct:Value) (us:List Value) (hl:us.length=(["record","chains"]:List Str).length):bindArgs (PySem.W.fnOf "longer_chains" "longer_chains" (aM bJ) (aK bJ) (aB bJ) .none kV doc pm an cdv ct) ⟨us,[]⟩=pure ((["record","chains"]:List Str).zip us):=by obtain ⟨_,_,rfl,h1⟩:=bV hl;obtain ⟨_,_,rfl,h2⟩:=bV h1;cases len0 h2;rfl
theorem vY (kV doc pm:Value) (an:Option Addr) (cdv ct:Value) (us:List Value) (hl:us.length=(["record","start"]:List Str).length):bindArgs (PySem.W.fnOf "ring_from" "ring_from" (aM cL) (aK cL) (aB cL) .none kV doc pm an cdv ct) ⟨us,[]⟩=pure ((["record","start"]:List Str).zip us):=by obtain ⟨_,_,rfl,h1⟩:=bV hl;obtain ⟨_,_,rfl,h2⟩:=bV h1;cases len0 h2;rfl
theorem Mq (kV doc pm:Value) (an:Option Addr) (cdv ct:Value) (us:List Value) (hl:us.length=(["record"]:List Str).length):bindArgs (PySem.W.fnOf "ring" "ring" (aM jC) (aK jC) (aB jC) .none kV doc pm an cdv ct) ⟨us,[]⟩=pure ((["record"]:List Str).zip us):=by obtain ⟨_,_,rfl,h1⟩:=bV hl;cases len0 h1;rfl
theorem yF (kV doc pm:Value) (an:Option Addr) (cdv ct:Value) (us:List Value) (hl:us.length=(["note","following"]:List Str).length):bindArgs (PySem.W.fnOf "leads_to" "leads_to" (aM cU) (aK cU) (aB cU) .none kV doc pm an cdv ct) ⟨us,[]⟩=pure ((["note","following"]:List Str).zip us):=by obtain ⟨_,_,rfl,h1⟩:=bV hl;obtain ⟨_,_,rfl,h2⟩:=bV h1;cases len0 h2;rfl
theorem sX (kV doc pm:Value) (an:Option Addr) (cdv ct:Value) (us:List Value) (hl:us.length=(["record","some"]:List Str).length):bindArgs (PySem.W.fnOf "ring_shows" "ring_shows" (aM cu) (aK cu) (aB cu) .none kV doc pm an cdv ct) ⟨us,[]⟩=pure ((["record","some"]:List Str).zip us):=by obtain ⟨_,_,rfl,h1⟩:=bV hl;obtain ⟨_,_,rfl,h2⟩:=bV h1;cases len0 h2;rfl
theorem yI (kV doc pm:Value) (an:Option Addr) (cdv ct:Value) (us:List Value) (hl:us.length=(["bag","record","near"]:List Str).length):bindArgs (PySem.W.fnOf "_law_ring_in" "_law_ring_in" (aM cX) (aK cX) (aB cX) .none kV doc pm an cdv ct) ⟨us,[]⟩=pure ((["bag","record","near"]:List Str).zip us):=by obtain ⟨_,_,rfl,h1⟩:=bV hl;obtain ⟨_,_,rfl,h2⟩:=bV h1;obtain ⟨_,_,rfl,h3⟩:=bV h2;cases len0 h3;rfl
theorem FQ (kV doc pm:Value) (an:Option Addr) (cdv ct:Value) (us:List Value) (hl:us.length=(["tie","later"]:List Str).length):bindArgs (PySem.W.fnOf "_law_leads" "_law_leads" (aM fQ) (aK fQ) (aB fQ) .none kV doc pm an cdv ct) ⟨us,[]⟩=pure ((["tie","later"]:List Str).zip us):=by obtain ⟨_,_,rfl,h1⟩:=bV hl;obtain ⟨_,_,rfl,h2⟩:=bV h1;cases len0 h2;rfl
theorem FP (kV doc pm:Value) (an:Option Addr) (cdv ct:Value) (us:List Value) (hl:us.length=(["ties","first"]:List Str).length):bindArgs (PySem.W.fnOf "_law_least" "_law_least" (aM fP) (aK fP) (aB fP) .none kV doc pm an cdv ct) ⟨us,[]⟩=pure ((["ties","first"]:List Str).zip us):=by obtain ⟨_,_,rfl,h1⟩:=bV hl;obtain ⟨_,_,rfl,h2⟩:=bV h1;cases len0 h2;rfl
theorem Ag (kV doc pm:Value) (an:Option Addr) (cdv ct:Value) (us:List Value) (hl:us.length=(["ties"]:List Str).length):bindArgs (PySem.W.fnOf "_law_fewest" "_law_fewest" (aM d9) (aK d9) (aB d9) .none kV doc pm an cdv ct) ⟨us,[]⟩=pure ((["ties"]:List Str).zip us):=by obtain ⟨_,_,rfl,h1⟩:=bV hl;cases len0 h1;rfl
theorem rE (kV doc pm:Value) (an:Option Addr) (cdv ct:Value) (us:List Value) (hl:us.length=(["record","found"]:List Str).length):bindArgs (PySem.W.fnOf "_law_goes_round" "_law_goes_round" (aM bU) (aK bU) (aB bU) .none kV doc pm an cdv ct) ⟨us,[]⟩=pure ((["record","found"]:List Str).zip us):=by obtain ⟨_,_,rfl,h1⟩:=bV hl;obtain ⟨_,_,rfl,h2⟩:=bV h1;cases len0 h2;rfl
theorem FT (kV doc pm:Value) (an:Option Addr) (cdv ct:Value) (us:List Value) (hl:us.length=(["record","order"]:List Str).length):bindArgs (PySem.W.fnOf "_law_keeps" "_law_keeps" (aM fU) (aK fU) (aB fU) .none kV doc pm an cdv ct) ⟨us,[]⟩=pure ((["record","order"]:List Str).zip us):=by obtain ⟨_,_,rfl,h1⟩:=bV hl;obtain ⟨_,_,rfl,h2⟩:=bV h1;cases len0 h2;rfl
theorem all_mk {l:PySem.W.OpenLaw} {w:World} {K:PySem.W.Frag} {h:Heap} {mg:Str->Option Value} {fa f0 f1 f2 f3 f4 f5 f6 f7 f8 f9 W2 f11 W0 WY WX WW WT WR WQ WM WK WD Wz Wy Wx Ww Wv Wu Wt Ws f30:Addr} (X:K.In h) (G:h.Ns mainGlobals mg) (hfa:mg "law" = some (.ref fa))
 {od0 an0 od1 an1 od2 an2 od3 an3 od4 an4 od5 an5 od6 an6 od7 an7 od8 an8 od9 an9 Za acB Y_ acA Y9 acz Y8 acy Y7 acw Y6 acv Y5 acu Y4 acs Y0 acr YZ acq YX acp YW aco YT acn YS acj YQ aci YM ach YL acg YK acf YJ ace YH acd YG Vi:Option Addr} {sl0 sl1 sl2 sl3 sl4 sl5 sl6 sl7 sl8 sl9 X4 X3 XS XR XQ XM XJ XH XF XD XC Xz Xy Xx Xw Xv Xu Xr Xq Xp Xo:Array (Option Value)} {oc0 kV0 dc0 pm0 cd0 ct0 oc1 kV1 dc1 pm1 cd1 ct1 oc2 kV2 dc2 VN cd2 ct2 oc3 kV3 dc3 pm3 cd3 ct3 oc4 kV4 dc4 pm4 cd4 ct4 oc5 kV5 dc5 pm5 cd5 ct5 oc6 kV6 dc6 pm6 cd6 ct6 oc7 kV7 dc7 pm7 cd7 ct7 oc8 kV8 dc8 pm8 cd8 ct8 oc9 kV9 dc9 pm9 cd9 ct9 Zy aaF abv YB Vc abR Zx aaE abu Yz Vb abQ Zw aaD abt Yy Va abP Zv aaC abr Yx U_ abO Zu aaB abq Yw U9 abN Zt aaA abp Yv U8 abM Zr aaz abo Yu U7 abL Zq aay abn Yt U6 abK Zo aax abm Ys U5 abJ Zn aaw abl Yr U4 abI Zm aav abk Yq U3 abH Zk aau abj Yp U0 abG Zj aat abh Yo UW abF Zi aas abg Yn UL abE Zh aar abf Ym UJ abD Zg aaq abe Yl UG abC Zf aap abd Yk Uz abB Ze aao abb Yj Uy abA Zd aan aa' Yi Ux abz Zc aam aa_ Yh Uw aby Zb TQ Us S8 Q7 Uv:Value}
 (a0:PySem.W.nsIn K mainGlobals "_law_bag" = some (some (.ref f0))) (l0:K.lookup f0=some ⟨oc0,od0,.func (PySem.W.fnOf "_law_bag" "_law_bag" (aM jD) (aK jD) (aB jD) .none kV0 dc0 pm0 an0 cd0 ct0),sl0⟩) (c0:PySem.W.codeIn K cd0 "_law_bag" = true) (k0:PySem.W.keepIn K (.ref f0)=true)
 (a1:PySem.W.nsIn K mainGlobals "_law_stir" = some (some (.ref f1))) (l1:K.lookup f1=some ⟨oc1,od1,.func (PySem.W.fnOf "_law_stir" "_law_stir" (aM gZ) (aK gZ) (aB gZ) .none kV1 dc1 pm1 an1 cd1 ct1),sl1⟩) (c1:PySem.W.codeIn K cd1 "_law_stir" = true) (k1:PySem.W.keepIn K (.ref f1)=true)
 (a2:PySem.W.nsIn K mainGlobals "_law_draw" = some (some (.ref f2))) (l2:K.lookup f2=some ⟨oc2,od2,.func (PySem.W.fnOf "_law_draw" "_law_draw" (aM g_) (aK g_) (aB g_) .none kV2 dc2 VN an2 cd2 ct2),sl2⟩) (c2:PySem.W.codeIn K cd2 "_law_draw" = true) (k2:PySem.W.keepIn K (.ref f2)=true)
 (a3:PySem.W.nsIn K mainGlobals "_law_counts" = some (some (.ref f3))) (l3:K.lookup f3=some ⟨oc3,od3,.func (PySem.W.fnOf "_law_counts" "_law_counts" (aM d_) (aK d_) (aB d_) .none kV3 dc3 pm3 an3 cd3 ct3),sl3⟩) (c3:PySem.W.codeIn K cd3 "_law_counts" = true) (k3:PySem.W.keepIn K (.ref f3)=true)
 (a4:PySem.W.nsIn K mainGlobals "_law_order" = some (some (.ref f4))) (l4:K.lookup f4=some ⟨oc4,od4,.func (PySem.W.fnOf "_law_order" "_law_order" (aM fO) (aK fO) (aB fO) .none kV4 dc4 pm4 an4 cd4 ct4),sl4⟩) (c4:PySem.W.codeIn K cd4 "_law_order" = true) (k4:PySem.W.keepIn K (.ref f4)=true)
 (a5:PySem.W.nsIn K mainGlobals "_law_spots" = some (some (.ref f5))) (l5:K.lookup f5=some ⟨oc5,od5,.func (PySem.W.fnOf "_law_spots" "_law_spots" (aM fM) (aK fM) (aB fM) .none kV5 dc5 pm5 an5 cd5 ct5),sl5⟩) (c5:PySem.W.codeIn K cd5 "_law_spots" = true) (k5:PySem.W.keepIn K (.ref f5)=true)
 (a6:PySem.W.nsIn K mainGlobals "_law_note" = some (some (.ref f6))) (l6:K.lookup f6=some ⟨oc6,od6,.func (PySem.W.fnOf "_law_note" "_law_note" (aM g8) (aK g8) (aB g8) .none kV6 dc6 pm6 an6 cd6 ct6),sl6⟩) (c6:PySem.W.codeIn K cd6 "_law_note" = true) (k6:PySem.W.keepIn K (.ref f6)=true)
 (a7:PySem.W.nsIn K mainGlobals "_law_record" = some (some (.ref f7))) (l7:K.lookup f7=some ⟨oc7,od7,.func (PySem.W.fnOf "_law_record" "_law_record" (aM d8) (aK d8) (aB d8) .none kV7 dc7 pm7 an7 cd7 ct7),sl7⟩) (c7:PySem.W.codeIn K cd7 "_law_record" = true) (k7:PySem.W.keepIn K (.ref f7)=true)
 (a8:PySem.W.nsIn K mainGlobals "_law_copy" = some (some (.ref f8))) (l8:K.lookup f8=some ⟨oc8,od8,.func (PySem.W.fnOf "_law_copy" "_law_copy" (aM h_) (aK h_) (aB h_) .none kV8 dc8 pm8 an8 cd8 ct8),sl8⟩) (c8:PySem.W.codeIn K cd8 "_law_copy" = true) (k8:PySem.W.keepIn K (.ref f8)=true)
 (a9:PySem.W.nsIn K mainGlobals "is_whole" = some (some (.ref f9))) (l9:K.lookup f9=some ⟨oc9,od9,.func (PySem.W.fnOf "is_whole" "is_whole" (aM cV) (aK cV) (aB cV) .none kV9 dc9 pm9 an9 cd9 ct9),sl9⟩) (c9:PySem.W.codeIn K cd9 "is_whole" = true) (k9:PySem.W.keepIn K (.ref f9)=true)
 (a10:PySem.W.nsIn K mainGlobals "is_below" = some (some (.ref W2))) (l10:K.lookup W2=some ⟨Zy,Za,.func (PySem.W.fnOf "is_below" "is_below" (aM cW) (aK cW) (aB cW) .none aaF abv YB acB Vc abR),X4⟩) (c10:PySem.W.codeIn K Vc "is_below" = true) (k10:PySem.W.keepIn K (.ref W2)=true)
 (a11:PySem.W.nsIn K mainGlobals "is_note" = some (some (.ref f11))) (l11:K.lookup f11=some ⟨Zx,Y_,.func (PySem.W.fnOf "is_note" "is_note" (aM dZ) (aK dZ) (aB dZ) .none aaE abu Yz acA Vb abQ),X3⟩) (c11:PySem.W.codeIn K Vb "is_note" = true) (k11:PySem.W.keepIn K (.ref f11)=true)
 (a12:PySem.W.nsIn K mainGlobals "is_between" = some (some (.ref W0))) (l12:K.lookup W0=some ⟨Zw,Y9,.func (PySem.W.fnOf "is_between" "is_between" (aM cA) (aK cA) (aB cA) .none aaD abt Yy acz Va abP),XS⟩) (c12:PySem.W.codeIn K Va "is_between" = true) (k12:PySem.W.keepIn K (.ref W0)=true)
 (a13:PySem.W.nsIn K mainGlobals "check_notes" = some (some (.ref WY))) (l13:K.lookup WY=some ⟨Zv,Y8,.func (PySem.W.fnOf "check_notes" "check_notes" (aM bT) (aK bT) (aB bT) .none aaC abr Yx acy U_ abO),XR⟩) (c13:PySem.W.codeIn K U_ "check_notes" = true) (k13:PySem.W.keepIn K (.ref WY)=true)
 (a14:PySem.W.nsIn K mainGlobals "has" = some (some (.ref WX))) (l14:K.lookup WX=some ⟨Zu,Y7,.func (PySem.W.fnOf "has" "has" (aM mV) (aK mV) (aB mV) .none aaB abq Yw acw U9 abN),XQ⟩) (c14:PySem.W.codeIn K U9 "has" = true) (k14:PySem.W.keepIn K (.ref WX)=true)
 (a15:PySem.W.nsIn K mainGlobals "firsts_of" = some (some (.ref WW))) (l15:K.lookup WW=some ⟨Zt,Y6,.func (PySem.W.fnOf "firsts_of" "firsts_of" (aM cM) (aK cM) (aB cM) .none aaA abp Yv acv U8 abM),XM⟩) (c15:PySem.W.codeIn K U8 "firsts_of" = true) (Lx:PySem.W.keepIn K (.ref WW)=true)
 (a16:PySem.W.nsIn K mainGlobals "is_free" = some (some (.ref WT))) (Z_:K.lookup WT=some ⟨Zr,Y5,.func (PySem.W.fnOf "is_free" "is_free" (aM d7) (aK d7) (aB d7) .none aaz abo Yu acu U7 abL),XJ⟩) (c16:PySem.W.codeIn K U7 "is_free" = true) (Lw:PySem.W.keepIn K (.ref WT)=true)
 (a17:PySem.W.nsIn K mainGlobals "free_hands" = some (some (.ref WR))) (Z9:K.lookup WR=some ⟨Zq,Y4,.func (PySem.W.fnOf "free_hands" "free_hands" (aM cB) (aK cB) (aB cB) .none aay abn Yt acs U6 abK),XH⟩) (c17:PySem.W.codeIn K U6 "free_hands" = true) (Wj:PySem.W.keepIn K (.ref WR)=true)
 (a18:PySem.W.nsIn K mainGlobals "first_order" = some (some (.ref WQ))) (Z8:K.lookup WQ=some ⟨Zo,Y0,.func (PySem.W.fnOf "first_order" "first_order" (aM bR) (aK bR) (aB bR) .none aax abm Ys acr U5 abJ),XF⟩) (c18:PySem.W.codeIn K U5 "first_order" = true) (Wi:PySem.W.keepIn K (.ref WQ)=true)
 (a19:PySem.W.nsIn K mainGlobals "longer_chains" = some (some (.ref WM))) (Z7:K.lookup WM=some ⟨Zn,YZ,.func (PySem.W.fnOf "longer_chains" "longer_chains" (aM bJ) (aK bJ) (aB bJ) .none aaw abl Yr acq U4 abI),XD⟩) (c19:PySem.W.codeIn K U4 "longer_chains" = true) (Wh:PySem.W.keepIn K (.ref WM)=true)
 (a20:PySem.W.nsIn K mainGlobals "ring_from" = some (some (.ref WK))) (Z6:K.lookup WK=some ⟨Zm,YX,.func (PySem.W.fnOf "ring_from" "ring_from" (aM cL) (aK cL) (aB cL) .none aav abk Yq acp U3 abH),XC⟩) (c20:PySem.W.codeIn K U3 "ring_from" = true) (Wg:PySem.W.keepIn K (.ref WK)=true)
 (a21:PySem.W.nsIn K mainGlobals "ring" = some (some (.ref WD))) (Z5:K.lookup WD=some ⟨Zk,YW,.func (PySem.W.fnOf "ring" "ring" (aM jC) (aK jC) (aB jC) .none aau abj Yp aco U0 abG),Xz⟩) (c21:PySem.W.codeIn K U0 "ring" = true) (Wf:PySem.W.keepIn K (.ref WD)=true)
 (a22:PySem.W.nsIn K mainGlobals "leads_to" = some (some (.ref Wz))) (Z4:K.lookup Wz=some ⟨Zj,YT,.func (PySem.W.fnOf "leads_to" "leads_to" (aM cU) (aK cU) (aB cU) .none aat abh Yo acn UW abF),Xy⟩) (c22:PySem.W.codeIn K UW "leads_to" = true) (Wd:PySem.W.keepIn K (.ref Wz)=true)
 (a23:PySem.W.nsIn K mainGlobals "ring_shows" = some (some (.ref Wy))) (Z2:K.lookup Wy=some ⟨Zi,YS,.func (PySem.W.fnOf "ring_shows" "ring_shows" (aM cu) (aK cu) (aB cu) .none aas abg Yn acj UL abE),Xx⟩) (c23:PySem.W.codeIn K UL "ring_shows" = true) (Wc:PySem.W.keepIn K (.ref Wy)=true)
 (a24:PySem.W.nsIn K mainGlobals "_law_ring_in" = some (some (.ref Wx))) (Z1:K.lookup Wx=some ⟨Zh,YQ,.func (PySem.W.fnOf "_law_ring_in" "_law_ring_in" (aM cX) (aK cX) (aB cX) .none aar abf Ym aci UJ abD),Xw⟩) (c24:PySem.W.codeIn K UJ "_law_ring_in" = true) (Wb:PySem.W.keepIn K (.ref Wx)=true)
 (a25:PySem.W.nsIn K mainGlobals "_law_leads" = some (some (.ref Ww))) (Z0:K.lookup Ww=some ⟨Zg,YM,.func (PySem.W.fnOf "_law_leads" "_law_leads" (aM fQ) (aK fQ) (aB fQ) .none aaq abe Yl ach UG abC),Xv⟩) (c25:PySem.W.codeIn K UG "_law_leads" = true) (Wa:PySem.W.keepIn K (.ref Ww)=true)
 (a26:PySem.W.nsIn K mainGlobals "_law_least" = some (some (.ref Wv))) (ZX:K.lookup Wv=some ⟨Zf,YL,.func (PySem.W.fnOf "_law_least" "_law_least" (aM fP) (aK fP) (aB fP) .none aap abd Yk acg Uz abB),Xu⟩) (c26:PySem.W.codeIn K Uz "_law_least" = true) (V_:PySem.W.keepIn K (.ref Wv)=true)
 (a27:PySem.W.nsIn K mainGlobals "_law_fewest" = some (some (.ref Wu))) (ZW:K.lookup Wu=some ⟨Ze,YK,.func (PySem.W.fnOf "_law_fewest" "_law_fewest" (aM d9) (aK d9) (aB d9) .none aao abb Yj acf Uy abA),Xr⟩) (c27:PySem.W.codeIn K Uy "_law_fewest" = true) (V9:PySem.W.keepIn K (.ref Wu)=true)
 (a28:PySem.W.nsIn K mainGlobals "_law_goes_round" = some (some (.ref Wt))) (ZV:K.lookup Wt=some ⟨Zd,YJ,.func (PySem.W.fnOf "_law_goes_round" "_law_goes_round" (aM bU) (aK bU) (aB bU) .none aan aa' Yi ace Ux abz),Xq⟩) (c28:PySem.W.codeIn K Ux "_law_goes_round" = true) (V8:PySem.W.keepIn K (.ref Wt)=true)
 (a29:PySem.W.nsIn K mainGlobals "_law_keeps" = some (some (.ref Ws))) (ZS:K.lookup Ws=some ⟨Zc,YH,.func (PySem.W.fnOf "_law_keeps" "_law_keeps" (aM fU) (aK fU) (aB fU) .none aam aa_ Yh acd Uw aby),Xp⟩) (c29:PySem.W.codeIn K Uw "_law_keeps" = true) (V7:PySem.W.keepIn K (.ref Ws)=true)
 (a30:PySem.W.nsIn K mainGlobals "law" = some (some (.ref f30))) (ZR:K.lookup f30=some ⟨Zb,YG,.func (PySem.W.fnOf "law" "law" (aM mU) (aK mU) (aB mU) .none TQ Us S8 Vi Q7 Uv),Xo⟩) (c30:PySem.W.codeIn K Q7 "law" = true) (k30:PySem.W.keepIn K (.ref f30)=true)
 (Gq:PySem.W.nsIn K mainGlobals "all" = some none) (yV:PySem.W.nsIn K mainGlobals "bool" = some none) (yU:PySem.W.nsIn K mainGlobals "dict" = some none) (Gp:PySem.W.nsIn K mainGlobals "int" = some none) (jr:PySem.W.nsIn K mainGlobals "isinstance" = some none) (Gn:PySem.W.nsIn K mainGlobals "len" = some none) (yS:PySem.W.nsIn K mainGlobals "list" = some none) (Gm:PySem.W.nsIn K mainGlobals "max" = some none) (Gk:PySem.W.nsIn K mainGlobals "min" = some none) (uN:PySem.W.nsIn K mainGlobals "range" = some none) (Gj:PySem.W.nsIn K mainGlobals "set" = some none) (pK:PySem.W.nsIn K mainGlobals "sorted" = some none) (Gi:PySem.W.nsIn K mainGlobals "sum" = some none) (uM:PySem.W.nsIn K mainGlobals "tuple" = some none) (Gh:PySem.W.nsIn K mainGlobals "zip" = some none):
 ∃fd:FuncData,(∀(s:Shared) (v:Value),BindsTo s fd ⟨[v],[]⟩ [("script",v)]) /\ ∀base:Heap,K.In base->base.Ns mainGlobals mg->cT l.prog w K mg base jV 6 fa fd ["script"] (Bh K):=by
 have e:=hfa.symm.trans (PySem.W.mg_of X G a30);cases e;have Bt:o7 mg:=⟨PySem.W.mg_none_of X G Gq,PySem.W.mg_none_of X G yV,PySem.W.mg_none_of X G yU,PySem.W.mg_none_of X G Gp,PySem.W.mg_none_of X G jr,PySem.W.mg_none_of X G Gn,PySem.W.mg_none_of X G yS,PySem.W.mg_none_of X G Gm,PySem.W.mg_none_of X G Gk,PySem.W.mg_none_of X G uN,PySem.W.mg_none_of X G Gj,PySem.W.mg_none_of X G pK,PySem.W.mg_none_of X G Gi,PySem.W.mg_none_of X G uM,PySem.W.mg_none_of X G Gh⟩;have F0:=bK (st:=jD) l0 c0 k0;have F1:=bK (st:=gZ) l1 c1 k1;have F2:=bK (st:=g_) l2 c2 k2;have F3:=bK (st:=d_) l3 c3 k3;have F4:=bK (st:=fO) l4 c4 k4;have F5:=bK (st:=fM) l5 c5 k5;have F6:=bK (st:=g8) l6 c6 k6;have F7:=bK (st:=d8) l7 c7 k7;have F8:=bK (st:=h_) l8 c8 k8;have F9:=bK (st:=cV) l9 c9 k9;have F10:=bK (st:=cW) l10 c10 k10;have F11:=bK (st:=dZ) l11 c11 k11;have F12:=bK (st:=cA) l12 c12 k12;have F13:=bK (st:=bT) l13 c13 k13;have F14:=bK (st:=mV) l14 c14 k14;have F15:=bK (st:=cM) l15 c15 Lx;have F16:=bK (st:=d7) Z_ c16 Lw;have F17:=bK (st:=cB) Z9 c17 Wj;have F18:=bK (st:=bR) Z8 c18 Wi;have F19:=bK (st:=bJ) Z7 c19 Wh;have F20:=bK (st:=cL) Z6 c20 Wg;have F21:=bK (st:=jC) Z5 c21 Wf;have F22:=bK (st:=cU) Z4 c22 Wd;have F23:=bK (st:=cu) Z2 c23 Wc;have F24:=bK (st:=cX) Z1 c24 Wb;have F25:=bK (st:=fQ) Z0 c25 Wa;have F26:=bK (st:=fP) ZX c26 V_;have F27:=bK (st:=d9) ZW c27 V9;have F28:=bK (st:=bU) ZV c28 V8;have F29:=bK (st:=fU) ZS c29 V7;have F30:=bK (st:=mU) ZR c30 k30;refine ⟨PySem.W.fnOf "law" "law" (aM mU) (aK mU) (aB mU) .none TQ Us S8 Vi Q7 Uv,fun s v=> .of_eq rfl,fun base _ _=> ?_⟩;have A0:FnAt l.prog w K mg base 1 "_law_bag" ["script"] (GK K):=⟨f0,_,P0 F0 Bt,PySem.W.mg_of X G a0,k0,F0.binds (ps:=["script"]) Mr⟩;have A1:FnAt l.prog w K mg base 1 "_law_stir" ["number","place"] (zB K):=⟨f1,_,K_ F1,PySem.W.mg_of X G a1,k1,F1.binds (ps:=["number","place"]) JB⟩;have A2:FnAt l.prog w K mg base 2 "_law_draw" ["bag","many"] (j4 K):=⟨f2,_,Ld F2 A1 Bt,PySem.W.mg_of X G a2,k2,F2.binds (ps:=["bag","many"]) JD⟩;have A3:FnAt l.prog w K mg base 3 "_law_counts" ["bag","great"] (pR K):=⟨f3,_,Ea F3 A2 Bt,PySem.W.mg_of X G a3,k3,F3.binds (ps:=["bag","great"]) Ah⟩;have A4:FnAt l.prog w K mg base 3 "_law_order" ["bag","counts"] (uU K):=⟨f4,_,HS F4 A2 Bt,PySem.W.mg_of X G a4,k4,F4.binds (ps:=["bag","counts"]) FN⟩;have A5:FnAt l.prog w K mg base 1 "_law_spots" ["order"] (o8 K):=⟨f5,_,HJ F5 Bt,PySem.W.mg_of X G a5,k5,F5.binds (ps:=["order"]) FJ⟩;have A6:FnAt l.prog w K mg base 3 "_law_note" ["bag","counts"] (zF K):=⟨f6,_,Lb F6 A2 Bt,PySem.W.mg_of X G a6,k6,F6.binds (ps:=["bag","counts"]) JC⟩;have A7:FnAt l.prog w K mg base 4 "_law_record" ["bag","great"] (nJ K):=⟨f7,_,zV F7 A2 A3 A4 A5 A6 Bt,PySem.W.mg_of X G a7,k7,F7.binds (ps:=["bag","great"]) Af⟩;have A8:FnAt l.prog w K mg base 1 "_law_copy" ["record"] (zH K):=⟨f8,_,Lf F8 Bt,PySem.W.mg_of X G a8,k8,F8.binds (ps:=["record"]) JF⟩;have A9:FnAt l.prog w K mg base 1 "is_whole" ["value"] (Kl K):=⟨f9,_,xq F9 Bt,PySem.W.mg_of X G a9,k9,F9.binds (ps:=["value"]) yG⟩;have A10:FnAt l.prog w K mg base 2 "is_below" ["value","count"] (uY K):=⟨W2,_,xr F10 A9,PySem.W.mg_of X G a10,k10,F10.binds (ps:=["value","count"]) yH⟩;have A11:FnAt l.prog w K mg base 2 "is_note" ["value"] (mQ K):=⟨f11,_,zW F11 A9 Bt,PySem.W.mg_of X G a11,k11,F11.binds (ps:=["value"]) Ad⟩;have A12:FnAt l.prog w K mg base 3 "is_between" ["counts","note"] (nM K):=⟨W0,_,sO F12 A10 A11 Bt,PySem.W.mg_of X G a12,k12,F12.binds (ps:=["counts","note"]) sY⟩;have A13:FnAt l.prog w K mg base 4 "check_notes" ["record"] (j5 K):=⟨WY,_,qz F13 A12 Bt,PySem.W.mg_of X G a13,k13,F13.binds (ps:=["record"]) rC⟩;have A14:FnAt l.prog w K mg base 1 "has" ["done","touch"] (GF K):=⟨WX,_,PN F14,PySem.W.mg_of X G a14,k14,F14.binds (ps:=["done","touch"]) Rb⟩;have A15:FnAt l.prog w K mg base 1 "firsts_of" ["record"] (pQ K):=⟨WW,_,D_ F15,PySem.W.mg_of X G a15,Lx,F15.binds (ps:=["record"]) vZ⟩;have A16:FnAt l.prog w K mg base 2 "is_free" ["counts","firsts","done","hand"] (zG K):=⟨WT,_,zX F16 A14 Bt,PySem.W.mg_of X G a16,Lw,F16.binds (ps:=["counts","firsts","done","hand"]) Ae⟩;have A17:FnAt l.prog w K mg base 3 "free_hands" ["counts","firsts","done"] (uW K):=⟨WR,_,sS F17 A16 Bt,PySem.W.mg_of X G a17,Wj,F17.binds (ps:=["counts","firsts","done"]) sZ⟩;have A18:FnAt l.prog w K mg base 5 "first_order" ["record"] (uX K):=⟨WQ,_,qy F18 A13 A15 A17 Bt,PySem.W.mg_of X G a18,Wi,F18.binds (ps:=["record"]) rB⟩;have A19:FnAt l.prog w K mg base 1 "longer_chains" ["record","chains"] (pP K):=⟨WM,_,DY F19,PySem.W.mg_of X G a19,Wh,F19.binds (ps:=["record","chains"]) oF⟩;have A20:FnAt l.prog w K mg base 2 "ring_from" ["record","start"] (lW K):=⟨WK,_,xg F20 A19 Bt,PySem.W.mg_of X G a20,Wg,F20.binds (ps:=["record","start"]) vY⟩;have A21:FnAt l.prog w K mg base 5 "ring" ["record"] (uT K):=⟨WD,_,HN F21 A13 A20 Bt,PySem.W.mg_of X G a21,Wf,F21.binds (ps:=["record"]) Mq⟩;have A22:FnAt l.prog w K mg base 1 "leads_to" ["note","following"] (uV K):=⟨Wz,_,HW F22,PySem.W.mg_of X G a22,Wd,F22.binds (ps:=["note","following"]) yF⟩;have A23:FnAt l.prog w K mg base 5 "ring_shows" ["record","some"] (zE K):=⟨Wy,_,La F23 A13 A11 A22 Bt,PySem.W.mg_of X G a23,Wc,F23.binds (ps:=["record","some"]) sX⟩;have A24:FnAt l.prog w K mg base 3 "_law_ring_in" ["bag","record","near"] (pO K):=⟨Wx,_,DX F24 A2 Bt,PySem.W.mg_of X G a24,Wb,F24.binds (ps:=["bag","record","near"]) yI⟩;have A25:FnAt l.prog w K mg base 1 "_law_leads" ["tie","later"] (Bg K):=⟨Ww,_,PJ F25,PySem.W.mg_of X G a25,Wa,F25.binds (ps:=["tie","later"]) FQ⟩;have A26:FnAt l.prog w K mg base 2 "_law_least" ["ties","first"] (GD K):=⟨Wv,_,PB F26 A25 Bt,PySem.W.mg_of X G a26,V_,F26.binds (ps:=["ties","first"]) FP⟩;have A27:FnAt l.prog w K mg base 3 "_law_fewest" ["ties"] (GJ K):=⟨Wu,_,PX F27 A26 Bt,PySem.W.mg_of X G a27,V9,F27.binds (ps:=["ties"]) Ag⟩;have A28:FnAt l.prog w K mg base 2 "_law_goes_round" ["record","found"] (Ou K):=⟨Wt,_,Tg F28 A25 Bt,PySem.W.mg_of X G a28,V8,F28.binds (ps:=["record","found"]) rE⟩;have A29:FnAt l.prog w K mg base 2 "_law_keeps" ["record","order"] (Ot K):=⟨Ws,_,Tf F29 A5 Bt,PySem.W.mg_of X G a29,V7,F29.binds (ps:=["record","order"]) FT⟩;exact PK F30 A0 A2 A7 A24 A8 A18 A21 A23 A29 A27 A28 Bt
theorem walk {l:PySem.W.OpenLaw} {q:Program} {loose:List Str} {XP:(Str->Option Value)->Heap->Prop} {YP:World->Heap->Prop} {d:DefRec} {K:Params->PySem.W.Frag} (hn:l.most=some 63) (hdf:d.params.defaults=[])
 (hY:∀(w:World) (h:Heap),YP w h->(K w.params).In h)
 (F:∀(w:World) (mg:Str->Option Value) (fa:Addr) (h:Heap),(K w.params).In h->h.Ns mainGlobals mg->mg d.name=some (.ref fa) ->
   ∃fd:FuncData,(∀(s:Shared) (u:Value),BindsTo s fd ⟨[u],[]⟩ [("script",u)]) /\ ∀base:Heap,(K w.params).In base->base.Ns mainGlobals mg->cT l.prog w (K w.params) mg base jV 6 fa fd ["script"] (Bh (K w.params))):
 PySem.W.WalkO q loose XP YP l.row.toRowW d [] (fun f vs=>PySem.call f vs):=
 L2.J7 (n:=63) (k:=6) (x:= "script") (CX:=fun _=>jV) (sp:=fun w=>Bh (K w.params)) hn (by decide) hdf ⟨rfl,by decide,by decide⟩ hY F (fun _ _ a ns hl _ hS=>⟨a,ns,rfl,hS,hl,fun _=>rfl⟩) fun _ _ _ _ _ z=>z
end Prf
namespace PySem.W.Fast
def tw9744815838614829148:=()
def tw4314989250616192114:=()
def tw16049093524592346611:=()
def tw11267181725867714923:=()
def tw3779321386025271622:=()
def tw18083311019813311262:=()
def tw2901831638082748933:=()
def tw16786482817645775067:=()
def tw14214818193521159273:=()
def tw13624041904445034784:=()
def tw12849006751631009223:=()
def tw7483606070907244021:=()
def tw17412651552098190302:=()
def tw17558156341130029701:=()
def tw9928586320744557223:=()
def tw4958009804774040491:=()
def tw4589848658411624146:=()
def tw7259130763468860446:=()
def tw15733465172053344884:=()
def tw17960939245472609067:=()
def tw14399111110881827667:=()
def tw13410157492444739612:=()
def tw4579297220192451229:=()
def tw1798731560011758839:=()
def tw18119966604474879818:=()
def tw18308698706054821966:=()
def tw7848019176085902414:=()
def tw11808242414664485009:=()
def tw7390798451001784346:=()
def tw3816240514692623919:=()
def tw16393959576328109727:=()
def tw11363030969179188965:=()
def tw234449704960829234:=()
def tw17246243376121484944:=()
def tw12861581185189033362:=()
def tw8908826134766277616:=()
def tw4871557541746050843:=()
def tw1792504815502296469:=()
def tw11376187873295903886:=()
def tw8391162525078792290:=()
def tw11576551852941881149:=()
def tw16553235586651258148:=()
def tw4627055555661879177:=()
def tw5551885920632922841:=()
def tw12636374289972366271:=()
def tw11063548651514652721:=()
def tw10416669271510377578:=()
def tw11657245028776883831:=()
def tw1251340859616741127:=()
def tw7912411280724254856:=()
def tw14833109275540452863:=()
def tw8092386808070598001:=()
def tw15883480164563240346:=()
def tw3765790044137863178:=()
def tw10506085402046666617:=()
def tw15431004397018433457:=()
def tw5760458528541699640:=()
def tw18139282411446984259:=()
def tw9925594814350891001:=()
def tw625539665402770132:=()
def tw14257687259407060867:=()
def tw11865981891762622928:=()
def tw8650568315936264670:=()
def tw7725501497135391749:=()
def tw8178664163565403487:=()
def tw15472793914260886744:=()
def tw8791999988931352039:=()
def tw17693532663905147598:=()
def tw9834111875136893808:=()
def tw1721627196525063467:=()
def tw7688680392356873232:=()
def tw749364301026858635:=()
def tw1779010196901922640:=()
def tw5210350890068443777:=()
def tw3619346692244114544:=()
def tw18184052476349288112:=()
def tw3811552463526870400:=()
def tw3472227587899669461:=()
def tw3847032737342415446:=()
def tw6021050728318208422:=()
def tw2904024422424866926:=()
def tw938659533061820235:=()
def tw6681788845333178148:=()
def tw3802993779628091402:=()
def tw5461572035945427469:=()
def tw9651446020703641909:=()
def tw13748220034021087265:=()
def tw17261222758461266767:=()
def tw8354175073192431336:=()
def tw120034760002419562:=()
def tw12757084782114515034:=()
def tw14119295100418693188:=()
def tw85081205885992043:=()
def tw5278352790967482765:=()
def tw15001682624358649923:=()
def tw7603377233230092012:=()
def tw9319079321082168692:=()
def tw6387670579548633915:=()
def tw14154118798578273637:=()
def tw5681452012733716794:=()
def tw6072597294125600505:=()
def tw13706058806142826418:=()
def tw12785154232109010927:=()
def tw4866688852326311128:=()
def tw15472796503788053848:=()
def tw16533589679308654203:=()
def tw4598809961991388312:=()
def tw18330482316201975902:=()
def tw6958773407471412461:=()
def tw3424933361074396572:=()
def tw54763255447571720:=()
def tw13388935084462118866:=()
def tw6032846847359870531:=()
def tw8773669656254695947:=()
def tw7076448276129511183:=()
def tw17416850246683162911:=()
def tw9725752202542267752:=()
def tw18016131753138813425:=()
def tw10520778842361292048:=()
def tw5911175676598042049:=()
def tw2414831264506831641:=()
def tw4284373998750328941:=()
def tw16282373550241324949:=()
def tw3915616788109731030:=()
def tw6047008461343651634:=()
def tw9828738552296058596:=()
def tw290216133038474207:=()
def tw228730927308493584:=()
def tw15324356746233550308:=()
def tw17333462001734234589:=()
def tw7936650332502799284:=()
def tw15255291927051017592:=()
def tw2982144645334618690:=()
def tw17662137134109177869:=()
def tw9303175778246443969:=()
def tw14097864805345624376:=()
def tw4860366324639153091:=()
def tw17567269501187547573:=()
def tw11872501274264776645:=()
def tw10529373607772849346:=()
def tw351646237936550696:=()
def tw3068993899696233969:=()
def tw5868358665867352469:=()
def tw6118538879065871949:=()
def tw9619813337312512803:=()
def tw4080103505593304034:=()
def tw9892361167454806622:=()
def tw6134783929219879011:=()
def tw9885093139229246049:=()
def tw16810074971026646039:=()
def tw10130309774260672993:=()
def tw3642665981424551203:=()
def tw4614912429670851556:=()
def tw7900338650459733817:=()
def tw7906447320373050641:=()
def tw17845552751436057246:=()
def tw10333497522728700309:=()
def tw166901300232168551:=()
def tw9089048341402449527:=()
def tw14411332354175170739:=()
def tw8816677322680776035:=()
def tw12066276962572042648:=()
def tw3838800609038457489:=()
def tw17838169187712174169:=()
def tw3023105600933050628:=()
def tw13101764233220332140:=()
def tw8464945116656067397:=()
def tw12533383053983852470:=()
def tw16921327111520076754:=()
def tw1101156654079934601:=()
def tw126270831403927063:=()
def tw4667140074663012750:=()
def tw6627615914570745427:=()
def tw7789954787419699905:=()
def tw9318264178880811922:=()
def tw7359543275302069804:=()
def tw11297536405364402123:=()
def tw1624680633711639747:=()
def tw617916925797608888:=()
def tw6641920567550523165:=()
def tw12823877051554734083:=()
def tw6354857174079321209:=()
def tw13955531026272422334:=()
def tw17118847471050876067:=()
def tw16757404182833163306:=()
def tw12036051662282742079:=()
def tw2465456233305470624:=()
def tw7749791141899749828:=()
def tw2155872458141259789:=()
def tw9025915431579231463:=()
def tw10961339400054359086:=()
def tw13469204873796421359:=()
def tw4383297309702626262:=()
def tw4170915864626628646:=()
def tw10342288667706673990:=()
def tw8843592154082362890:=()
def tw14330777821235297646:=()
def tw929813647039117696:=()
def tw6338014159837081822:=()
def tw275368911823271614:=()
def tw9953502594002543254:=()
def tw8044663504911984624:=()
def tw11985941915525051269:=()
def tw4403572366089613512:=()
def tw7284574780567824067:=()
end PySem.W.Fast
open PySem PySem.W PyProof.Rows
set_option maxRecDepth 100000 in
set_option maxHeartbeats 0 in
theorem PySem.Challenge.cw_fewnotes_k40_whole_order_or_ring_holds : PySem.Challenge.rw_fewnotes_k40_whole_order_or_ring.Holds := by
 w_on;o_law;k_head;(case hw=>w_witness2)
 k_fill
 refine Prf.walk (l:=PySem.Challenge.rw_fewnotes_k40_whole_order_or_ring) rfl rfl (fun w h Y=>PySem.W.kIn_of Y) ?F
 case F=>
  intro w mg fa h KX G hmg
  replace hmg:mg (Str.ofString "law")=some (.ref fa):=hmg
  refine' Prf.all_mk KX G hmg ?a0 ?l0 ?c0 ?k0 ?a1 ?l1 ?c1 ?k1 ?a2 ?l2 ?c2 ?k2 ?a3 ?l3 ?c3 ?k3 ?a4 ?l4 ?c4 ?k4 ?a5 ?l5 ?c5 ?k5 ?a6 ?l6 ?c6 ?k6 ?a7 ?l7 ?c7 ?k7 ?a8 ?l8 ?c8 ?k8 ?a9 ?l9 ?c9 ?k9 ?a10 ?l10 ?c10 ?k10 ?a11 ?l11 ?c11 ?k11 ?a12 ?l12 ?c12 ?k12 ?a13 ?l13 ?c13 ?k13 ?a14 ?l14 ?c14 ?k14 ?a15 ?l15 ?c15 ?Lx ?a16 ?Z_ ?c16 ?Lw ?a17 ?Z9 ?c17 ?Wj ?a18 ?Z8 ?c18 ?Wi ?a19 ?Z7 ?c19 ?Wh ?a20 ?Z6 ?c20 ?Wg ?a21 ?Z5 ?c21 ?Wf ?a22 ?Z4 ?c22 ?Wd ?a23 ?Z2 ?c23 ?Wc ?a24 ?Z1 ?c24 ?Wb ?a25 ?Z0 ?c25 ?Wa ?a26 ?ZX ?c26 ?V_ ?a27 ?ZW ?c27 ?V9 ?a28 ?ZV ?c28 ?V8 ?a29 ?ZS ?c29 ?V7 ?a30 ?ZR ?c30 ?k30 ?Gq ?yV ?yU ?Gp ?jr ?Gn ?yS ?Gm ?Gk ?uN ?Gj ?pK ?Gi ?uM ?Gh
  (case a0=>k_is)
  (case l0=>k_is)
  (case c0=>k_is)
  (case k0=>k_is)
  (case a1=>k_is)
  (case l1=>k_is)
  (case c1=>k_is)
  (case k1=>k_is)
  (case a2=>k_is)
  (case l2=>k_is)
  (case c2=>k_is)
  (case k2=>k_is)
  (case a3=>k_is)
  (case l3=>k_is)
  (case c3=>k_is)
  (case k3=>k_is)
  (case a4=>k_is)
  (case l4=>k_is)
  (case c4=>k_is)
  (case k4=>k_is)
  (case a5=>k_is)
  (case l5=>k_is)
  (case c5=>k_is)
  (case k5=>k_is)
  (case a6=>k_is)
  (case l6=>k_is)
  (case c6=>k_is)
  (case k6=>k_is)
  (case a7=>k_is)
  (case l7=>k_is)
  (case c7=>k_is)
  (case k7=>k_is)
  (case a8=>k_is)
  (case l8=>k_is)
  (case c8=>k_is)
  (case k8=>k_is)
  (case a9=>k_is)
  (case l9=>k_is)
  (case c9=>k_is)
  (case k9=>k_is)
  (case a10=>k_is)
  (case l10=>k_is)
  (case c10=>k_is)
  (case k10=>k_is)
  (case a11=>k_is)
  (case l11=>k_is)
  (case c11=>k_is)
  (case k11=>k_is)
  (case a12=>k_is)
  (case l12=>k_is)
  (case c12=>k_is)
  (case k12=>k_is)
  (case a13=>k_is)
  (case l13=>k_is)
  (case c13=>k_is)
  (case k13=>k_is)
  (case a14=>k_is)
  (case l14=>k_is)
  (case c14=>k_is)
  (case k14=>k_is)
  (case a15=>k_is)
  (case l15=>k_is)
  (case c15=>k_is)
  (case Lx=>k_is)
  (case a16=>k_is)
  (case Z_=>k_is)
  (case c16=>k_is)
  (case Lw=>k_is)
  (case a17=>k_is)
  (case Z9=>k_is)
  (case c17=>k_is)
  (case Wj=>k_is)
  (case a18=>k_is)
  (case Z8=>k_is)
  (case c18=>k_is)
  (case Wi=>k_is)
  (case a19=>k_is)
  (case Z7=>k_is)
  (case c19=>k_is)
  (case Wh=>k_is)
  (case a20=>k_is)
  (case Z6=>k_is)
  (case c20=>k_is)
  (case Wg=>k_is)
  (case a21=>k_is)
  (case Z5=>k_is)
  (case c21=>k_is)
  (case Wf=>k_is)
  (case a22=>k_is)
  (case Z4=>k_is)
  (case c22=>k_is)
  (case Wd=>k_is)
  (case a23=>k_is)
  (case Z2=>k_is)
  (case c23=>k_is)
  (case Wc=>k_is)
  (case a24=>k_is)
  (case Z1=>k_is)
  (case c24=>k_is)
  (case Wb=>k_is)
  (case a25=>k_is)
  (case Z0=>k_is)
  (case c25=>k_is)
  (case Wa=>k_is)
  (case a26=>k_is)
  (case ZX=>k_is)
  (case c26=>k_is)
  (case V_=>k_is)
  (case a27=>k_is)
  (case ZW=>k_is)
  (case c27=>k_is)
  (case V9=>k_is)
  (case a28=>k_is)
  (case ZV=>k_is)
  (case c28=>k_is)
  (case V8=>k_is)
  (case a29=>k_is)
  (case ZS=>k_is)
  (case c29=>k_is)
  (case V7=>k_is)
  (case a30=>k_is)
  (case ZR=>k_is)
  (case c30=>k_is)
  (case k30=>k_is)
  (case Gq=>k_is)
  (case yV=>k_is)
  (case yU=>k_is)
  (case Gp=>k_is)
  (case jr=>k_is)
  (case Gn=>k_is)
  (case yS=>k_is)
  (case Gm=>k_is)
  (case Gk=>k_is)
  (case uN=>k_is)
  (case Gj=>k_is)
  (case pK=>k_is)
  (case Gi=>k_is)
  (case uM=>k_is)
  (case Gh=>k_is)
#print axioms PySem.Challenge.cw_fewnotes_k40_whole_order_or_ring_holds
