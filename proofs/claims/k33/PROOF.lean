import PyProof.Rows.All
import Wide.All
import OpenK.AllK
import Wide.FinOn
import Lean
import PyProof.EqAt
import PyProof.EqKinds
import PyProof.TupleCall
import PyProof.EqLayable
import PyProof.ExcArgsOwn
import PyProof.ExcAttrAll.Exception
import PyProof.RulesAs
import PyProof.ExcBaseAll.ValueError
import PyProof.NsDelKeeps
import KE.KRevSl
import PyProof.TupleIter
import PyProof.ZipIter
import PyProof.DictUpdate
import PyProof.DictTruth
import PyProof.DictDisplay
import KE.KDictOf
import PyProof.AttrMissSeq
import PyProof.WalksS
import KE.KDictSum
import KE.KLam
import KE.KNestM
import KE.KMinKey
import KE.KSortKey
import PyProof.TupleKey
import PyProof.SetKind
import PyProof.Rows.SetFrom
import KE.KEqDict
import KE.KSortedM
import PySem.Challenge.RW_fewnotes_k33_whole_no_fewer_strict_notes
set_option Elab.async false
set_option linter.all false
set_option maxRecDepth 100000
namespace L2
open PySem PySem.Spec PyProof.Rows
abbrev Key:=Sum Int Str
def uR:Key->Value->Bool
 | .inl k,v=>Value.isInt k v
 | .inr x,v=>Value.isStrOf x v
def abw (w:World):Key->Int
 | .inl k=>hashInt k
 | .inr x=>hashStr w x
theorem cL:∀{k:Key} {v:Value},uR k v=true->(∃i t,k=Sum.inl i/\v=Value.int i t)\/(∃x t,k=Sum.inr x/\v=Value.str x t)
 | .inl i,v,h=>by
   obtain ⟨t,e⟩:=Value.isInt_shape (k:=i) (v:=v) h;exact .inl ⟨i,t,rfl,e⟩
 | .inr x,v,h=>by
   obtain ⟨t,e⟩:=Value.isStrOf_shape (x:=x) (v:=v) h;exact .inr ⟨x,t,rfl,e⟩
theorem Fx (i:Int) (t:Tok):uR (.inl i) (.int i t)=true:=by simp [uR,Value.isInt]
theorem Fw (x:Str) (t:Tok):uR (.inr x) (.str x t)=true:=by simp [uR,Value.isStrOf]
theorem Ro (a b:Int):decide ((Sum.inl a:Key)=Sum.inl b)=(a==b):=by
 by_cases e:a=b
 ·subst e;simp
 ·have h:¬(Sum.inl a:Key)=Sum.inl b:=fun q=>e (Sum.inl.inj q)
  rw [decide_eq_false h];exact (beq_eq_false_iff_ne.mpr e).symm
theorem Rj (a b:Str):decide ((Sum.inr a:Key)=Sum.inr b)=decide (a=b):=by
 by_cases e:a=b
 ·subst e;simp
 ·have h:¬(Sum.inr a:Key)=Sum.inr b:=fun q=>e (Sum.inr.inj q)
  rw [decide_eq_false h,decide_eq_false e]
theorem Rn (a:Int) (b:Str):decide ((Sum.inl a:Key)=Sum.inr b)=false:=decide_eq_false (fun q=>nomatch q)
theorem Rk (a:Str) (b:Int):decide ((Sum.inr a:Key)=Sum.inl b)=false:=decide_eq_false (fun q=>nomatch q)
def cF (prog:Program) (w:World):PySem.KeyKind prog w Key where
 is:=uR
 hash:=abw w
 inj:=fun v a b ha hb=>by
  rcases cL ha with ⟨i,t,rfl,rfl⟩|⟨x,t,rfl,rfl⟩
  ·rcases cL hb with ⟨j,u,rfl,e⟩|⟨y,u,rfl,e⟩
   ·injection e with e1 _;rw [e1]
   ·exact nomatch e
  ·rcases cL hb with ⟨j,u,rfl,e⟩|⟨y,u,rfl,e⟩
   ·exact nomatch e
   ·injection e with e1 _;rw [e1]
 byValue:=fun k v h=>by
  rcases cL h with ⟨i,t,rfl,rfl⟩|⟨x,t,rfl,rfl⟩<;>rfl
 pyHash:=fun hv h=>by
  rcases cL hv with ⟨i,t,rfl,rfl⟩|⟨x,t,rfl,rfl⟩
  ·exact wpAny_pyHash_int h
  ·exact wpAny_pyHash_str h
 eqBool:=fun hu hv h=>by
  rcases cL hu with ⟨i,t,rfl,rfl⟩|⟨x,t,rfl,rfl⟩
  ·rcases cL hv with ⟨j,u,rfl,rfl⟩|⟨y,u,rfl,rfl⟩
   ·rw [Ro] at h;exact wpAny_eqBool_int h
   ·rw [Rn] at h;exact SeqAt.EqAt.int_str i t y u _ _ _ _ h
  ·rcases cL hv with ⟨j,u,rfl,rfl⟩|⟨y,u,rfl,rfl⟩
   ·rw [Rk] at h;exact SeqAt.EqAt.str_int x t j u _ _ _ _ h
   ·rw [Rj] at h;exact wpAny_eqBool_str h
 «strs» :=fun k x t v h=>by
  rcases cL h with ⟨i,u,rfl,e⟩|⟨y,u,rfl,e⟩
  ·exact nomatch e
  ·injection e with e1 _
   subst e1;cases v<;>rfl
theorem yK (prog:Program) (w:World) (i:Int) (t:Tok):(cF prog w).is (.inl i) (.int i t)=true:=Fx i t
theorem yJ (prog:Program) (w:World) (x:Str) (t:Tok):(cF prog w).is (.inr x) (.str x t)=true:=Fw x t
end L2
namespace L2
open PySem PySem.Spec PyProof.Rows
inductive V where
 | non|bl (b:Bool)|int (i:Int)|str (x:Str)|z9 (b:Array UInt8)|flt (b:UInt64)|ref (a:Addr)|ty (n:String)
 deriving DecidableEq
def RelV:V->Value->Prop
 | .non,u=>u=Value.none
 | .bl b,u=>u=Value.bool b
 | .int i,u=>∃t,u=Value.int i t
 | .str x,u=>∃t,u=Value.str x t
 | .z9 b,u=>∃t,u=Value.bytes b t
 | .flt b,u=>∃t,u=Value.float b t
 | .ref a,u=>u=Value.ref a
 | .ty n,u=>u=Value.type n
abbrev Vals:List V->List Value->Prop:=Paired RelV
theorem Vals.length {xs:List V} {us:List Value} (r:Vals xs us):xs.length=us.length:=Paired.length r
theorem Vals.get:∀{xs:List V} {us:List Value} {i:Nat} {x:V},Vals xs us->xs[i]? = some x -> ∃u,us[i]? = some u/\RelV x u
 | _,_,_,_,.nil,e=>by simp at e
 | _,_,0,_,.cons r _,e=>by simp at e;subst e;exact ⟨_,rfl,r⟩
 | _,_,i+1,x,.cons _ t,e=>by
   obtain ⟨u,h1,h2⟩:=Vals.get (i:=i) (x:=x) t (by simpa using e);exact ⟨u,by simpa using h1,h2⟩
theorem Vals.set {x:V} {u:Value} (r:RelV x u):∀{xs:List V} {us:List Value} (i:Nat),Vals xs us->Vals (xs.set i x) (us.set i u)
 | _,_,_,.nil=> .nil
 | _,_,0,.cons _ t=> .cons r t
 | _,_,i+1,.cons q t=> .cons q (Vals.set r i t)
theorem Vals.append {xs ys:List V} {us ws:List Value} (h:Vals xs us) (s:Vals ys ws):Vals (xs++ys) (us++ws):=by
 induction h with
 | nil=>exact s
 | cons r t ih=>exact .cons r ih
theorem Vals.take:∀{xs:List V} {us:List Value} (n:Nat),Vals xs us->Vals (xs.take n) (us.take n)
 | _,_,0,_=> .nil
 | _,_,_+1,.nil=> .nil
 | _,_,n+1,.cons r t=> .cons r (Vals.take n t)
theorem Vals.drop:∀{xs:List V} {us:List Value} (n:Nat),Vals xs us->Vals (xs.drop n) (us.drop n)
 | _,_,0,r=>r
 | _,_,_+1,.nil=> .nil
 | _,_,n+1,.cons _ t=>Vals.drop n t
def m9:Option V->Option Value->Prop
 | some v,some u=>RelV v u
 | none,none=>True
 | _,_=>False
def KV {κ:Type}:List (κ×V)->List (κ×Value)->Prop:=Paired fun (p:κ×V) (q:κ×Value)=>p.1=q.1/\RelV p.2 q.2
def kV:Key->V
 | .inl i=> .int i
 | .inr x=> .str x
inductive HO where
 | lst (xs:List V)
 | tup (xs:List V)
 | dK (kvs:List (Key×V))|dT (kvs:List (List Key×V))
 | set (S:Int->Bool) (n:Nat)
 | ins (C dx:Addr) (fs:List (Str×V))
 | own (x:Addr)
 | xd (fs:List (Str×V))
 | met (f x:Addr)
 | rng (lo hi:Int)
 | xT (o:Obj) (u:HO)
 | dU (ps:Array Value)
 | ext (φ:Heap->Prop)
abbrev Hp:=Addr->Option HO
def upd (H:Hp) (a:Addr) (o:HO):Hp:=fun b=>if b=a then some o else H b
theorem ak {H:Hp} {a:Addr} {o:HO}:upd H a o a=some o:=by unfold upd;rw [if_pos rfl]
theorem aN {H:Hp} {a b:Addr} {o:HO} (h:b≠a):upd H a o b=H b:=by unfold upd;rw [if_neg h]
theorem K8 {H:Hp} {a:Addr} {o u:HO}:upd (upd H a o) a u=upd H a u:=by
 funext b;unfold upd;split<;>rfl
theorem fM {H:Hp} {a b:Addr} {o u:HO} (h:H a=some o) (h':H b=some u) (d:o≠u):a≠b:=by
 intro e;subst e;rw [h] at h';exact d (Option.some.inj h')
theorem aD {H:Hp} {a b:Addr} {o:HO} (h:H a=some o) (h':H b=none):a≠b:=by
 intro e;subst e;rw [h] at h';cases h'
section
variable (P:Program) (w:World)
def bR (H:Hp) (h:Heap) (a:Addr):HO->Prop
 | .lst xs=>xs.length<=sizeLine /\ ∃(its:List Value) (n:Nat),Vals xs its/\h.get? a=some {cls:= .type "list",data:= .seq its.toArray n}
 | .tup xs=>xs.length<=sizeLine /\ ∃its:List Value,Vals xs its/\IsTup h a its.toArray
 | .dK kvs=>kvs.length<=sizeLine/\(a==sysModules)=false /\ ∃vs,KV kvs vs/\h.DictOf (cF P w) a vs
 | .dT kvs=>kvs.length<=sizeLine/\(a==sysModules)=false /\ ∃xs:List (List Key×Addr×Value),
    Paired (fun (p:List Key×V) (q:List Key×Addr×Value)=>p.1=q.1/\H q.2.1=some (.tup (p.1.map kV))/\RelV p.2 q.2.2) kvs xs /\
    ∃o es ep,h.get? a=some o/\o.ExactDict/\o.data = .dict es ep/\es.toList=xs.map (entryOfKey (tupleKind (cF P w)))/\(xs.map (·.1)).Nodup
 | .set S n=>h.SetOf (intKind P w) a S n
 | .ins C dx fs=>H dx=some (.own a)/\fs.length<=1000/\dx≠a/\h.get? a=some (PySem.W.instObj C dx) /\
    ∃mA,h.Ns1 dx mA/\(∀f,m9 (fs.lookup f) (mA f))/\PySem.Within mA (fs.map (·.1))
 | .own _=>∃o,h.get? a=some o
 | .xd fs=>∃mA,h.Ns1 a mA /\ ∀f,m9 (fs.lookup f) (mA f)
 | .rng lo hi=>∃t u v,h.get? a=some {cls:= .type "range",data:= .fields #[.int lo t,.int hi u,.int 1 v]}
 | .xT o u=>h.get? a=some o/\bR H h a u
 | .dU ps=>h.get? a=some {cls:= .none,data:= .fields ps}
 | .met f x=>h.get? a=some (PySem.W.methodObj (.ref f) (.ref x))
 | .ext φ=>φ h/\(∃o,h.get? a=some o) /\ ∀h1 h2:Heap,φ h1->(∀o,h1.get? a=some o->h2.get? a=some o)->φ h2
def j_ (H:Hp) (h:Heap):Prop:=∀a o,H a=some o->bR P w H h a o
end
section
variable {P:Program} {w:World} {H H':Hp} {h h':Heap} {a:Addr} {o:HO}
theorem bR.lt (x:bR P w H h a o):a<h.objs.size:=by
 cases o with
 | lst xs=>obtain ⟨_,_,_,_,e⟩:=x;exact Heap.lt_size e
 | tup xs=>obtain ⟨_,_,_,p⟩:=x;exact p.lt
 | dK kvs=>obtain ⟨_,_,_,_,o,_,_,e,_⟩:=x;exact Heap.lt_size e
 | dT kvs=>obtain ⟨_,_,_,_,o,_,_,e,_⟩:=x;exact Heap.lt_size e
 | set S n=>obtain ⟨o,_,_,_,e,_⟩:=x;exact Heap.lt_size e
 | ins C dx fs=>obtain ⟨_,_,_,e,_⟩:=x;exact Heap.lt_size e
 | own y=>obtain ⟨_,e⟩:=x;exact Heap.lt_size e
 | xd fs=>obtain ⟨_,⟨_,_,_,e,_⟩,_⟩:=x;exact Heap.lt_size e
 | rng lo hi=>obtain ⟨_,_,_,e⟩:=x;exact Heap.lt_size e
 | xT ob u=>obtain ⟨e,_⟩:=x;exact Heap.lt_size e
 | dU ps=>exact Heap.lt_size (show h.get? a=some _ from x)
 | met f y=>exact Heap.lt_size (show h.get? a=some _ from x)
 | ext φ=>obtain ⟨_,⟨_,e⟩,_⟩:=x;exact Heap.lt_size e
theorem Paired.Va {α β:Type} {F G:α->β->Prop}:∀{l₁:List α} {l₂:List β},Paired F l₁ l₂->(∀a b,F a b->G a b)->Paired G l₁ l₂
 :=by
 intro l₁ l₂ h f
 induction h with
 | nil=>exact .nil
 | cons r t ih=>exact .cons (f _ _ r) ih
theorem bR.stay (x:bR P w H h a o) (k:∀b u,(b=a\/H b=some (.own a))->h.get? b=some u->h'.get? b=some u)
 (ho:∀b,H b=some (.own a)->H' b=some (.own a)) (ht:∀b xs,H b=some (.tup xs)->H' b=some (.tup xs)):bR P w H' h' a o:=by
 induction o with
 | lst xs=>obtain ⟨z,its,n,r,e⟩:=x;exact ⟨z,its,n,r,k _ _ (.inl rfl) e⟩
 | tup xs=>obtain ⟨z,its,r,ob,e,c⟩:=x;exact ⟨z,its,r,ob,k _ _ (.inl rfl) e,c⟩
 | dK kvs=>obtain ⟨z,y,vs,r,ob,es,ep,e,c⟩:=x;exact ⟨z,y,vs,r,ob,es,ep,k _ _ (.inl rfl) e,c⟩
 | dT kvs=>
   obtain ⟨z,y,xs,r,ob,es,ep,e,c⟩:=x;exact ⟨z,y,xs,Paired.Va r fun p q z=>⟨z.1,ht _ _ z.2.1,z.2.2⟩,ob,es,ep,k _ _ (.inl rfl) e,c⟩
 | set S n=>obtain ⟨ob,es,ep,t,e,c⟩:=x;exact ⟨ob,es,ep,t,k _ _ (.inl rfl) e,c⟩
 | ins C dx fs=>
   obtain ⟨d,z,ne,e,mA,⟨od,es,ep,e2,c⟩,r⟩:=x;exact ⟨ho _ d,z,ne,k _ _ (.inl rfl) e,mA,⟨od,es,ep,k _ _ (.inr d) e2,c⟩,r⟩
 | own y=>obtain ⟨ob,e⟩:=x;exact ⟨ob,k _ _ (.inl rfl) e⟩
 | xd fs=>obtain ⟨mA,⟨od,es,ep,e,c⟩,r⟩:=x;exact ⟨mA,⟨od,es,ep,k _ _ (.inl rfl) e,c⟩,r⟩
 | rng lo hi=>obtain ⟨t,u,v,e⟩:=x;exact ⟨t,u,v,k _ _ (.inl rfl) e⟩
 | xT ob u ih=>obtain ⟨e,q⟩:=x;exact ⟨k _ _ (.inl rfl) e,ih q⟩
 | dU ps=>
   have e:h.get? a=some {cls:= .none,data:= .fields ps}:=x;show h'.get? a=some {cls:= .none,data:= .fields ps};exact k a _ (.inl rfl) e
 | met f y=>
   have e:h.get? a=some (PySem.W.methodObj (.ref f) (.ref y)):=x;show h'.get? a=some (PySem.W.methodObj (.ref f) (.ref y));exact k a _ (.inl rfl) e
 | ext φ=>obtain ⟨p,⟨o,e⟩,st⟩:=x;exact ⟨st _ _ p fun o q=>k _ _ (.inl rfl) q,⟨o,k _ _ (.inl rfl) e⟩,st⟩
theorem j_.lt (x:j_ P w H h) (e:H a=some o):a<h.objs.size:=(x a o e).lt
theorem j_.fresh (x:j_ P w H h) (e:h.objs.size<=a):H a=none:=by
 cases q:H a with
 | none=>rfl
 | some u=>exact absurd (Nat.lt_of_lt_of_le (x.lt q) e) (Nat.lt_irrefl _)
theorem j_.kept (x:j_ P w H h) (k:∀b u,h.get? b=some u->h'.get? b=some u):j_ P w H h':=fun a o e=>
 (x a o e).stay (fun b u _ q=>k b u q) (fun _ q=>q) fun _ _ q=>q
theorem j_.laid (x:j_ P w H h) (k:∀b u,h.get? b=some u->h'.get? b=some u) (hp:h.objs.size<=a) (new:bR P w (upd H a o) h' a o):j_ P w (upd H a o) h':=fun b u e=>by
 have hn:=x.fresh hp
 by_cases hb:b=a
 ·subst hb;rw [ak] at e;cases e;exact new
 ·rw [aN hb] at e
  exact (x b u e).stay (fun c v _ q=>k c v q) (fun c q=>by rw [aN (aD q hn)];exact q) fun c xs q=>by rw [aN (aD q hn)];exact q
end
def Rd (H:Hp) (a:Addr) (u:HO):Prop:=H a=some u \/ ∃o,H a=some (.xT o u)
theorem Rd.ok {P:Program} {w:World} {H:Hp} {h:Heap} {a:Addr} {u:HO} (r:Rd H a u) (x:j_ P w H h):bR P w H h a u:=by
 rcases r with r|⟨o,r⟩
 ·exact x a u r
 ·obtain ⟨_,q⟩:=x a _ r
  exact q
def Xe:Option HO->Prop
 | some (.lst _)=>True
 | some (.dK _)=>True
 | some (.dT _)=>True
 | some (.set _ _)=>True
 | some (.ins _ _ _)=>True
 | some (.ext _)=>True
 | _=>False
section
variable {P:Program} {w:World} {H:Hp} {h h':Heap} {x e:Addr} {o':HO}
theorem j_.write (ok:j_ P w H h) (mu:Xe (H x)) (he:e=x\/H e=some (.own x)) (k:∀b u,b≠e->h.get? b=some u->h'.get? b=some u) (heo:∃u,h'.get? e=some u)
 (new:bR P w (upd H x o') h' x o'):j_ P w (upd H x o') h':=fun b u q=>by
 have Fi:∀c y,H c=some (.own y)->c≠x:=fun c y r z=>by subst z;rw [r] at mu;exact mu
 have aaW:∀c xs,H c=some (.tup xs)->c≠x:=fun c xs r z=>by subst z;rw [r] at mu;exact mu
 by_cases hb:b=x
 ·subst hb;rw [ak] at q;cases q;exact new
 ·rw [aN hb] at q
  by_cases hbe:b=e
  ·have q':H b=some (.own x):=by
    rcases he with z|z
    ·exact absurd (hbe.trans z) hb
    ·rw [hbe];exact z
   rw [q] at q';cases q';obtain ⟨v,hv⟩:=heo;exact ⟨v,by rw [hbe];exact hv⟩
  ·refine (ok b u q).stay (fun c v hc r=>k c v ?_ r) (fun c r=>by rw [aN (Fi c b r)];exact r) fun c xs r=>by rw [aN (aaW c xs r)];exact r
   rcases hc with rfl|hc
   ·exact hbe
   ·rintro rfl
    rcases he with z|z
    ·exact Fi c b hc z
    ·rw [hc] at z;cases z;exact hb rfl
end
structure Un (fs ex:List Addr) (H H':Hp) (h h':Heap):Prop where
 keep:∀b o,h.get? b=some o->H b=none->b∉fs->b∉ex->h'.get? b=some o
 slot:∀b o,h.get? b=some o->H b=none->b∈fs->b∉ex -> ∃sl,h'.get? b=some {o with slots:=sl}
 free:∀b o,h.get? b=some o->H b=none->b∉ex->H' b=none
 there:∀b o,h.get? b=some o->b∉ex -> ∃o',h'.get? b=some o'
 tups:∀b xs,H b=some (.tup xs)->H' b=some (.tup xs)
 sJ:∀b o u,H b=some (.xT o u)->H' b=some (.xT o u)
 uo:∀b ps,H b=some (.dU ps) -> ∃more,H' b=some (.dU (ps++more))
section
variable {fs fs' ex ex':List Addr} {H H1 H2:Hp} {h h1 h2 h':Heap} {a x e:Addr} {o:HO}
theorem Un.any (u:Un fs ex H H1 h h1) {b:Addr} {ob:Obj} (q:h.get? b=some ob) (n:H b=none) (hx:b∉ex):∃sl,h1.get? b=some {ob with slots:=sl}:=by
 by_cases hb:b∈fs
 ·exact u.slot b ob q n hb hx
 ·exact ⟨ob.slots,u.keep b ob q n hb hx⟩
theorem Un.kept (k:∀b u,h.get? b=some u->h'.get? b=some u):Un fs ex H H h h':=
 ⟨fun b ob q _ _ _=>k b ob q,fun b ob q _ _ _=>⟨ob.slots,k b ob q⟩,fun _ _ _ n _=>n,fun b ob q _=>⟨ob,k b ob q⟩,fun _ _ q=>q,fun _ _ _ q=>q,fun _ ps q=>⟨#[],by rw [q];simp⟩⟩
theorem Un.refl:Un fs ex H H h h:=Un.kept fun _ _ q=>q
theorem Un.laid (k:∀b u,h.get? b=some u->h'.get? b=some u) (hp:h.objs.size<=a) (hn:H a=none):Un fs ex H (upd H a o) h h' where
 keep:=fun b u q _ _ _=>k b u q
 slot:=fun b u q _ _ _=>⟨u.slots,k b u q⟩
 free:=fun b u q n _=>by rw [aN (Nat.ne_of_lt (Nat.lt_of_lt_of_le (Heap.lt_size q) hp))];exact n
 there:=fun b u q _=>⟨u,k b u q⟩
 tups:=fun b xs q=>by rw [aN (aD q hn)];exact q
 sJ:=fun b u xs q=>by rw [aN (aD q hn)];exact q
 uo:=fun b ps q=>⟨#[],by rw [aN (aD q hn),q];simp⟩
theorem Un.write (mu:Xe (H x)) (he:e=x\/H e=some (.own x)) (k:∀b u,b≠e->h.get? b=some u->h'.get? b=some u) (heo:∃u,h'.get? e=some u):Un fs ex H (upd H x o) h h':=by
 have hx:∀b,H b=none->b≠x:=fun b n z=>by subst z;rw [n] at mu;exact mu
 have hb:∀b,H b=none->b≠e:=fun b n z=>by
  subst z;rcases he with r|r
  ·exact hx b n r
  ·rw [n] at r;cases r
 have hm:∀b u,H b=some u -> ¬Xe (some u)->b≠x:=fun b u q nm z=>by subst z;rw [q] at mu;exact nm mu
 refine ⟨fun b u q n _ _=>k b u (hb b n) q,fun b u q n _ _=>⟨u.slots,k b u (hb b n) q⟩,fun b u q n _=>by rw [aN (hx b n)];exact n,fun b u q _=> ?_,
  fun b xs q=>by rw [aN (hm b _ q fun z=>z)];exact q,fun b u xs q=>by rw [aN (hm b _ q fun z=>z)];exact q,fun b ps q=>⟨#[],by rw [aN (hm b _ q fun z=>z),q];simp⟩⟩
 by_cases hbe:b=e
 ·subst hbe;exact heo
 ·exact ⟨u,k b u hbe q⟩
end
def Xo (h:Heap) (H:Hp):List Addr:=(List.range h.objs.size).filter fun a=>(H a).isSome
def m5 (h:Heap) (H:Hp):Heap:=PySem.W.hideAll h (Xo h H)
theorem uY (h:Heap) (H:Hp):(m5 h H).objs.size=h.objs.size:=PySem.W.hideAll_size _ _
theorem zu {h:Heap} {H:Hp} {b:Addr} {o:Obj} (e:h.get? b=some o) (n:H b=none):(m5 h H).get? b=some o:=
 PySem.W.hideAll_get _ e fun hm=>by
  have q:(H b).isSome=true:=(List.mem_filter.mp hm).2;rw [n] at q;simp at q
theorem CG {h:Heap} {H:Hp} {b:Addr} {o:Obj} (e:(m5 h H).get? b=some o):h.get? b=some o/\H b=none:=by
 have e':h.get? b=some o:=PySem.W.of_hideAll (Xo h H) e;refine ⟨e', ?_⟩;cases q:H b with
 | none=>rfl
 | some x=>
   have hm:b∈Xo h H:=List.mem_filter.mpr ⟨List.mem_range.mpr (Heap.lt_size e'),by simp [q]⟩;have z:(m5 h H).get? b=none:=PySem.W.hideAll_none (Xo h H) hm;rw [z] at e;cases e
def NP (g h:Heap) (L:Addr):List (Addr×Obj):=(List.range h.objs.size).filterMap fun a=>if a=L\/(g.get? a).isSome=true then none else (h.get? a).map fun o=>(a,o)
def rest (g h:Heap) (L d:Addr):List (Addr×Obj):=(NP g h L).filter fun p=>decide (p.1≠d)
end L2
namespace L2
open PySem PySem.Spec PyProof.Rows
structure Mod (K:PySem.W.Frag) (mg:Str->Option Value) (base:Heap):Prop where
 kin:K.In base
 glob:base.Ns mainGlobals mg
 blt:∃mb,base.Ns builtinsNs mb /\ ∀x:Str,x ≠ "__name__" -> mb x=bootBuiltins x
 nolimit:base.NoLimit
structure Cx where
 prog:Program
 w:World
 K:PySem.W.Frag
 mg:Str->Option Value
 base:Heap
 A:Around
 N:List Str
 s₀:Shared
 H₀:Hp
 env:Env
 outer:List Env
 stack:List Env
 ex:List Addr
 fn:Str->Bool
 calm:Bool
 pn:List (Addr×Obj)
 xe:Value->Shared->Prop
def frs (l:List Env):List Addr:=l.filterMap (·.frame)
abbrev Cx.fs (X:Cx):List Addr:=frs X.outer
def Vis (sc:Scope) (x:Str):Prop:=sc.names.lookup x=some .local\/sc.names.lookup x=some .cell\/sc.names.lookup x=some .free
def Loc (sc:Scope) (x:Str):Prop:=sc.names.lookup x=some .local\/sc.names.lookup x=some .cell
def Look (env:Env) (h:Heap) (m:Str->Option Value) (x:Str) (u:Value):Prop:=
 (env.kindOf x=some .local/\m x=some u)\/((env.kindOf x=some .cell\/env.kindOf x=some .free) /\ ∃c,env.cells.lookup x=some c/\h.IsCell c (some u))
structure Cx.Ok (X:Cx):Prop where
 mod:Mod X.K X.mg X.base
 kind:X.env.scope.kind = .function
 glob:X.env.globals=mainGlobals
 blt:X.env.builtins=builtinsNs
 above:X.s₀.heap.objs.size<=X.env.locals
 inj:∀x y c,X.env.cells.lookup x=some c->X.env.cells.lookup y=some c->x=y
 has:∀x,(X.env.kindOf x=some .cell\/X.env.kindOf x=some .free) -> ∃c,X.env.cells.lookup x=some c
 cab:∀x c,X.fn x=true->X.env.cells.lookup x=some c->X.s₀.heap.objs.size<=c
 hd:X.calm=true->X.A.handled=none
 frames:X.A.frames=some X.stack
 stk:X.stack=X.outer\/(X.stack=X.env::X.outer/\X.env.frame=some X.env.locals)
 exf:∀b∈X.ex,b≠X.env.locals /\ ∀x c,X.env.cells.lookup x=some c->c≠b
 bs:∀b o,X.base.get? b=some o->X.s₀.heap.get? b=some o/\X.H₀ b=none
 Nr:X.base.objs.size<=X.s₀.heap.objs.size
 IV:∀b o,X.base.get? b=some o->b∉X.ex
 Nb:∀b∈X.ex,b∉X.fs
 qt:X.s₀.heap.FunFrames X.base X.outer
 RM:∀b∈X.fs,X.H₀ b=none
structure Inv (X:Cx) (pins:List (Addr×Obj)) (σ:List (Option V)) (H:Hp) (s:Shared):Prop where
 ok:X.Ok
 os:s.os=X.s₀.os
 bare:AllBare s.gens
 base:Un X.fs X.ex X.H₀ H X.s₀.heap s.heap
 loc:∃m,s.heap.Ns X.env.locals m /\ ∀(i:Nat) (x:Str) (v:V),X.N[i]? = some x->σ[i]? = some (some v)->Vis X.env.scope x -> ∃u,RelV v u/\Look X.env s.heap m x u
 cell:∀x c,X.env.cells.lookup x=some c -> ∃v,s.heap.IsCell c v
 free:H X.env.locals=none
 mJ:∀x c,X.env.cells.lookup x=some c->H c=none
 pin:∀p∈X.pn++pins,s.heap.get? p.1=some p.2/\H p.1=none/\p.1≠X.env.locals/\p.1∉X.fs /\ ∀v,p.2.data ≠ .cell v
 hok:j_ X.prog X.w H s.heap
 len:σ.length=X.N.length
section
variable {X:Cx} {pins:List (Addr×Obj)} {σ:List (Option V)} {H H':Hp} {s:Shared} {h':Heap}
theorem Cx.Ok.aa0 (ok:X.Ok) {b:Addr} {o:Obj} (e:X.base.get? b=some o):b∉X.fs:=fun hb=>by
 have:=(ok.qt.mem hb).1;rw [e] at this;cases this
theorem Inv.bs (I:Inv X pins σ H s):∀b o,X.base.get? b=some o->s.heap.get? b=some o/\H b=none:=fun b o e=>
 ⟨I.base.keep b o (I.ok.bs b o e).1 (I.ok.bs b o e).2 (I.ok.aa0 e) (I.ok.IV b o e),I.base.free b o (I.ok.bs b o e).1 (I.ok.bs b o e).2 (I.ok.IV b o e)⟩
theorem Inv.bk (I:Inv X pins σ H s):∀b o,X.base.get? b=some o->s.heap.get? b=some o:=fun b o e=>(I.bs b o e).1
theorem Inv.mod (I:Inv X pins σ H s):Mod X.K X.mg X.base:=I.ok.mod
theorem Inv.xR (I:Inv X pins σ H s):X.K.In s.heap:=I.ok.mod.kin.keeps I.bk
theorem Inv.lt (I:Inv X pins σ H s):X.env.locals<s.heap.objs.size:=let ⟨_,hn,_⟩:=I.loc;hn.lt
theorem Inv.sz (I:Inv X pins σ H s):X.s₀.heap.objs.size<=s.heap.objs.size:=Nat.le_trans I.ok.above (Nat.le_of_lt I.lt)
theorem Inv.aaZ (I:Inv X pins σ H s) {a:Addr} (h:s.heap.objs.size<=a):a∉X.fs:=fun hb=>by
 obtain ⟨_,o,ho,_⟩:=I.ok.qt.mem hb;exact absurd (Nat.lt_of_lt_of_le (Heap.lt_size ho) (Nat.le_trans I.sz h)) (Nat.lt_irrefl _)
theorem Inv.R0 (I:Inv X pins σ H s):∀x c,X.env.cells.lookup x=some c->c≠X.env.locals:=fun x c e z=>by
 obtain ⟨v,o,ho,hd⟩:=I.cell x c e;obtain ⟨m,⟨o',es,ep,ho',hd',_⟩,_⟩:=I.loc;rw [z,ho'] at ho;cases ho;rw [hd'] at hd;cases hd
theorem Inv.qt (I:Inv X pins σ H s):s.heap.FunFrames X.base X.outer:=by
 have all:∀(l:List Env),(∀b∈frs l,b∈X.fs)->X.s₀.heap.FunFrames X.base l->s.heap.FunFrames X.base l:=by
  intro l
  induction l with
  | nil=>intro _ _;trivial
  | cons env r ih=>
    intro hs hl;obtain ⟨hk,⟨L,o,hf,hn,ho,hd⟩,hr⟩:=hl;have hL:L∈X.fs:=hs L (by unfold frs;rw [List.filterMap_cons,hf];exact List.mem_cons_self);obtain ⟨sl,e⟩:=I.base.slot L o ho (I.ok.RM L hL) hL fun z=>I.ok.Nb L z hL;exact ⟨hk,⟨L,_,hf,hn,e,hd⟩,ih (fun b hb=>hs b (by unfold frs;rw [List.filterMap_cons,hf];exact List.mem_cons_of_mem _ hb)) hr⟩
 exact all X.outer (fun _ hb=>hb) I.ok.qt
theorem Inv.stack (I:Inv X pins σ H s):s.heap.FunFrames X.base X.stack:=by
 rcases I.ok.stk with e|⟨e,hf⟩
 ·rw [e];exact I.qt
 ·rw [e]
  obtain ⟨m,hn,_⟩:=I.loc;refine .cons (by rw [I.ok.kind];decide) hf hn ?_ I.qt;exact Heap.get?_none_of_le (Nat.le_trans I.ok.Nr I.ok.above)
theorem Inv.vJ (I:Inv X pins σ H s):∀b∈frs X.stack,b∈X.env.locals::X.fs:=fun b hb=>by
 rcases I.ok.stk with e|⟨e,hf⟩
 ·rw [e] at hb;exact List.mem_cons_of_mem _ hb
 ·rw [e] at hb
  unfold frs at hb;rw [List.filterMap_cons,hf] at hb;exact hb
theorem Inv.Ci (I:Inv X pins σ H s):∀b∈frs X.stack,H b=none:=fun b hb=>by
 rcases List.mem_cons.mp (I.vJ b hb) with e|hb
 ·rw [e];exact I.free
 ·obtain ⟨_,o,ho,_⟩:=I.ok.qt.mem hb
  exact I.base.free b o ho (I.ok.RM b hb) fun z=>I.ok.Nb b z hb
theorem Inv.step {g':Array GenState} {t':Nat} {d':Drawn} {ch:List Addr} (I:Inv X pins σ H s)
 (hch:∀b∈ch,(b∈X.ex\/X.s₀.heap.objs.size<=b)/\b≠X.env.locals/\(∀x c,X.env.cells.lookup x=some c->c≠b) /\ ∀p∈X.pn++pins,p.1≠b)
 (keep:∀b o,b≠X.env.locals->b∉X.fs->b∉ch->s.heap.get? b=some o->H b=none->h'.get? b=some o)
 (slot:∀b o,b≠X.env.locals->b∈X.fs->b∉ch->s.heap.get? b=some o->H b=none -> ∃sl,h'.get? b=some {o with slots:=sl}) (free:∀b o,b∉ch->s.heap.get? b=some o->H b=none->H' b=none)
 (there:∀b o,b∉ch->s.heap.get? b=some o -> ∃o',h'.get? b=some o')
 (tups:∀b xs,H b=some (.tup xs)->H' b=some (.tup xs)) (sJ:∀b o u,H b=some (.xT o u)->H' b=some (.xT o u)) (uo:∀b ps,H b=some (.dU ps) -> ∃more,H' b=some (.dU (ps++more)))
 (ns:∀m,s.heap.Ns X.env.locals m->h'.Ns X.env.locals m) (hok:j_ X.prog X.w H' h') (hg:AllBare g'):
 Inv X pins σ H' {s with heap:=h',gens:=g',drawn:=d',toks:=t'}:=by
 have neL:∀b o,X.s₀.heap.get? b=some o->b≠X.env.locals:=fun b o e=>Nat.ne_of_lt (Nat.lt_of_lt_of_le (Heap.lt_size e) I.ok.above)
 have XD:∀b o,X.s₀.heap.get? b=some o->b∉X.ex->b∉ch:=fun b o e hx hb=>by
  rcases (hch b hb).1 with z|z
  ·exact hx z
  ·exact absurd (Nat.lt_of_lt_of_le (Heap.lt_size e) z) (Nat.lt_irrefl _)
 have cellK:∀x c,X.env.cells.lookup x=some c -> ∀v,s.heap.IsCell c v->h'.IsCell c v:=fun x c e v ⟨o,ho,hd⟩=>by
  have U5:c∉ch:=fun z=>(hch c z).2.2.1 x c e rfl
  by_cases hc:c∈X.fs
  ·obtain ⟨sl,q⟩:=slot c o (I.R0 x c e) hc U5 ho (I.mJ x c e)
   exact ⟨_,q,hd⟩
  ·exact ⟨o,keep c o (I.R0 x c e) hc U5 ho (I.mJ x c e),hd⟩
 refine ⟨I.ok,I.os,hg,⟨fun b o e n hb hx=> ?_,fun b o e n hb hx=> ?_,fun b o e n hx=> ?_,fun b o e hx=> ?_,fun b xs e=>tups b xs (I.base.tups b xs e),fun b o xs e=>sJ b o xs (I.base.sJ b o xs e),fun b ps e=> ?_⟩, ?_,fun x c e=> ?_, ?_,fun x c e=> ?_,fun p hp=> ?_,hok,I.len⟩
 ·exact keep b o (neL b o e) hb (XD b o e hx) (I.base.keep b o e n hb hx) (I.base.free b o e n hx)
 ·obtain ⟨sl,e1⟩:=I.base.slot b o e n hb hx
  obtain ⟨sl',e2⟩:=slot b _ (neL b o e) hb (XD b o e hx) e1 (I.base.free b o e n hx);exact ⟨sl',e2⟩
 ·obtain ⟨o',e1⟩:=I.base.there b o e hx
  exact free b o' (XD b o e hx) e1 (I.base.free b o e n hx)
 ·obtain ⟨o',e1⟩:=I.base.there b o e hx
  exact there b o' (XD b o e hx) e1
 ·obtain ⟨m1,e1⟩:=I.base.uo b ps e
  obtain ⟨m2,e2⟩:=uo b _ e1;exact ⟨m1++m2,by rw [e2,Array.append_assoc]⟩
 ·obtain ⟨m,hn,hl⟩:=I.loc
  refine ⟨m,ns m hn,fun i x v e1 e2 e3=> ?_⟩;obtain ⟨u,r,l⟩:=hl i x v e1 e2 e3;refine ⟨u,r, ?_⟩;rcases l with l|⟨k,c,e,z⟩
  ·exact .inl l
  ·exact .inr ⟨k,c,e,cellK x c e _ z⟩
 ·obtain ⟨v,z⟩:=I.cell x c e
  exact ⟨v,cellK x c e v z⟩
 ·obtain ⟨m,⟨o,_,_,ho,_⟩,_⟩:=I.loc
  exact free _ o (fun z=>(hch _ z).2.1 rfl) ho I.free
 ·obtain ⟨v,o,ho,hd⟩:=I.cell x c e
  exact free c o (fun z=>(hch c z).2.2.1 x c e rfl) ho (I.mJ x c e)
 ·obtain ⟨e,n,ne,nf,d⟩:=I.pin p hp
  have U5:p.1∉ch:=fun z=>(hch p.1 z).2.2.2 p hp rfl;exact ⟨keep p.1 p.2 ne nf U5 e n,free p.1 p.2 U5 e n,ne,nf,d⟩
theorem Inv.un {t':Nat} (I:Inv X pins σ H s) (u:Un X.fs [] H H' s.heap h') (hok:j_ X.prog X.w H' h'):Inv X pins σ H' {s with heap:=h',toks:=t'}:=by
 obtain ⟨m,⟨o,es,ep,ho,r⟩,_⟩:=id I.loc;obtain ⟨sl,hL⟩:=u.any ho I.free (by simp)
 exact I.step (g':=s.gens) (d':=s.drawn) (ch:=[]) (fun _ z=>nomatch z) (fun b o _ hb _ e n=>u.keep b o e n hb (by simp)) (fun b o _ hb _ e n=>u.slot b o e n hb (by simp)) (fun b o _ e n=>u.free b o e n (by simp)) (fun b o _ e=>u.there b o e (by simp)) u.tups u.sJ u.uo (fun m' hm=>by
  obtain ⟨o',es',ep',ho',r'⟩:=hm;rw [ho] at ho';cases ho';exact ⟨_,es',ep',hL,r'⟩) hok I.bare
theorem Inv.call {g':Array GenState} {t':Nat} {d':Drawn} {ch:List Addr} (I:Inv X pins σ H s) (u:Un (frs X.stack) ch H H' s.heap h') (hok:j_ X.prog X.w H' h') (hg:AllBare g')
 (hch:∀b∈ch,(b∈X.ex\/X.s₀.heap.objs.size<=b)/\b≠X.env.locals/\(∀x c,X.env.cells.lookup x=some c->c≠b) /\ ∀p∈X.pn++pins,p.1≠b):
 Inv X pins σ H' {s with heap:=h',gens:=g',drawn:=d',toks:=t'}:=by
 obtain ⟨m,⟨o,es,ep,ho,r⟩,_⟩:=id I.loc;obtain ⟨sl,hL⟩:=u.any ho I.free fun z=>(hch _ z).2.1 rfl
 exact I.step (ch:=ch) hch (fun b o hL hb hc e n=>u.keep b o e n (fun z=>(List.mem_cons.mp (I.vJ b z)).elim hL hb) hc) (fun b o _ _ hc e n=>u.any e n hc) (fun b o hc e n=>u.free b o e n hc) (fun b o hc e=>u.there b o e hc) u.tups u.sJ u.uo (fun m' hm=>by
  obtain ⟨o',es',ep',ho',r'⟩:=hm;rw [ho] at ho';cases ho';exact ⟨_,es',ep',hL,r'⟩) hok hg
theorem Inv.turned {t':Nat} {it:Addr} (I:Inv X pins σ H s) (k:∀b o,b≠it->s.heap.get? b=some o->h'.get? b=some o) (hn:H it=none) (hL:it≠X.env.locals)
 (h1:it∈X.ex\/X.s₀.heap.objs.size<=it) (h2:∀x c,X.env.cells.lookup x=some c->c≠it) (h3:∀p∈X.pn++pins,p.1≠it):Inv X pins σ H {s with heap:=h',toks:=t'}:=by
 have Q9:∀b u,H b=some u->b≠it:=fun b u e z=>by rw [z,hn] at e;cases e
 refine I.step (g':=s.gens) (d':=s.drawn) (ch:=[it]) (fun b hb=> ?_) (fun b o _ _ hc e _=>k b o (fun z=>hc (by simp [z])) e) (fun b o _ _ hc e _=>⟨o.slots,k b o (fun z=>hc (by simp [z])) e⟩) (fun _ _ _ _ n=>n)
  (fun b o hc e=>⟨o,k b o (fun z=>hc (by simp [z])) e⟩) (fun _ _ e=>e) (fun _ _ _ e=>e) (fun b ps e=>⟨#[],by rw [e];simp⟩) (fun m hm=> ?_) (fun b u e=> ?_) I.bare
 ·have e:b=it:=by simpa using hb
  subst e;exact ⟨h1,hL,h2,h3⟩
 ·obtain ⟨o,es,ep,ho,r⟩:=hm
  exact ⟨o,es,ep,k _ o (Ne.symm hL) ho,r⟩
 ·refine (I.hok b u e).stay (fun c v hc q=>k c v ?_ q) (fun _ q=>q) fun _ _ q=>q
  rcases hc with z|z
  ·rw [z];exact Q9 b u e
  ·exact Q9 c _ z
theorem Inv.tok (I:Inv X pins σ H s) (t:Nat):Inv X pins σ H {s with toks:=t}:=I.un (h':=s.heap) (t':=t) Un.refl I.hok
theorem Inv.kept {t':Nat} (I:Inv X pins σ H s) (k:∀b u,s.heap.get? b=some u->h'.get? b=some u):Inv X pins σ H {s with heap:=h',toks:=t'}:=I.un (Un.kept k) (I.hok.kept k)
theorem Inv.laid {a:Addr} {o:HO} {t':Nat} (I:Inv X pins σ H s) (k:∀b u,s.heap.get? b=some u->h'.get? b=some u) (hp:s.heap.objs.size<=a) (new:bR X.prog X.w (upd H a o) h' a o):
 Inv X pins σ (upd H a o) {s with heap:=h',toks:=t'}:=I.un (Un.laid k hp (I.hok.fresh hp)) (I.hok.laid k hp new)
theorem Inv.write {x e:Addr} {o:HO} {t':Nat} (I:Inv X pins σ H s) (mu:Xe (H x)) (he:e=x\/H e=some (.own x)) (k:∀b u,b≠e->s.heap.get? b=some u->h'.get? b=some u) (heo:∃u,h'.get? e=some u)
 (new:bR X.prog X.w (upd H x o) h' x o):Inv X pins σ (upd H x o) {s with heap:=h',toks:=t'}:=I.un (Un.write mu he k heo) (I.hok.write mu he k heo new)
theorem Inv.nJ {gA:List (Addr×Obj)} (I:Inv X pins σ H s) (h:∀p∈gA,s.heap.get? p.1=some p.2/\H p.1=none/\p.1≠X.env.locals/\p.1∉X.fs /\ ∀v,p.2.data ≠ .cell v):Inv X gA σ H s:=
 ⟨I.ok,I.os,I.bare,I.base,I.loc,I.cell,I.free,I.mJ,fun p hp=>(List.mem_append.mp hp).elim (fun z=>I.pin p (List.mem_append_left _ z)) (h p),I.hok,I.len⟩
theorem yH {N:List Str} (hN:N.Nodup) {i j:Nat} {x:Str} (a:N[i]? = some x) (b:N[j]? = some x):i=j:=by
 obtain ⟨h1,e1⟩:=List.getElem?_eq_some_iff.mp a;obtain ⟨h2,e2⟩:=List.getElem?_eq_some_iff.mp b;exact (List.getElem_inj hN).mp (e1.trans e2.symm)
theorem uJ {M:Model} {A:Around} {E:Value->Shared->Prop} {i:Nat} {x:Str} {v:V} {u:Value} {Q:Unit->Shared->Prop} (I:Inv X pins σ H s) (hN:X.N.Nodup) (hi:X.N[i]? = some x) (hx:Loc X.env.scope x) (r:RelV v u)
 (h:∀s',Inv X pins (σ.set i (some v)) H s'->(∃a,Heap.SameBut a s.heap s'.heap/\(a=X.env.locals\/X.env.cells.lookup x=some a))->Q () s') (hf:X.fn x=true\/X.env.scope.names.lookup x=some .local:=by first |exact .inl rfl|exact .inr rfl|assumption):wpAny M A (storeName X.env x u) Q E s:=by
 obtain ⟨m,hn,hl⟩:=id I.loc;have hcls:(X.env.scope.kind == .class||(X.env.scope.kind == .module&&X.env.locals != X.env.globals))=false:=by rw [I.ok.kind];rfl
 have ae5:i<σ.length:=by rw [I.len];exact (List.getElem?_eq_some_iff.mp hi).1
 have R0:=I.R0
 have tracked:∀{a:Addr} {h':Heap},(∃o,s.heap.get? a=some o/\H a=none)->Heap.SameBut a s.heap h'->j_ X.prog X.w H h':=fun {a h'} ha hs b ob e=>by
  obtain ⟨_,_,hfree⟩:=ha;refine (I.hok b ob e).stay (fun c w' hc q=>(hs.2 c ?_).trans q) (fun _ q=>q) fun _ _ q=>q;rintro rfl;rcases hc with rfl|hc
  ·rw [hfree] at e;cases e
  ·rw [hfree] at hc;cases hc
 rcases hx with hk|hk
 ·refine wpAny_storeName_local hk hn (fun h' hn' hs=> ?_) hcls
  obtain ⟨oL,_,_,hoL,_⟩:=id hn;refine h _ ⟨I.ok,I.os,I.bare,⟨fun b o e n hb hx=> ?_,fun b o e n hb hx=> ?_,I.base.free,fun b o e hx=> ?_,I.base.tups,I.base.sJ,I.base.uo⟩,⟨_,hn',fun j y v' e1 e2 e3=> ?_⟩,fun y c e=> ?_,I.free,I.mJ,fun p hp=> ?_,tracked ⟨oL,hoL,I.free⟩ hs,by simpa using I.len⟩ ⟨_,hs,.inl rfl⟩
  ·exact (hs.2 b (Nat.ne_of_lt (Nat.lt_of_lt_of_le (Heap.lt_size e) I.ok.above))).trans (I.base.keep b o e n hb hx)
  ·obtain ⟨sl,e1⟩:=I.base.slot b o e n hb hx
   exact ⟨sl,(hs.2 b (Nat.ne_of_lt (Nat.lt_of_lt_of_le (Heap.lt_size e) I.ok.above))).trans e1⟩
  ·obtain ⟨o',e1⟩:=I.base.there b o e hx
   exact ⟨o',(hs.2 b (Nat.ne_of_lt (Nat.lt_of_lt_of_le (Heap.lt_size e) I.ok.above))).trans e1⟩
  ·by_cases hj:j=i
   ·subst hj
    rw [hi] at e1;cases e1;rw [List.getElem?_set_self ae5] at e2;cases e2;exact ⟨u,r,.inl ⟨hk,by simp⟩⟩
   ·rw [List.getElem?_set_ne (Ne.symm hj)] at e2
    obtain ⟨u',r',q⟩:=hl j y v' e1 e2 e3;refine ⟨u',r', ?_⟩;rcases q with ⟨k,e⟩|⟨k,c,e,z⟩
    ·refine .inl ⟨k, ?_⟩
     have:y≠x:=fun e=>hj (yH hN e1 (e▸hi));simp [this,e]
    ·exact .inr ⟨k,c,e,z.sameBut hs (R0 y c e)⟩
  ·obtain ⟨w',z⟩:=I.cell y c e
   exact ⟨w',z.sameBut hs (R0 y c e)⟩
  ·obtain ⟨e,n,ne,nf,d⟩:=I.pin p hp
   exact ⟨(hs.2 p.1 ne).trans e,n,ne,nf,d⟩
 ·have hfn:X.fn x=true:=by
   rcases hf with z|z
   ·exact z
   ·rw [z] at hk;cases hk
  obtain ⟨c,hc⟩:=I.ok.has x (.inl hk);obtain ⟨w',z⟩:=I.cell x c hc;refine wpAny_storeName_cell I.ok.kind hk hc z (fun h' hc' hs=> ?_);obtain ⟨oc,hoc,ab_⟩:=id z;refine h {s with heap:=h'} ⟨I.ok,I.os,I.bare,⟨fun b o e n hb hx=> ?_,fun b o e n hb hx=> ?_,I.base.free,fun b o e hx=> ?_,I.base.tups,I.base.sJ,I.base.uo⟩,⟨m,hn.sameBut hs (Ne.symm (R0 x c hc)),fun j y v' e1 e2 e3=> ?_⟩,fun y c' e=> ?_,I.free,I.mJ,fun p hp=> ?_,tracked ⟨oc,hoc,I.mJ x c hc⟩ hs,by simpa using I.len⟩ ⟨c,hs,.inr hc⟩
  ·exact (hs.2 b (Nat.ne_of_lt (Nat.lt_of_lt_of_le (Heap.lt_size e) (I.ok.cab x c hfn hc)))).trans (I.base.keep b o e n hb hx)
  ·obtain ⟨sl,e1⟩:=I.base.slot b o e n hb hx
   exact ⟨sl,(hs.2 b (Nat.ne_of_lt (Nat.lt_of_lt_of_le (Heap.lt_size e) (I.ok.cab x c hfn hc)))).trans e1⟩
  ·obtain ⟨o',e1⟩:=I.base.there b o e hx
   exact ⟨o',(hs.2 b (Nat.ne_of_lt (Nat.lt_of_lt_of_le (Heap.lt_size e) (I.ok.cab x c hfn hc)))).trans e1⟩
  ·by_cases hj:j=i
   ·subst hj
    rw [hi] at e1;cases e1;rw [List.getElem?_set_self ae5] at e2;cases e2;exact ⟨u,r,.inr ⟨.inl hk,c,hc,hc'⟩⟩
   ·rw [List.getElem?_set_ne (Ne.symm hj)] at e2
    obtain ⟨u',r',q⟩:=hl j y v' e1 e2 e3;refine ⟨u',r', ?_⟩;rcases q with q|⟨k,c',e,z'⟩
    ·exact .inl q
    ·refine .inr ⟨k,c',e,z'.sameBut hs ?_⟩
     rintro rfl;exact hj (yH hN e1 (I.ok.inj _ _ _ e hc▸hi))
  ·by_cases hcc:c'=c
   ·subst hcc;exact ⟨_,hc'⟩
   ·obtain ⟨w2,z2⟩:=I.cell y c' e
    exact ⟨w2,z2.sameBut hs hcc⟩
  ·obtain ⟨e,n,ne,nf,d⟩:=I.pin p hp
   refine ⟨(hs.2 p.1 ?_).trans e,n,ne,nf,d⟩;intro q;rw [q,hoc] at e;have q':oc=p.2:=Option.some.inj e;exact d w' (by rw [←q'];exact ab_)
theorem yh {M:Model} {A:Around} {E:Value->Shared->Prop} {i:Nat} {x:Str} {v:V} {u:Value} {Q:Unit->Shared->Prop} (I:Inv X pins σ H s) (hN:X.N.Nodup) (hi:X.N[i]? = some x) (hx:Loc X.env.scope x) (r:RelV v u)
 (h:∀s',Inv X pins (σ.set i (some v)) H s'->Q () s') (hf:X.fn x=true\/X.env.scope.names.lookup x=some .local:=by first |exact .inl rfl|exact .inr rfl|assumption):wpAny M A (storeName X.env x u) Q E s:=
 uJ I hN hi hx r (fun s' I' _=>h s' I') hf
theorem Inv.call' {s':Shared} {ch:List Addr} (I:Inv X pins σ H s) (ho:s'.os=s.os) (u:Un (frs X.stack) ch H H' s.heap s'.heap) (hok:j_ X.prog X.w H' s'.heap) (hg:AllBare s'.gens)
 (hch:∀b∈ch,(b∈X.ex\/X.s₀.heap.objs.size<=b)/\b≠X.env.locals/\(∀x c,X.env.cells.lookup x=some c->c≠b) /\ ∀p∈X.pn++pins,p.1≠b):Inv X pins σ H' s':=by
 obtain ⟨h',g',d',t',o'⟩:=s';have e:o'=s.os:=ho;subst e;exact I.call (g':=g') (t':=t') (d':=d') u hok hg hch
end
abbrev XK:=Value->Option Addr->Hp->Prop
abbrev St:=List (Option V)
abbrev VK:=V->Hp->Prop
abbrev TE:=St->Hp->VK->Prop
abbrev TT:=St->Hp->(Bool->Hp->Prop)->Prop
abbrev TA:=St->Hp->(List V->Hp->Prop)->Prop
structure Ends where
 nx:St->Hp->Prop
 rt:VK
 bk:St->Hp->Prop:=fun _ _=>False
 ct:St->Hp->Prop:=fun _ _=>False
abbrev TS:=Ends->St->Hp->Prop
def EP (X:Cx) (pins:List (Addr×Obj)) (σ:St) (Q:VK) (u:Value) (s':Shared):Prop:=∃v H',Inv X pins σ H' s'/\RelV v u/\Q v H'
def TP (X:Cx) (pins:List (Addr×Obj)) (σ:St) (Q:Bool->Hp->Prop) (b:Bool) (s':Shared):Prop:=∃H',Inv X pins σ H' s'/\Q b H'
def AP (X:Cx) (pins:List (Addr×Obj)) (σ:St) (Q:List V->Hp->Prop) (us:List Value) (s':Shared):Prop:=∃vs H',Inv X pins σ H' s'/\Vals vs us/\Q vs H'
def SP (X:Cx) (pins:List (Addr×Obj)) (D:Ends) (f:Flow) (s':Shared):Prop:=
 match f with
 | .next=>∃σ' H',Inv X pins σ' H' s'/\D.nx σ' H'
 | .brk=>∃σ' H',Inv X pins σ' H' s'/\D.bk σ' H'
 | .cont=>∃σ' H',Inv X pins σ' H' s'/\D.ct σ' H'
 | .ret u=>∃v σ' H',Inv X pins σ' H' s'/\RelV v u/\D.rt v H'
def PE (X:Cx) (e:Expr) (t:TE):Prop:=
 ∀(pins:List (Addr×Obj)) (s:Shared) (σ:St) (H:Hp) (Q:VK),Inv X pins σ H s->t σ H Q->wpAny (model X.prog X.w) X.A (eval e X.env) (EP X pins σ Q) X.xe s
def PT (X:Cx) (e:Expr) (t:TT):Prop:=
 ∀(pins:List (Addr×Obj)) (s:Shared) (σ:St) (H:Hp) (Q:Bool->Hp->Prop),Inv X pins σ H s->t σ H Q->wpAny (model X.prog X.w) X.A (isTrue e X.env (eval e X.env)) (TP X pins σ Q) X.xe s
def PW (X:Cx) (e:Expr) (t:TT):Prop:=
 ∀(whole:Sem Value) (pins:List (Addr×Obj)) (s:Shared) (σ:St) (H:Hp) (Q:Bool->Hp->Prop),Inv X pins σ H s->t σ H Q->wpAny (model X.prog X.w) X.A (isTrue e X.env whole) (TP X pins σ Q) X.xe s
theorem PW.pt {X:Cx} {e:Expr} {t:TT} (h:PW X e t):PT X e t:=h _
def PA (X:Cx) (es:List Expr) (t:TA):Prop:=
 ∀(pos:Pos) (pins:List (Addr×Obj)) (s:Shared) (σ:St) (H:Hp) (Q:List V->Hp->Prop),Inv X pins σ H s->t σ H Q->wpAny (model X.prog X.w) X.A (spliced (backTo pos (starEach es X.env))) (AP X pins σ Q) X.xe s
def PS (X:Cx) (st:Stmt) (t:TS):Prop:=
 ∀(pins:List (Addr×Obj)) (s:Shared) (σ:St) (H:Hp) (D:Ends),Inv X pins σ H s->t D σ H->wpAny (model X.prog X.w) X.A (exec st X.env) (SP X pins D) X.xe s
def DX (X:Cx) (st:List Stmt) (t:TS):Prop:=
 ∀(pins:List (Addr×Obj)) (s:Shared) (σ:St) (H:Hp) (D:Ends),Inv X pins σ H s->t D σ H->wpAny (model X.prog X.w) X.A (execs st X.env) (SP X pins D) X.xe s
theorem cR {α:Type} {t:Sem α} {Q Q':α->Shared->Prop} {M:Model} {A:Around} {E:Value->Shared->Prop} {s:Shared} (h:wpAny M A t Q E s) (hQ:∀a s,Q a s->Q' a s):wpAny M A t Q' E s:=wpAny_mono h hQ fun _ _ x=>x
end L2
namespace L2
open PySem PySem.Spec PyProof.Rows
section
variable {X:Cx}
def jm (i:Nat):TE:=fun σ H Q=>∃v,σ[i]? = some (some v)/\Q v H
def tC (v:V):TE:=fun _ H Q=>Q v H
theorem Qy {i:Nat} {x:Str} {pos:Pos} (hN:X.N[i]? = some x) (hv:Vis X.env.scope x) (hd:(x==("__debug__" :Str))=false:=by decide) (hcd:(x==("__classdict__" :Str))=false:=by decide):PE X (.Name x pos) (jm i):=by
 intro pins s σ H Q I h;obtain ⟨v,e,h⟩:=h;obtain ⟨m,hn,hl⟩:=I.loc;obtain ⟨u,r,l⟩:=hl i x v hN e hv;have fin:EP X pins σ Q u s:=⟨v,H,I,r,h⟩;rcases l with ⟨hk,hm⟩|⟨hk,c,hc,hcell⟩
 ·exact wpAny_Name (wpAny_loadName_local I.ok.kind hk hn hm fin) hd
 ·rcases hk with hk|hk
  ·exact wpAny_Name (wpAny_loadName_cell I.ok.kind hk hc hcell fin) hd
  ·exact wpAny_Name (wpAny_loadName_free I.ok.kind hk hc hcell fin hcd) hd
theorem au {i j pos}:PE X (.Constant (.int i) j pos) (tC (.int i)):=fun _ _ _ H _ I h=>wpAny_Constant_int ⟨.int i,H,I.tok _,⟨_,rfl⟩,h⟩
theorem iy {b j pos}:PE X (.Constant (.bool b) j pos) (tC (.bl b)):=fun _ _ _ H _ I h=>Constant_bool ⟨.bl b,H,I,rfl,h⟩
theorem wj {j pos}:PE X (.Constant .none j pos) (tC .non):=fun _ _ _ H _ I h=>Constant_none ⟨.non,H,I,rfl,h⟩
theorem gP {x j pos}:PE X (.Constant (.str x) j pos) (tC (.str x)):=fun _ _ _ H _ I h=>Calls.Constant_str ⟨.str x,H,I.tok _,⟨_,rfl⟩,h⟩
def Gl (X:Cx) (x:Str):Prop:=X.env.kindOf x=some .globalImplicit
theorem Ms {E:Value->Shared->Prop} {pins:List (Addr×Obj)} {s:Shared} {σ:St} {H:Hp} {x:Str} {u:Value} {pos:Pos} {Q:Value->Shared->Prop} (I:Inv X pins σ H s) (hg:Gl X x) (hm:X.mg x=some u) (h:Q u s)
 (hd:(x==("__debug__" :Str))=false:=by decide):wpAny (model X.prog X.w) X.A (eval (.Name x pos) X.env) Q E s:=
 Calls.Name_function_global I.ok.kind hg (Calls.loadGlobal_global (by rw [I.ok.glob];exact I.mod.glob.keeps I.bk) hm h) hd
theorem lu {E:Value->Shared->Prop} {pins:List (Addr×Obj)} {s:Shared} {σ:St} {H:Hp} {x:Str} {u:Value} {pos:Pos} {Q:Value->Shared->Prop} (I:Inv X pins σ H s) (hg:Gl X x) (hm:X.mg x=none) (hv:bootBuiltins x=some u) (h:Q u s)
 (hn:x ≠ "__name__" :=by decide) (hd:(x==("__debug__" :Str))=false:=by decide):wpAny (model X.prog X.w) X.A (eval (.Name x pos) X.env) Q E s:=by
 obtain ⟨mb,h1,h2⟩:=I.mod.blt;exact Calls.Name_function_global I.ok.kind hg (Calls.loadGlobal_builtin (by rw [I.ok.glob];exact I.mod.glob.keeps I.bk) hm (by rw [I.ok.blt];exact h1.keeps I.bk) ((h2 x hn).trans hv) h) hd
theorem nM {x:Str} {v:V} {u:Value} {pos:Pos} (hg:Gl X x) (hm:X.mg x=none) (hv:bootBuiltins x=some u) (r:RelV v u) (hn:x ≠ "__name__" :=by decide) (hd:(x==("__debug__" :Str))=false:=by decide):PE X (.Name x pos) (tC v):=
 fun _ _ _ H _ I h=>lu I hg hm hv ⟨v,H,I,r,h⟩ hn hd
variable {a b:Expr} {ta tb:TE} {pos:Pos}
def PC (X:Cx) (op:CmpOp) (a b:Expr) (t:TE):Prop:=
 ∀(pins:List (Addr×Obj)) (s:Shared) (σ:St) (H:Hp) (Q:VK),Inv X pins σ H s->t σ H Q ->
  wpAny (model X.prog X.w) X.A (eval a X.env) (fun v s₁=>wpAny (model X.prog X.w) X.A (eval b X.env) (fun u s₂=>wpAny (model X.prog X.w) X.A (compareOp op v u) (EP X pins σ Q) X.xe s₂) X.xe s₁) X.xe s
theorem I_ (b:Expr) {op:CmpOp} (h:op ≠ .In) (h2:op ≠ .NotIn):behindInMarks op b=false:=by
 have e1:(op==CmpOp.In)=false:=by cases op<;>first |rfl|exact absurd rfl h
 have e2:(op==CmpOp.NotIn)=false:=by cases op<;>first |rfl|exact absurd rfl h2
 cases b<;>simp [behindInMarks,e1,e2]
def tB (t:TE):TT:=fun σ H Q=>t σ H fun x H1=>∃c,x = .bl c/\Q c H1
theorem HS {op:CmpOp} {t:TE} (h:PC X op a b t) (h1:behindInMarks op b=false:=by first |exact I_ _ (by decide) (by decide)|rfl):PT X (.Compare a [op] [b] pos) (tB t):=by
 intro pins s σ H Q I hw;refine wpAny_isTrue_Compare1 (cR (h pins s σ H _ I hw) fun v s1 h1=>cR h1 fun u s2 h2=>cR h2 fun c s3 ⟨x,H1,I1,r1,q1⟩=> ?_) h1;obtain ⟨d,rfl,q⟩:=q1;cases r1;exact wpAny_truthy_bool ⟨H1,I1,q⟩
theorem fu {e:Expr} {t:TE} (h:PE X e t) (he:∀whole,isTrue e X.env whole=(do let v ←whole;standAt e.pos;holding [v] (truthy v)):=by intro _;rfl):PT X e (tB t):=by
 intro pins s σ H Q I hw;refine isTrue_plain (cR (h pins s σ H _ I hw) fun v s1 ⟨x,H1,I1,r1,q1⟩=> ?_) (he _);obtain ⟨d,rfl,q⟩:=q1;cases r1;exact wpAny_truthy_bool ⟨H1,I1,q⟩
variable {tA Xp:TT} {rest:List Expr}
def Y8 (t u:TT):TT:=fun σ H Q=>t σ H fun c H1=>if c=true then u σ H1 Q else Q false H1
def tOr (t u:TT):TT:=fun σ H Q=>t σ H fun c H1=>if c=true then Q true H1 else u σ H1 Q
def Y5 (t:TT):TT:=fun σ H Q=>t σ H fun c H1=>Q (!c) H1
theorem qK (ha:PT X a tA):PW X (.BoolOp .And [a] pos) tA:=by
 intro wh pins s σ H Q I h;refine isTrue_and (cR (ha pins s σ H Q I h) fun c s1 e=> ?_);cases c with
 | true=>exact isTrue_and_nil e
 | false=>exact e
theorem jR (ha:PT X a tA):PW X (.BoolOp .Or [a] pos) tA:=by
 intro wh pins s σ H Q I h;refine isTrue_or (cR (ha pins s σ H Q I h) fun c s1 e=> ?_);cases c with
 | false=>exact isTrue_or_nil e
 | true=>exact e
theorem vX (ha:PT X a tA) (hb:PW X (.BoolOp .And (b::rest) pos) Xp):PW X (.BoolOp .And (a::b::rest) pos) (Y8 tA Xp):=by
 intro wh pins s σ H Q I h;refine isTrue_and (cR (ha pins s σ H _ I h) fun c s1 ⟨H1,I1,q1⟩=> ?_);cases c with
 | true=>exact hb wh pins s1 σ H1 Q I1 q1
 | false=>exact ⟨H1,I1,q1⟩
theorem j7 (ha:PT X a tA) (hb:PW X (.BoolOp .Or (b::rest) pos) Xp):PW X (.BoolOp .Or (a::b::rest) pos) (tOr tA Xp):=by
 intro wh pins s σ H Q I h;refine isTrue_or (cR (ha pins s σ H _ I h) fun c s1 ⟨H1,I1,q1⟩=> ?_);cases c with
 | true=>exact ⟨H1,I1,q1⟩
 | false=>exact hb wh pins s1 σ H1 Q I1 q1
theorem gO (ha:PT X a tA):PT X (.UnaryOp .Not a pos) (Y5 tA):=by
 intro pins s σ H Q I h;exact isTrue_not (ha pins s σ H (fun c H1=>Q (!c) H1) I h)
def Uc (ta tb:TE):TE:=fun σ H Q=>ta σ H fun x H1=>∃c,x = .bl c/\if c=true then tb σ H1 Q else Q (.bl false) H1
def TY (ta tb:TE):TE:=fun σ H Q=>ta σ H fun x H1=>∃c,x = .bl c/\if c=true then Q (.bl true) H1 else tb σ H1 Q
def T6 (ta:TE):TE:=fun σ H Q=>ta σ H fun x H1=>∃c,x = .bl c/\Q (.bl (!c)) H1
theorem mV {op} {t:TE} (h:PE X a t):PE X (.BoolOp op [a] pos) t:=fun pins s σ H Q I hw=>BoolOp_one (h pins s σ H Q I hw)
theorem oY (ha:PE X a ta) (hb:PE X (.BoolOp .And (b::rest) pos) tb):PE X (.BoolOp .And (a::b::rest) pos) (Uc ta tb):=by
 intro pins s σ H Q I h;refine BoolOp_and (cR (ha pins s σ H _ I h) fun v s1 ⟨x,H1,I1,r1,q1⟩=> ?_);obtain ⟨c,rfl,q1⟩:=q1;cases r1;refine wpAny_truthy_bool ?_;cases c with
 | true=>exact hb pins s1 σ H1 Q I1 q1
 | false=>exact ⟨.bl false,H1,I1,rfl,q1⟩
theorem Oj (ha:PE X a ta) (hb:PE X (.BoolOp .Or (b::rest) pos) tb):PE X (.BoolOp .Or (a::b::rest) pos) (TY ta tb):=by
 intro pins s σ H Q I h;refine BoolOp_or (cR (ha pins s σ H _ I h) fun v s1 ⟨x,H1,I1,r1,q1⟩=> ?_);obtain ⟨c,rfl,q1⟩:=q1;cases r1;refine wpAny_truthy_bool ?_;cases c with
 | false=>exact hb pins s1 σ H1 Q I1 q1
 | true=>exact ⟨.bl true,H1,I1,rfl,q1⟩
theorem Qz (ha:PE X a ta):PE X (.UnaryOp .Not a pos) (T6 ta):=by
 intro pins s σ H Q I h;refine UnaryOp_ (cR (ha pins s σ H _ I h) fun v s1 ⟨x,H1,I1,r1,q1⟩=> ?_);obtain ⟨c,rfl,q1⟩:=q1;cases r1;exact not_of (wpAny_truthy_bool ⟨.bl (!c),H1,I1,rfl,q1⟩)
end
end L2
namespace L2
open PySem PySem.Spec PyProof.Rows
def aV (K:PySem.W.Frag) (H:Hp) (a:Addr) (xs:List V):Prop:=
 Rd H a (.lst xs) \/
  ∃(o:Obj) (its:Array Value) (n:Nat),K.lookup a=some o/\o.cls = .type "list" /\ o.dict=none/\o.data = .seq its n/\its.size<=sizeLine/\Vals xs its.toList
def bZ (K:PySem.W.Frag) (H:Hp) (a:Addr) (xs:List V):Prop:=
 Rd H a (.tup xs) \/
  ∃(o:Obj) (its:Array Value) (n:Nat),K.lookup a=some o/\o.cls = .type "tuple" /\ o.data = .seq its n/\its.size<=sizeLine/\Vals xs its.toList
def adQ:Value->Option V
 | .none=>some .non
 | .bool b=>some (.bl b)
 | .int i _=>some (.int i)
 | .str x _=>some (.str x)
 | .bytes b _=>some (.z9 b)
 | .float b _=>some (.flt b)
 | .ref a=>some (.ref a)
 | .type n=>some (.ty n)
 | _=>none
theorem RelV.abs {x:V} {u:Value} (r:RelV x u):adQ u=some x:=by
 cases x with
 | non=>cases r;rfl
 | bl _=>cases r;rfl
 | int _=>obtain ⟨t,rfl⟩:=r;rfl
 | str _=>obtain ⟨t,rfl⟩:=r;rfl
 | z9 _=>obtain ⟨t,rfl⟩:=r;rfl
 | flt _=>obtain ⟨t,rfl⟩:=r;rfl
 | ref _=>cases r;rfl
 | ty _=>cases r;rfl
theorem RelV.inj {x y:V} {u:Value} (r:RelV x u) (q:RelV y u):x=y:=Option.some.inj (r.abs.symm.trans q.abs)
theorem Vals.inj {xs ys:List V} {us:List Value} (h:Vals xs us) (h':Vals ys us):xs=ys:=by
 induction h generalizing ys with
 | nil=>cases h';rfl
 | cons r t ih=>cases h' with
   | cons r' t'=>rw [r.inj r',ih t']
section
variable {X:Cx} {pins:List (Addr×Obj)} {σ:St} {H:Hp} {s:Shared} {a:Addr} {xs ys:List V}
theorem aV.of {K:PySem.W.Frag} (h:H a=some (.lst xs)):aV K H a xs:= .inl (.inl h)
theorem bZ.of {K:PySem.W.Frag} (h:H a=some (.tup xs)):bZ K H a xs:= .inl (.inl h)
theorem Inv.list (I:Inv X pins σ H s) (h:aV X.K H a xs):∃its:List Value,Vals xs its/\PlainL s.heap a its.toArray/\xs.length<=sizeLine:=by
 rcases h with h|⟨o,its,n,hk,hc,hd,hs,hz,r⟩
 ·obtain ⟨z,its,n,r,e⟩:=h.ok I.hok
  exact ⟨its,r,⟨_,n,e,rfl,rfl,rfl⟩,z⟩
 ·refine ⟨its.toList,r,⟨o,n,I.xR a o hk,hc,hd,by simpa using hs⟩, ?_⟩
  have e:=r.length;simp only [Array.length_toList] at e;omega
theorem Inv.tuple (I:Inv X pins σ H s) (h:bZ X.K H a xs):∃its:List Value,Vals xs its/\IsTup s.heap a its.toArray/\xs.length<=sizeLine:=by
 rcases h with h|⟨o,its,n,hk,hc,hs,hz,r⟩
 ·obtain ⟨z,its,r,p⟩:=h.ok I.hok
  exact ⟨its,r,p,z⟩
 ·refine ⟨its.toList,r,⟨o,I.xR a o hk,hc,n,by simpa using hs⟩, ?_⟩
  have e:=r.length;simp only [Array.length_toList] at e;omega
theorem Inv.nT (I:Inv X pins σ H s) (h:aV X.K H a xs) (h':aV X.K H a ys):xs=ys:=by
 obtain ⟨its,r,⟨o,n,e,_,_,d⟩,_⟩:=I.list h;obtain ⟨its',r',⟨o',n',e',_,_,d'⟩,_⟩:=I.list h';rw [e] at e';cases e';rw [d] at d';injection d' with d1 _
 have:its=its':=by simpa using congrArg Array.toList d1
 subst this;exact r.inj r'
theorem Inv.Ef (I:Inv X pins σ H s) (h:bZ X.K H a xs) (h':bZ X.K H a ys):xs=ys:=by
 obtain ⟨its,r,⟨o,e,_,n,d⟩,_⟩:=I.tuple h;obtain ⟨its',r',⟨o',e',_,n',d'⟩,_⟩:=I.tuple h';rw [e] at e';cases e';rw [d] at d';injection d' with d1 _
 have:its=its':=by simpa using congrArg Array.toList d1
 subst this;exact r.inj r'
end
abbrev Cx.wish (X:Cx) (E:Value->Shared->Prop):Cx:={X with xe:=E}
abbrev Cx.Q5 (X:Cx):Cx:=X.wish fun _ _=>False
theorem Cx.Ok.wish {X:Cx} (ok:X.Ok) (E:Value->Shared->Prop):(X.wish E).Ok:=
 ⟨ok.mod,ok.kind,ok.glob,ok.blt,ok.above,ok.inj,ok.has,ok.cab,ok.hd,ok.frames,ok.stk,ok.exf,ok.bs,ok.Nr,ok.IV,ok.Nb,ok.qt,ok.RM⟩
theorem Cx.Ok.kI {X:Cx} {E:Value->Shared->Prop} (ok:(X.wish E).Ok):X.Ok:=
 ⟨ok.mod,ok.kind,ok.glob,ok.blt,ok.above,ok.inj,ok.has,ok.cab,ok.hd,ok.frames,ok.stk,ok.exf,ok.bs,ok.Nr,ok.IV,ok.Nb,ok.qt,ok.RM⟩
section
variable {X:Cx} {pins:List (Addr×Obj)} {σ:St} {H:Hp} {s:Shared} {E:Value->Shared->Prop}
theorem Inv.wish (I:Inv X pins σ H s) (E:Value->Shared->Prop):Inv (X.wish E) pins σ H s:=⟨I.ok.wish E,I.os,I.bare,I.base,I.loc,I.cell,I.free,I.mJ,I.pin,I.hok,I.len⟩
theorem Inv.kI (I:Inv (X.wish E) pins σ H s):Inv X pins σ H s:=⟨I.ok.kI,I.os,I.bare,I.base,I.loc,I.cell,I.free,I.mJ,I.pin,I.hok,I.len⟩
theorem SP.kI {D:Ends} {f:Flow} {s':Shared} (h:SP (X.wish E) pins D f s'):SP X pins D f s':=by
 cases f with
 | next=>obtain ⟨σ',H',I,q⟩:=h;exact ⟨σ',H',I.kI,q⟩
 | brk=>obtain ⟨σ',H',I,q⟩:=h;exact ⟨σ',H',I.kI,q⟩
 | cont=>obtain ⟨σ',H',I,q⟩:=h;exact ⟨σ',H',I.kI,q⟩
 | ret u=>obtain ⟨v,σ',H',I,r,q⟩:=h;exact ⟨v,σ',H',I.kI,r,q⟩
theorem DX.Q5 {st:List Stmt} {t:TS} (h:DX X.Q5 st t):DX X st t:=fun pins s σ H D I hw=>
 wpAny_mono (h pins s σ H D (I.wish _) hw) (fun _ _ q=>q.kI) fun _ _ z=>False.elim z
end
section
variable {X:Cx} {st:Stmt} {rest:List Stmt} {t u:TS} {e:Expr} {te:TE} {pos:Pos}
def Od:TS:=fun D σ H=>D.nx σ H
def yd (t u:TS):TS:=fun D σ H=>t {D with nx:=u D} σ H
theorem bO:DX X [] Od:=fun _ _ σ H _ I h=>wpAny_execs_nil ⟨σ,H,I,h⟩
theorem aA (h1:PS X st t) (h2:DX X rest u):DX X (st::rest) (yd t u):=by
 intro pins s σ H D I h;refine wpAny_execs_cons (cR (h1 pins s σ H {D with nx:=u D} I h) fun f s1 q=> ?_);cases f with
 | next=>
   obtain ⟨σ',H',I',q⟩:=q;exact h2 pins s1 σ' H' D I' q
 | ret v=>exact q
 | brk=>exact q
 | cont=>exact q
theorem aG (h1:PS X st t):DX X [st] t:=by
 intro pins s σ H D I h;refine wpAny_execs_cons (cR (h1 pins s σ H D I h) fun f s1 q=> ?_);cases f with
 | next=>exact wpAny_execs_nil q
 | ret v=>exact q
 | brk=>exact q
 | cont=>exact q
theorem Inv.quiet {pins:List (Addr×Obj)} {σ:St} {H:Hp} {s:Shared} (I:Inv X pins σ H s):interactive X.env=false:=by simp [interactive,I.ok.kind]
def G5 (te:TE):TS:=fun D σ H=>te σ H fun _ H1=>D.nx σ H1
theorem jV (he:PE X e te) (hs:swapsWith e none pos.line X.env=pure false:=by rfl):PS X (.Expr e pos) (G5 te):=by
 intro pins s σ H D I h;exact wpAny_Expr_any (cR (he pins s σ H _ I h) fun v s1 ⟨x,H1,I1,r1,q1⟩=>⟨σ,H1,I1,q1⟩) I.quiet hs
def K9 (te:TE):TS:=fun D σ H=>te σ H D.rt
theorem aW (he:PE X e te):PS X (.Return (some e) pos) (K9 te):=by
 intro pins s σ H D I h;exact wpAny_Return_some (cR (he pins s σ H _ I h) fun v s1 ⟨x,H1,I1,r1,q1⟩=>⟨x,σ,H1,I1,r1,q1⟩)
def T9 (c:TT) (t u:TS):TS:=fun D σ H=>c σ H fun b H1=>if b=true then t D σ H1 else u D σ H1
theorem dX {c:Expr} {a b:List Stmt} {tc:TT} (hc:PT X c tc) (ha:DX X a t) (hb:DX X b u):PS X (.If c a b pos) (T9 tc t u):=by
 intro pins s σ H D I h;refine wpAny_If (cR (hc pins s σ H _ I h) fun d s1 ⟨H1,I1,q1⟩=> ?_);cases d with
 | true=>exact ha pins s1 σ H1 D I1 q1
 | false=>exact hb pins s1 σ H1 D I1 q1
def Qc:TS:=fun _ _ _=>False
theorem yC:PS X st Qc:=fun _ _ _ _ _ _ h=>h.elim
end
abbrev TG:=V->St->Hp->(St->Hp->Prop)->Prop
abbrev Ph:=List V->St->Hp->(St->Hp->Prop)->Prop
def PG (X:Cx) (target:Expr) (t:TG):Prop:=
 ∀(pins:List (Addr×Obj)) (s:Shared) (σ:St) (H:Hp) (v:V) (u:Value) (Q:St->Hp->Prop),Inv X pins σ H s->RelV v u->t v σ H Q ->
  wpAny (model X.prog X.w) X.A (assign target X.env u) (fun _ s'=>∃σ' H',Inv X pins σ' H' s'/\Q σ' H') X.xe s
def Xc (X:Cx) (ts:List Expr) (t:Ph):Prop:=
 ∀(pins:List (Addr×Obj)) (s:Shared) (σ:St) (H:Hp) (vs:List V) (us:List Value) (Q:St->Hp->Prop),Inv X pins σ H s->Vals vs us->t vs σ H Q ->
  wpAny (model X.prog X.w) X.A (assignInOrder ((assignEach ts X.env).map (·.2)) us) (fun _ s'=>∃σ' H',Inv X pins σ' H' s'/\Q σ' H') X.xe s
abbrev Sq:=V->V->V->Hp->(Hp->Prop)->Prop
def Xb (X:Cx) (t:Sq):Prop:=
 ∀(pins:List (Addr×Obj)) (s:Shared) (σ:St) (H:Hp) (o i v:V) (ov iv u:Value) (Q:Hp->Prop),Inv X pins σ H s->RelV o ov->RelV i iv->RelV v u->t o i v H Q ->
  wpAny (model X.prog X.w) X.A (setItem ov iv u) (fun _ s'=>∃H',Inv X pins σ H' s'/\Q H') X.xe s
section
variable {X:Cx} {pos:Pos}
def j9 (i:Nat):TG:=fun v σ H Q=>Q (σ.set i (some v)) H
theorem aX {i:Nat} {x:Str} (hN:X.N.Nodup) (hi:X.N[i]? = some x) (hx:Loc X.env.scope x) (hf:X.fn x=true\/X.env.scope.names.lookup x=some .local:=by first |exact .inl rfl|exact .inr rfl|assumption):PG X (.Name x pos) (j9 i):=by
 intro pins s σ H v u Q I r h;exact wpAny_assign_Name (yh I hN hi hx r (fun s' I'=>⟨_,H,I',h⟩) hf)
def acq:Ph:=fun vs σ H Q=>vs=[]/\Q σ H
def V1 (t:TG) (u:Ph):Ph:=fun vs σ H Q=>∃v r,vs=v::r/\t v σ H fun σ' H'=>u r σ' H' Q
theorem v8:Xc X [] acq:=by
 intro pins s σ H vs us Q I r h;obtain ⟨e,h⟩:=h;subst e;cases r;exact assignInOrder_nil ⟨σ,H,I,h⟩
theorem jg {e:Expr} {es:List Expr} {t:TG} {u:Ph} (h1:PG X e t) (h2:Xc X es u)
 (hs:(assignEach (e::es) X.env).map (·.2)=assign e X.env::(assignEach es X.env).map (·.2):=by rfl):Xc X (e::es) (V1 t u):=by
 intro pins s σ H vs us Q I r h;obtain ⟨v,vr,e1,h⟩:=h;subst e1;cases r with
 | cons r rr=>
   rw [hs];refine assignInOrder_cons (cR (h1 pins s σ H _ _ _ I r h) fun _ s1 ⟨σ1,H1,I1,q1⟩=> ?_);exact h2 pins s1 σ1 H1 _ _ Q I1 rr q1
def VR (K:PySem.W.Frag) (n:Nat) (t:Ph):TG:=fun v σ H Q=>∃a xs,v = .ref a/\bZ K H a xs/\xs.length=n/\t xs σ H Q
theorem Qx {es:List Expr} {k:Nat} {t:Ph} {n:Nat} (hc:X.calm=true) (h:Xc X es t)
 (hn:(assignEach es X.env).length=n:=by rfl) (hst:(assignEach es X.env).findIdx? (·.1)=none:=by rfl):PG X (.Tuple es k pos) (VR X.K n t):=by
 intro pins s σ H v u Q I r hw;obtain ⟨a,xs,e1,hq,hl,hw⟩:=hw;subst e1;cases r;obtain ⟨its,rv,ht,hz⟩:=I.tuple hq;refine assign_Tuple_tuple (I.ok.hd hc) ht (by simp [hn,←hl,rv.length]) hst fun h' hx=> ?_;have I1:Inv X pins σ H {s with heap:=h'}:=I.kept (t':=s.toks) fun b o e=>hx b o (Nat.ne_of_lt (Heap.lt_size e)) e;exact h pins _ σ H xs _ Q I1 (by simpa using rv) hw
def acp (to ti:TE) (t:Sq):TG:=fun v σ H Q=>to σ H fun o H1=>ti σ H1 fun i H2=>t o i v H2 fun H3=>Q σ H3
theorem wg {o i:Expr} {to ti:TE} {t:Sq} (ho:PE X o to) (hi:PE X i ti) (hs:Xb X t)
 (ha:∀v,assign (.Subscript o i pos) X.env v=(do
   let ov ←holding [v] (eval o X.env)
   let iv ←holding [v,ov] (eval i X.env)
   standAt pos
   holding [v,ov,iv] (setItem ov iv v)
   release [v,ov,iv] []):=by intro _;rfl):PG X (.Subscript o i pos) (acp to ti t):=by
 intro pins s σ H v u Q I r h;rw [ha];refine wpAny_bind (wpAny_holding (cR (ho pins s σ H _ I h) fun ov s1 ⟨x,H1,I1,r1,q1⟩=> ?_));refine wpAny_bind (wpAny_holding (cR (hi pins s1 σ H1 _ I1 q1) fun iv s2 ⟨y,H2,I2,r2,q2⟩=> ?_));refine wpAny_bind (wpAny_standAt (wpAny_bind (wpAny_holding (cR (hs pins s2 σ H2 x y v ov iv u _ I2 r1 r2 r q2) fun _ s3 ⟨H3,I3,q3⟩=> ?_))));exact wpAny_release ⟨σ,H3,I3,q3⟩
def Eh (te:TE) (g:TG):TS:=fun D σ H=>te σ H fun x H1=>g x σ H1 D.nx
theorem vZ {tg e:Expr} {te:TE} {g:TG} (he:PE X e te) (hg:PG X tg g) (hs:swapsWithSole [tg] e pos.line X.env=pure false:=by rfl) (hw:swappedStores [tg] e X.env=pure none:=by rfl)
 (h1:(assignEach [tg] X.env).map (·.2)=[assign tg X.env]:=by rfl):PS X (.Assign [tg] e pos) (Eh te g):=by
 intro pins s σ H D I h;refine wpAny_Assign_stores (cR (he pins s σ H _ I h) fun v s1 ⟨x,H1,I1,r1,q1⟩=> ?_) hs hw;rw [h1];exact cR (hg pins s1 σ H1 x v _ I1 r1 q1) fun _ s2 q=>q
theorem aP {i:Nat} {x:Str} {e:Expr} {te:TE} {pos':Pos} (hN:X.N.Nodup) (hi:X.N[i]? = some x) (hx:Loc X.env.scope x) (he:PE X e te) (hs:swapsWith e (some (.Name x pos')) pos.line X.env=pure false:=by rfl) (hf:X.fn x=true\/X.env.scope.names.lookup x=some .local:=by first |exact .inl rfl|exact .inr rfl|assumption):
 PS X (.Assign [.Name x pos'] e pos) (Eh te (j9 i)):=by
 intro pins s σ H D I h;refine wpAny_Assign_Name (cR (he pins s σ H _ I h) fun v s1 ⟨y,H1,I1,r1,q1⟩=> ?_) hs;exact yh I1 hN hi hx r1 (fun s2 I2=>⟨_,H1,I2,q1⟩) hf
end
section
variable {X:Cx} {pos:Pos}
def P_ (c:TT) (tb:TS):TS:=fun D σ H=>∃W:Nat->St->Hp->Prop,(∃m,W m σ H) /\ ∀m σ H,W m σ H ->
 c σ H fun b H1=>if b=true then ∃N:St->Hp->Prop,(∀σ' H',N σ' H' -> ∃m',m'<m/\W m' σ' H')/\tb {D with nx:=N,ct:=N,bk:=D.nx} σ H1 else D.nx σ H1
theorem HW {c:Expr} {body:List Stmt} {tc:TT} {tb:TS} (hp:PassesOwn (model X.prog X.w) X.A X.env X.xe) (hc:PT X c tc) (hb:DX X body tb):PS X (.While c body [] pos) (P_ tc tb):=by
 intro pins s σ H D I h;obtain ⟨W,⟨m0,w0⟩,turn⟩:=h;refine wpAny_While (codeAny_whileLoop (fun n s'=>∃σ' H',Inv X pins σ' H' s'/\W n σ' H') ?_ m0 ⟨σ,H,I,w0⟩);rintro n s1 ⟨σ1,H1,I1,w1⟩;refine wpAny_passesOwn hp (cR (hc pins s1 σ1 H1 _ I1 (turn n σ1 H1 w1)) fun b s2 ⟨H2,I2,q2⟩=> ?_);cases b with
 | true=>
   obtain ⟨N,hN,q2⟩:=q2;rw [if_pos rfl];refine wpAny_passesOwn hp (cR (hb pins s2 σ1 H2 _ I2 q2) fun f s3 q3=> ?_);cases f with
   | next=>
     obtain ⟨σ3,H3,I3,n3⟩:=q3;obtain ⟨m',hm,w3⟩:=hN σ3 H3 n3;exact ⟨m',hm,σ3,H3,I3,w3⟩
   | cont=>
     obtain ⟨σ3,H3,I3,n3⟩:=q3;obtain ⟨m',hm,w3⟩:=hN σ3 H3 n3;exact ⟨m',hm,σ3,H3,I3,w3⟩
   | brk=>exact q3
   | ret v=>exact q3
 | false=>
   rw [if_neg Bool.false_ne_true];exact wpAny_execs_nil ⟨σ1,H2,I2,q2⟩
end
structure It where
 go:Nat->Hp->Prop
 Pq:Nat->Hp->V->Hp->Prop
 stop:Nat->Hp->Prop
def dO (X:Cx) (pins:List (Addr×Obj)) (H:Hp) (b:Addr):Prop:=
 H b=none/\b≠X.env.locals/\b∉X.fs/\(b∈X.ex\/X.s₀.heap.objs.size<=b)/\(∀x c,X.env.cells.lookup x=some c->c≠b) /\ ∀p∈X.pn++pins,p.1≠b
theorem Inv.pC {X:Cx} {pins:List (Addr×Obj)} {σ:St} {H H':Hp} {s:Shared} {b:Addr} (I:Inv X pins σ H s) (hb:s.heap.objs.size<=b) (hn:H' b=none):dO X pins H' b:=by
 refine ⟨hn,Nat.ne_of_gt (Nat.lt_of_lt_of_le I.lt hb),I.aaZ hb,.inr (Nat.le_trans I.sz hb),fun x c e z=> ?_,fun p hp z=> ?_⟩
 ·obtain ⟨v,q⟩:=I.cell x c e
  exact absurd (Nat.lt_of_lt_of_le q.lt (by rw [z];exact hb)) (Nat.lt_irrefl _)
 ·exact absurd (Nat.lt_of_lt_of_le (Heap.lt_size (I.pin p hp).1) (by rw [z];exact hb)) (Nat.lt_irrefl _)
structure Turn (P:Program) (w:World) (K:PySem.W.Frag) (tg:Expr) (J:It) (fp:List Addr) (it:Addr) (tn:Nat->Heap->Prop):Prop where
 mem:it∈fp
 obj:∀i h,tn i h -> ∀b∈fp,∃o,h.get? b=some o /\ ∀v,o.data ≠ .cell v
 keep:∀i h h',tn i h->(∀b∈fp,∀o,h.get? b=some o->h'.get? b=some o)->tn i h'
 item:∀(X:Cx),X.prog=P->X.w=w->X.K=K->X.calm=true -> ∀(i:Nat) (pins:List (Addr×Obj)) (s:Shared) (σ:St) (H:Hp) (E:Value->Shared->Prop),Inv X pins σ H s->(∀b∈fp,dO X pins H b)->tn i s.heap->J.go i H ->
  wpAny (model P w) X.A (pyNext (.ref it)) (fun r s1=>∃u,r=some u /\
   wpAny (model P w) X.A (letOwnedTupleGo tg (.ref it) u) (fun _ s2=>∃x H',Inv X pins σ H' s2/\RelV x u/\J.Pq i H x H'/\tn (i+1) s2.heap /\ ∀b∈fp,H' b=none) E s1) E s
 done:∀(X:Cx),X.prog=P->X.w=w->X.K=K->X.calm=true -> ∀(i:Nat) (pins:List (Addr×Obj)) (s:Shared) (σ:St) (H:Hp) (E:Value->Shared->Prop),Inv X pins σ H s->(∀b∈fp,dO X pins H b)->tn i s.heap->J.stop i H ->
  wpAny (model P w) X.A (pyNext (.ref it)) (fun r s1=>r=none/\Inv X pins σ H s1) E s
 self:∀(A:Around) (i:Nat) (s:Shared) (Q:Value->Shared->Prop) (E:Value->Shared->Prop),tn i s.heap->Q (.ref it) s->wpAny (model P w) A (pyIter (.ref it)) Q E s
abbrev TI:=St->Hp->(It->Hp->Prop)->Prop
def PIE (X:Cx) (pins:List (Addr×Obj)) (σ:St) (tg:Expr) (R:It->Hp->Prop) (itv:Value) (s2:Shared):Prop:=
 ∃(it:Addr) (fp:List Addr) (tn:Nat->Heap->Prop) (J:It) (H':Hp),itv = .ref it/\Inv X pins σ H' s2/\Turn X.prog X.w X.K tg J fp it tn/\tn 0 s2.heap/\(∀b∈fp,dO X pins H' b)/\R J H'
def PI (X:Cx) (tg iter:Expr) (wi:TI):Prop:=
 ∀(pins:List (Addr×Obj)) (s:Shared) (σ:St) (H:Hp) (R:It->Hp->Prop),Inv X pins σ H s->wi σ H R ->
  wpAny (model X.prog X.w) X.A (eval iter X.env) (fun v s1=>wpAny (model X.prog X.w) X.A (pyIter v) (PIE X pins σ tg R) X.xe s1) X.xe s
theorem JK {M:Model} {A:Around} {E:Value->Shared->Prop} {s:Shared} {tg:Expr} {it:Addr} {u:Value} {o:Obj} {n:String} {vs:Array Value} {Q:Unit->Shared->Prop} (ho:s.heap.get? it=some o) (hc:o.cls = .type n) (hd:o.data = .fields vs)
 (hn:["enumerate","zip","dict_itemiterator","dict_reverseitemiterator","odict_iterator","itertools.zip_longest","itertools.pairwise"].contains n=false) (hQ:Q () s):wpAny M A (letOwnedTupleGo tg (.ref it) u) Q E s:=by
 unfold letOwnedTupleGo
 cases tg<;>first
  | exact wpAny_pure hQ
  | (cases u<;>first
      | exact wpAny_pure hQ
      | (refine wpAny_bind (wpAny_load ho ?_)
         rw [hc,hd];show wpAny M A (if (["enumerate","zip","dict_itemiterator","dict_reverseitemiterator","odict_iterator","itertools.zip_longest","itertools.pairwise"].contains n&&vs[0]? == some (rawInt _))=true then _ else _) Q E s;rw [if_neg (by intro h;rw [hn,Bool.false_and] at h;cases h)];exact wpAny_pure hQ))
def Pn (K:PySem.W.Frag) (a:Addr):It:=
 ⟨fun i H=>∃xs x,aV K H a xs/\xs[i]? = some x,fun i H x H'=>H'=H /\ ∀xs,aV K H a xs->xs[i]? = some x,fun i H=>∃xs,aV K H a xs/\xs.length<=i⟩
def YD (K:PySem.W.Frag) (a:Addr):It:=
 ⟨fun i H=>∃xs x,bZ K H a xs/\xs[i]? = some x,fun i H x H'=>H'=H /\ ∀xs,bZ K H a xs->xs[i]? = some x,fun i H=>∃xs,bZ K H a xs/\xs.length<=i⟩
def Pk (lo:Int) (n:Nat):It:=⟨fun i _=>i<n,fun i H x H'=>H'=H/\x = .int (lo+i),fun i _=>n<=i⟩
theorem Ec {P:Program} {w:World} {K:PySem.W.Frag} {tg:Expr} (a it:Addr):Turn P w K tg (Pn K a) [it] it (fun i h=>h.IsListIter it a i) where
 mem:=by simp
 obj:=fun i h st b hb=>by
  have e:b=it:=by simpa using hb
  subst e;obtain ⟨o,e,c,d⟩:=st;exact ⟨o,e,fun v z=>by rw [d] at z;cases z⟩
 keep:=fun i h h' st k=>st.at fun o e=>k it (by simp) o e
 item:=by
  intro X hP hw hK hc i pins s σ H E I hf st hg;subst hP hw hK;obtain ⟨xs,x,hq,hx⟩:=hg;obtain ⟨its,rv,p,hz⟩:=I.list hq;obtain ⟨u,hu,ru⟩:=rv.get hx;obtain ⟨f0,f1,f2,f3,f4,f5⟩:=hf it (by simp);refine wpAny_pyNext_list_item st p.isList (x:=u) (by simpa using hu) fun h' st' sb=> ?_;have I1:Inv X pins σ H {s with heap:=h'}:=I.turned (t':=s.toks) (fun b o hb e=>(sb.2 b hb).trans e) f0 f1 f3 f4 f5;obtain ⟨o,e,c,d⟩:=id st';exact ⟨u,rfl,JK (s:={s with heap:=h'}) e c d (by decide) ⟨x,H,I1,ru,⟨rfl,fun ys hy=>by rw [I.nT hy hq];exact hx⟩,st',fun b hb=>(hf b hb).1⟩⟩
 done:=by
  intro X hP hw hK hc i pins s σ H E I hf st hg;subst hP hw hK;obtain ⟨xs,hq,hx⟩:=hg;obtain ⟨its,rv,p,hz⟩:=I.list hq;obtain ⟨f0,f1,f2,f3,f4,f5⟩:=hf it (by simp);have hl:=rv.length;exact wpAny_pyNext_list_end (I.ok.hd hc) st p.isList (by simp;omega) fun h' eb=>⟨rfl,I.turned (t':=s.toks) (fun b o hb e=>eb b o hb e) f0 f1 f3 f4 f5⟩
 self:=fun _ _ _ _ _ st h=>wpAny_pyIter_listiter st h
theorem Ac {P:Program} {w:World} {K:PySem.W.Frag} {tg:Expr} (a it:Addr):Turn P w K tg (YD K a) [it] it (fun i h=>h.IsTupleIter it a i) where
 mem:=by simp
 obj:=fun i h st b hb=>by
  have e:b=it:=by simpa using hb
  subst e;obtain ⟨o,e,c,d⟩:=st;exact ⟨o,e,fun v z=>by rw [d] at z;cases z⟩
 keep:=fun i h h' st k=>st.at fun o e=>k it (by simp) o e
 item:=by
  intro X hP hw hK hc i pins s σ H E I hf st hg;subst hP hw hK;obtain ⟨xs,x,hq,hx⟩:=hg;obtain ⟨its,rv,p,hz⟩:=I.tuple hq;obtain ⟨u,hu,ru⟩:=rv.get hx;obtain ⟨f0,f1,f2,f3,f4,f5⟩:=hf it (by simp);refine wpAny_pyNext_tuple_item st (show s.heap.IsTuple a its.toArray from p) (x:=u) (by simpa using hu) fun h' st' sb=> ?_;have I1:Inv X pins σ H {s with heap:=h'}:=I.turned (t':=s.toks) (fun b o hb e=>(sb.2 b hb).trans e) f0 f1 f3 f4 f5;obtain ⟨o,e,c,d⟩:=id st';exact ⟨u,rfl,JK (s:={s with heap:=h'}) e c d (by decide) ⟨x,H,I1,ru,⟨rfl,fun ys hy=>by rw [I.Ef hy hq];exact hx⟩,st',fun b hb=>(hf b hb).1⟩⟩
 done:=by
  intro X hP hw hK hc i pins s σ H E I hf st hg;subst hP hw hK;obtain ⟨xs,hq,hx⟩:=hg;obtain ⟨its,rv,p,hz⟩:=I.tuple hq;obtain ⟨f0,f1,f2,f3,f4,f5⟩:=hf it (by simp);have hl:=rv.length;exact wpAny_pyNext_tuple_end (I.ok.hd hc) st (show s.heap.IsTuple a its.toArray from p) (by simp;omega) fun h' eb=>⟨rfl,I.turned (t':=s.toks) (fun b o hb e=>eb b o hb e) f0 f1 f3 f4 f5⟩
 self:=fun _ _ _ _ _ st h=>wpAny_pyIter_tupleiter st h
theorem Ad {P:Program} {w:World} {K:PySem.W.Frag} {tg:Expr} (it:Addr) (lo:Int) (n:Nat):Turn P w K tg (Pk lo n) [it] it (fun i h=>IsRangeIter h it (lo+(i:Nat)*1) ((n:Int) - (i:Nat)) 1) where
 mem:=by simp
 obj:=fun i h st b hb=>by
  have e:b=it:=by simpa using hb
  subst e
  exact ⟨_,st,fun v z=>by
   have z':Data.fields _=Data.cell v:=z;cases z'⟩
 keep:=fun i h h' st k=>k it (by simp) _ st
 item:=by
  intro X hP hw hK hc i pins s σ H E I hf st hg;subst hP hw hK;obtain ⟨f0,f1,f2,f3,f4,f5⟩:=hf it (by simp);have W:=Walks.range (prog:=X.prog) (w:=X.w) (I.ok.hd hc) it lo 1 n;refine W.item i s _ _ hg st fun v h' tk hv st' kk=> ?_;obtain ⟨t,rfl⟩:=hv;have I1:Inv X pins σ H {s with heap:=h',toks:=tk}:=I.turned (fun b o hb e=>kk b o (by simpa using hb) e) f0 f1 f3 f4 f5;refine ⟨_,rfl,JK (s:={s with heap:=h',toks:=tk}) (n:= "range_iterator") st' rfl rfl (by decide) ⟨.int (lo+i),H,I1,⟨t, ?_⟩,⟨rfl,rfl⟩,st',fun b hb=>(hf b hb).1⟩⟩;rw [Int.mul_one]
 done:=by
  intro X hP hw hK hc i pins s σ H E I hf st hg;subst hP hw hK;obtain ⟨f0,f1,f2,f3,f4,f5⟩:=hf it (by simp);exact wpAny_pyNext_range_end (I.ok.hd hc) st (by have:n<=i:=hg;omega) fun h' eb=>⟨rfl,I.turned (t':=s.toks) (fun b o hb e=>eb b o hb e) f0 f1 f3 f4 f5⟩
 self:=fun _ _ _ _ _ st h=>wpAny_pyIter_rangeiter st h
end L2
namespace L2
open PySem PySem.Spec PyProof.Rows
section
variable {X:Cx} {tg:Expr}
def Ow (K:PySem.W.Frag) (tl:TE):TI:=fun σ H R=>tl σ H fun x H1=>∃a,x = .ref a/\(∃xs,aV K H1 a xs)/\R (Pn K a) H1
def Vo (K:PySem.W.Frag) (tl:TE):TI:=fun σ H R=>tl σ H fun x H1=>∃a,x = .ref a/\(∃xs,bZ K H1 a xs)/\R (YD K a) H1
theorem Lz {l:Expr} {tl:TE} (hl:PE X l tl):PI X tg l (Ow X.K tl):=by
 intro pins s σ H R I h;refine cR (hl pins s σ H _ I h) fun v s1 ⟨x,H1,I1,r1,q1⟩=> ?_;obtain ⟨a,e,⟨xs,hq⟩,q⟩:=q1;subst e;cases r1;obtain ⟨its,rv,p,hz⟩:=I1.list hq;refine wpAny_pyIter_list p.isList ?_;refine ⟨s1.heap.objs.size,[s1.heap.objs.size],_,_,H1,rfl,I1.kept (t':=s1.toks) fun b o e=>Heap.get?_push_of_some _ e,Ec a _,⟨_,Heap.get?_push_size _ rfl,rfl,rfl⟩,fun b hb=> ?_,q⟩;have e:b=s1.heap.objs.size:=by simpa using hb
 subst e;exact I1.pC (Nat.le_refl _) (I1.hok.fresh (Nat.le_refl _))
theorem Qw {l:Expr} {tl:TE} (hl:PE X l tl):PI X tg l (Vo X.K tl):=by
 intro pins s σ H R I h;refine cR (hl pins s σ H _ I h) fun v s1 ⟨x,H1,I1,r1,q1⟩=> ?_;obtain ⟨a,e,⟨xs,hq⟩,q⟩:=q1;subst e;cases r1;obtain ⟨its,rv,p,hz⟩:=I1.tuple hq;refine wpAny_pyIter_tuple (show s1.heap.IsTuple a its.toArray from p) ?_;refine ⟨s1.heap.objs.size,[s1.heap.objs.size],_,_,H1,rfl,I1.kept (t':=s1.toks) fun b o e=>Heap.get?_push_of_some _ e,Ac a _,⟨_,Heap.get?_push_size _ rfl,rfl,rfl⟩,fun b hb=> ?_,q⟩;have e:b=s1.heap.objs.size:=by simpa using hb
 subst e;exact I1.pC (Nat.le_refl _) (I1.hok.fresh (Nat.le_refl _))
theorem Hy {pins:List (Addr×Obj)} {σ:St} {H:Hp} {s:Shared} {R:It->Hp->Prop} {E:Value->Shared->Prop} {lo hi:Int} {t u v:Tok} {tk:Nat} (I:Inv X pins σ H s) (h1: -(2 ^ 62)<=lo) (h2:lo<2 ^ 62) (h3: -(2 ^ 62)<=hi) (h4:hi<2 ^ 62)
 (q:R (Pk lo (hi - lo).toNat) H):wpAny (model X.prog X.w) X.A (pyIter (.ref s.heap.objs.size)) (PIE X pins σ tg R) E {s with heap:=s.heap.push {cls:= .type "range",data:= .fields #[.int lo t,.int hi u,.int 1 v]},toks:=tk}:=by
 refine wpAny_pyIter_range (IsRange.new ..) (small_one h1 h2 h3 h4) ?_;have I1:Inv X pins σ H {s with heap:=s.heap.push {cls:= .type "range",data:= .fields #[.int lo t,.int hi u,.int 1 v]},toks:=tk}:=I.kept fun b o e=>Heap.get?_push_of_some _ e
 refine ⟨(s.heap.push {cls:= .type "range",data:= .fields #[.int lo t,.int hi u,.int 1 v]}).objs.size,[(s.heap.push {cls:= .type "range",data:= .fields #[.int lo t,.int hi u,.int 1 v]}).objs.size],_,_,H,rfl,
  I1.kept (t':=tk) fun b o e=>Heap.get?_push_of_some _ e,Ad _ lo (hi - lo).toNat, ?_,fun b hb=> ?_,q⟩
 ·have e1:lo+((0:Nat):Int)*1=lo:=by simp
  have e2:(((hi - lo).toNat:Nat):Int) - ((0:Nat):Int)=Builtin.Range.rangeSize lo hi 1:=by rw [rangeSize_one];split<;>omega
  show IsRangeIter _ _ (lo+((0:Nat):Int)*1) ((((hi - lo).toNat:Nat):Int) - ((0:Nat):Int)) 1;rw [e1,e2];exact Heap.get?_push_size _ rfl
 ·have e:b=(s.heap.push {cls:= .type "range",data:= .fields #[.int lo t,.int hi u,.int 1 v]}).objs.size:=by simpa using hb
  subst e;exact I1.pC (Nat.le_refl _) (I1.hok.fresh (Nat.le_refl _))
def Ov (ta:TA):TI:=fun σ H R=>ta σ H fun vs H1=>∃j:Int,vs=[.int j] /\ -(2 ^ 62)<=j/\j<2 ^ 62/\R (Pk 0 j.toNat) H1
theorem eF {a:Expr} {ta:TA} {p pos:Pos} (hg:Gl X "range") (hm:X.mg "range" = none) (ha:PA X [a] ta) (hs:starEach [a] X.env=[(false,eval a X.env)]:=by rfl):PI X tg (.Call (.Name "range" p) [a] [] pos) (Ov ta):=by
 intro pins s σ H R I h;refine Call_ (lu I hg hm boot_range (PyProof.Rows.callWith_type1 (cR (ha pos pins s σ H _ I h) fun us s1 ⟨vs,H1,I1,r1,q1⟩=> ?_) hs rfl));obtain ⟨j,e,q1,q2,q⟩:=q1;subst e;cases r1 with
 | cons r rr=>
   cases rr;obtain ⟨t,rfl⟩:=r;exact call_range_1 (Hy I1 (by omega) (by omega) q1 q2 (by simpa using q))
def T_ (wi:TI) (g:TG) (tb:TS):TS:=fun D σ H=>wi σ H fun J H1=>∃W:Nat->Nat->St->Hp->Prop,(∃m,W 0 m σ H1) /\ ∀i m σ H,W i m σ H ->
 (J.stop i H/\D.nx σ H)\/(J.go i H /\ ∃N:St->Hp->Prop,(∀σ' H',N σ' H' -> ∃m',m'<m/\W (i+1) m' σ' H') /\ ∀x H',J.Pq i H x H'->g x σ H' fun σ2 H2=>tb {D with nx:=N,ct:=N,bk:=D.nx} σ2 H2)
def rN (fp:List Addr) (h:Heap):List (Addr×Obj):=fp.filterMap fun b=>(h.get? b).map fun o=>(b,o)
theorem jZ {fp:List Addr} {h:Heap} {b:Addr} {o:Obj} (hb:b∈fp) (e:h.get? b=some o):(b,o)∈rN fp h:=List.mem_filterMap.mpr ⟨b,hb,by rw [e];rfl⟩
theorem Fg {fp:List Addr} {h:Heap} {p:Addr×Obj} (hp:p∈rN fp h):p.1∈fp/\h.get? p.1=some p.2:=by
 obtain ⟨b,hb,e⟩:=List.mem_filterMap.mp hp;cases q:h.get? b with
 | none=>rw [q] at e;cases e
 | some o=>
   rw [q] at e;have e':(b,o)=p:=Option.some.inj e;subst e';exact ⟨hb,q⟩
theorem Inv.pinned {pins:List (Addr×Obj)} {σ:St} {H:Hp} {s:Shared} {fp:List Addr} (I:Inv X pins σ H s) (hf:∀b∈fp,dO X pins H b) (ho:∀b∈fp,∃o,s.heap.get? b=some o /\ ∀v,o.data ≠ .cell v):Inv X (pins++rN fp s.heap) σ H s:=
 I.nJ fun p hp=>(List.mem_append.mp hp).elim (fun z=>I.pin p (List.mem_append_right _ z)) fun z=>by
  obtain ⟨hb,e⟩:=Fg z;obtain ⟨f0,f1,f2,_⟩:=hf p.1 hb;obtain ⟨o,e',d⟩:=ho p.1 hb;rw [e] at e';cases e';exact ⟨e,f0,f1,f2,d⟩
theorem Inv.je {pins pl:List (Addr×Obj)} {σ:St} {H:Hp} {s:Shared} (I:Inv X (pins++pl) σ H s):Inv X pins σ H s:=I.nJ fun p hp=>I.pin p (List.mem_append_right _ (List.mem_append_left _ hp))
theorem fB {iter:Expr} {body:List Stmt} {wi:TI} {g:TG} {tb:TS} {pos:Pos} (hp:PassesOwn (model X.prog X.w) X.A X.env X.xe) (hc:X.calm=true) (hi:PI X tg iter wi) (hg:PG X tg g) (hb:DX X body tb)
 (hs:∀x,foldedSetIterable iter X.env x=pure x:=by intro _;rfl):PS X (.For tg iter body [] pos) (T_ wi g tb):=by
 intro pins s σ H D I h;refine wpAny_For (cR (hi pins s σ H _ I h) fun v s1 h1=>cR h1 fun itv s2 h2=> ?_) hs;obtain ⟨it,fp,tn,J,H2,e,I2,T,st2,f2,W,⟨m0,w0⟩,turn⟩:=h2;subst e;have stat:∀{H':Hp},(∀b∈fp,H' b=none) -> ∀b∈fp,dO X pins H' b:=fun hn b hb=>⟨hn b hb,(f2 b hb).2⟩;refine codeAny_forLoop_any (fun n s'=>∃i σ' H',Inv X pins σ' H' s'/\tn i s'.heap/\(∀b∈fp,H' b=none)/\W i n σ' H') ?_ m0 ⟨0,σ,H2,I2,st2,fun b hb=>(f2 b hb).1,w0⟩;rintro n s3 ⟨i,σ3,H3,I3,st3,V2,w3⟩;rcases turn i n σ3 H3 w3 with ⟨stop,qn⟩|⟨go,N,hN,step⟩
 ·refine wpAny_passesOwn hp (cR (T.done X rfl rfl rfl hc i pins s3 σ3 H3 X.xe I3 (stat V2) st3 stop) fun r s4 ⟨hr,I4⟩=> ?_)
  subst hr;exact wpAny_execs_nil ⟨σ3,H3,I4,qn⟩
 ·refine wpAny_passesOwn hp (cR (T.item X rfl rfl rfl hc i pins s3 σ3 H3 X.xe I3 (stat V2) st3 go) fun r s4 ⟨u,hr,h4⟩=> ?_)
  subst hr;refine wpAny_passesOwn hp (cR h4 fun _ s5 ⟨x,H5,I5,r5,y5,xQ,O2⟩=> ?_);have I5':=I5.pinned (stat O2) (T.obj _ _ xQ);refine wpAny_passesOwn hp (cR (hg _ s5 σ3 H5 x u _ I5' r5 (step x H5 y5)) fun _ s6 ⟨σ6,H6,I6,q6⟩=> ?_);refine wpAny_passesOwn hp (cR (hb _ s6 σ6 H6 _ I6 q6) fun f s7 q7=> ?_)
  have again:∀{σ7:St} {H7:Hp},Inv X (pins++rN fp s5.heap) σ7 H7 s7->N σ7 H7 -> ∃m,m<n /\ ∃i σ' H',Inv X pins σ' H' s7/\tn i s7.heap/\(∀b∈fp,H' b=none)/\W i m σ' H':=fun {σ7 H7} I7 n7=>by
   obtain ⟨m',hm,w7⟩:=hN σ7 H7 n7;refine ⟨m',hm,i+1,σ7,H7,I7.je,T.keep _ _ _ xQ fun b hb o e=>(I7.pin (b,o) (List.mem_append_right _ (List.mem_append_right _ (jZ hb e)))).1,fun b hb=> ?_,w7⟩;obtain ⟨o,e,d⟩:=T.obj _ _ xQ b hb;exact (I7.pin (b,o) (List.mem_append_right _ (List.mem_append_right _ (jZ hb e)))).2.1
  cases f with
  | next=>obtain ⟨σ7,H7,I7,n7⟩:=q7;exact again I7 n7
  | cont=>obtain ⟨σ7,H7,I7,n7⟩:=q7;exact again I7 n7
  | brk=>obtain ⟨σ7,H7,I7,q7⟩:=q7;exact ⟨σ7,H7,I7.je,q7⟩
  | ret v=>obtain ⟨x7,σ7,H7,I7,r7,q7⟩:=q7;exact ⟨x7,σ7,H7,I7.je,r7,q7⟩
end
theorem jC {K:PySem.W.Frag} {a:Addr} {xs:List V} {g:TG} {tb:TS} {D:Ends} {σ:St} {H:Hp} (Pv:Nat->St->Hp->Prop) (h0:Pv 0 σ H) (hl:∀i σ H,i<=xs.length->Pv i σ H->aV K H a xs)
 (hs:∀i x σ H,xs[i]? = some x->Pv i σ H->g x σ H fun σ2 H2=>tb {D with nx:=Pv (i+1),ct:=Pv (i+1),bk:=D.nx} σ2 H2) (hd:∀σ H,Pv xs.length σ H->D.nx σ H):
 ∃W:Nat->Nat->St->Hp->Prop,(∃m,W 0 m σ H) /\ ∀i m σ H,W i m σ H ->
  ((Pn K a).stop i H/\D.nx σ H)\/((Pn K a).go i H /\ ∃N:St->Hp->Prop,(∀σ' H',N σ' H' -> ∃m',m'<m/\W (i+1) m' σ' H') /\ ∀x H',(Pn K a).Pq i H x H'->g x σ H' fun σ2 H2=>tb {D with nx:=N,ct:=N,bk:=D.nx} σ2 H2):=by
 refine ⟨fun i m σ H=>m=xs.length - i/\i<=xs.length/\Pv i σ H,⟨xs.length,by simp,Nat.zero_le _,h0⟩, ?_⟩;rintro i m σ H ⟨rfl,hi,p⟩;have q:=hl i σ H hi p
 by_cases hlt:i<xs.length
 ·refine .inr ⟨⟨xs,xs[i],q,by simp [hlt]⟩,Pv (i+1),fun σ' H' p'=>⟨xs.length - (i+1),by omega,rfl,hlt,p'⟩,fun x H' y=> ?_⟩
  obtain ⟨e,y⟩:=y;subst e;exact hs i x σ _ (y xs q) p
 ·have e:i=xs.length:=by omega
  subst e;exact .inl ⟨⟨xs,q,Nat.le_refl _⟩,hd σ H p⟩
theorem gW {lo:Int} {n:Nat} {g:TG} {tb:TS} {D:Ends} {σ:St} {H:Hp} (Pv:Nat->St->Hp->Prop) (h0:Pv 0 σ H)
 (hs:∀i σ H,i<n->Pv i σ H->g (.int (lo+i)) σ H fun σ2 H2=>tb {D with nx:=Pv (i+1),ct:=Pv (i+1),bk:=D.nx} σ2 H2) (hd:∀σ H,Pv n σ H->D.nx σ H):
 ∃W:Nat->Nat->St->Hp->Prop,(∃m,W 0 m σ H) /\ ∀i m σ H,W i m σ H ->
  ((Pk lo n).stop i H/\D.nx σ H)\/((Pk lo n).go i H /\ ∃N:St->Hp->Prop,(∀σ' H',N σ' H' -> ∃m',m'<m/\W (i+1) m' σ' H') /\ ∀x H',(Pk lo n).Pq i H x H'->g x σ H' fun σ2 H2=>tb {D with nx:=N,ct:=N,bk:=D.nx} σ2 H2):=by
 refine ⟨fun i m σ H=>m=n - i/\i<=n/\Pv i σ H,⟨n,by simp,Nat.zero_le _,h0⟩, ?_⟩;rintro i m σ H ⟨rfl,hi,p⟩
 by_cases hlt:i<n
 ·refine .inr ⟨hlt,Pv (i+1),fun σ' H' p'=>⟨n - (i+1),by omega,rfl,hlt,p'⟩,fun x H' y=> ?_⟩
  obtain ⟨e,y⟩:=y;subst e y;exact hs i σ _ hlt p
 ·have e:i=n:=by omega
  subst e;exact .inl ⟨Nat.le_refl _,hd σ H p⟩
end L2
namespace L2
open PySem PySem.Spec PyProof.Rows
abbrev R2:=V->V->Hp->VK->Prop
def ni (X:Cx) (f:Value->Value->Sem Value) (r:R2):Prop:=
 ∀(pins:List (Addr×Obj)) (s:Shared) (σ:St) (H:Hp) (x y:V) (v u:Value) (Q:VK),Inv X pins σ H s->RelV x v->RelV y u->r x y H Q ->
  wpAny (model X.prog X.w) X.A (f v u) (EP X pins σ Q) X.xe s
def UnR (X:Cx) (f:Value->Sem Value) (r:V->Hp->VK->Prop):Prop:=
 ∀(pins:List (Addr×Obj)) (s:Shared) (σ:St) (H:Hp) (x:V) (v:Value) (Q:VK),Inv X pins σ H s->RelV x v->r x H Q ->
  wpAny (model X.prog X.w) X.A (f v) (EP X pins σ Q) X.xe s
def fO (X:Cx) (f:Value) (r:List V->Hp->VK->Prop):Prop:=
 ∀(pins:List (Addr×Obj)) (s:Shared) (σ:St) (H:Hp) (xs:List V) (us:List Value) (Q:VK),Inv X pins σ H s->Vals xs us->r xs H Q ->
  wpAny (model X.prog X.w) X.A (call f us) (EP X pins σ Q) X.xe s
def adW (X:Cx) (r:V->Hp->(Bool->Hp->Prop)->Prop):Prop:=
 ∀(pins:List (Addr×Obj)) (s:Shared) (σ:St) (H:Hp) (x:V) (v:Value) (Q:Bool->Hp->Prop),Inv X pins σ H s->RelV x v->r x H Q ->
  wpAny (model X.prog X.w) X.A (truthy v) (TP X pins σ Q) X.xe s
def vH (r:R2) (ta tb:TE):TE:=fun σ H Q=>ta σ H fun x H1=>tb σ H1 fun y H2=>r x y H2 Q
def tUn (r:V->Hp->VK->Prop) (ta:TE):TE:=fun σ H Q=>ta σ H fun x H1=>r x H1 Q
def rI (C:Int->Int->Prop) (g:Int->Int->V):R2:=fun x y H Q=>∃i j,x = .int i/\y = .int j/\C i j/\Q (g i j) H
def KQ (g:Int->Int->V):R2:=fun x y H Q=>∃i j,x = .int i/\y = .int j/\Q (g i j) H
def rU (g:Int->V):V->Hp->VK->Prop:=fun x H Q=>∃i,x = .int i/\Q (g i) H
section
variable {X:Cx} {a b c:Expr} {ta tb tc:TE} {pos:Pos}
theorem R9 (ha:PE X a ta) (hb:PE X b tb) {pins:List (Addr×Obj)} {s:Shared} {σ:St} {H:Hp} {R:V->V->Hp->Prop} (I:Inv X pins σ H s)
 (h:ta σ H fun x H1=>tb σ H1 fun y H2=>R x y H2) {Q:Value->Shared->Prop} {f:Value->Value->Sem Value}
 (hf:∀v u s2 x y H2,Inv X pins σ H2 s2->RelV x v->RelV y u->R x y H2->wpAny (model X.prog X.w) X.A (f v u) Q X.xe s2):
 wpAny (model X.prog X.w) X.A (eval a X.env) (fun v s₁=>wpAny (model X.prog X.w) X.A (eval b X.env) (fun u s₂=>wpAny (model X.prog X.w) X.A (f v u) Q X.xe s₂) X.xe s₁) X.xe s:=by
 refine cR (ha pins s σ H _ I h) fun v s1 ⟨x,H1,I1,r1,q1⟩=> ?_;refine cR (hb pins s1 σ H1 _ I1 q1) fun u s2 ⟨y,H2,I2,r2,q2⟩=> ?_;exact hf v u s2 x y H2 I2 r1 r2 q2
theorem bI {op:Operator} {r:R2} (ho:ni X (binaryOp op) r) (ha:PE X a ta) (hb:PE X b tb):PE X (.BinOp a op b pos) (vH r ta tb):=by
 intro pins s σ H Q I h;exact wpAny_BinOp (R9 ha hb I h fun v u s2 x y H2 I2 rx ry q=>ho pins s2 σ H2 x y v u Q I2 rx ry q)
theorem Uy {op:UnaryOp} {r:V->Hp->VK->Prop} (ho:UnR X (unaryOp op) r) (ha:PE X a ta):PE X (.UnaryOp op a pos) (tUn r ta):=by
 intro pins s σ H Q I h;exact UnaryOp_ (cR (ha pins s σ H _ I h) fun v s1 ⟨x,H1,I1,r1,q1⟩=>ho pins s1 σ H1 x v Q I1 r1 q1)
theorem UW {f:Value->Value->Sem Value} {C:Int->Int->Prop} {g:Int->Int->Int}
 (rule:∀(i j:Int) (t u:Tok) (s:Shared) (Q:Value->Shared->Prop) (E:Value->Shared->Prop),C i j->Q (.int (g i j) s.toks) {s with toks:=s.toks+1}->wpAny (model X.prog X.w) X.A (f (.int i t) (.int j u)) Q E s):
 ni X f (rI C fun i j=> .int (g i j)):=by
 intro pins s σ H x y v u Q I rx ry h;obtain ⟨i,j,rfl,rfl,hc,q⟩:=h;obtain ⟨t,rfl⟩:=rx;obtain ⟨t',rfl⟩:=ry;exact rule i j t t' s _ _ hc ⟨.int (g i j),H,I.tok _,⟨_,rfl⟩,q⟩
theorem UL {f:Value->Value->Sem Value} {g:Int->Int->Int}
 (rule:∀(i j:Int) (t u:Tok) (s:Shared) (Q:Value->Shared->Prop) (E:Value->Shared->Prop),Q (.int (g i j) s.toks) {s with toks:=s.toks+1}->wpAny (model X.prog X.w) X.A (f (.int i t) (.int j u)) Q E s):
 ni X f (KQ fun i j=> .int (g i j)):=by
 intro pins s σ H x y v u Q I rx ry h;obtain ⟨i,j,rfl,rfl,q⟩:=h;obtain ⟨t,rfl⟩:=rx;obtain ⟨t',rfl⟩:=ry;exact rule i j t t' s _ _ ⟨.int (g i j),H,I.tok _,⟨_,rfl⟩,q⟩
theorem Mf {f:Value->Value->Sem Value} {g:Int->Int->Bool}
 (rule:∀(i j:Int) (t u:Tok) (s:Shared) (Q:Value->Shared->Prop) (E:Value->Shared->Prop),Q (.bool (g i j)) s->wpAny (model X.prog X.w) X.A (f (.int i t) (.int j u)) Q E s):
 ni X f (KQ fun i j=> .bl (g i j)):=by
 intro pins s σ H x y v u Q I rx ry h;obtain ⟨i,j,rfl,rfl,q⟩:=h;obtain ⟨t,rfl⟩:=rx;obtain ⟨t',rfl⟩:=ry;exact rule i j t t' s _ _ ⟨.bl (g i j),H,I,rfl,q⟩
def Xk (i j:Int):Prop:=0<j/\j<1073741824
def Sy (i j:Int):Prop:=0<=j/\j<=1000000/\i.natAbs<2 ^ 64
def SJ (i j:Int):Prop:=(-(2 ^ 64)<i/\i<2 ^ 64)\/(-(2 ^ 64)<j/\j<2 ^ 64)
theorem SJ.ok {i j:Int} (h:SJ i j):IntMulOk i j:=by
 rcases h with ⟨h1,h2⟩|⟨h1,h2⟩
 ·exact .of_left (intBits_le_64 h1 h2)
 ·exact .of_right (intBits_le_64 h1 h2)
theorem gb:ni X (binaryOp .Add) (KQ fun i j=> .int (i+j)):=UL fun _ _ _ _ _ _ _ q=>add_int q
theorem Ik:ni X (binaryOp .Sub) (KQ fun i j=> .int (i - j)):=UL fun _ _ _ _ _ _ _ q=>sub_int q
theorem rR:ni X (binaryOp .Mult) (rI SJ fun i j=> .int (i*j)):=UW fun _ _ _ _ _ _ _ hc q=>mul_int q hc.ok
theorem Cz:ni X (binaryOp .FloorDiv) (rI Xk fun i j=> .int (i / j)):=UW fun i j _ _ _ _ _ hc q=>by
 have h1:(0:Int)<j:=hc.1;have h2:j<1073741824:=hc.2;exact floordiv_int (by omega) (by rw [Int.fdiv_eq_ediv_of_nonneg i (by omega)];exact q) (.inl (PyProof.noPylong_small (by omega)))
theorem jW:ni X (binaryOp .Mod) (rI (fun _ j=>0<j) fun i j=> .int (i % j)):=UW fun i j _ _ _ _ _ hc q=>by
 have h1:(0:Int)<j:=hc;exact mod_int' (by omega) (by rw [Int.fmod_eq_emod_of_nonneg i (by omega)];exact q)
theorem Aq:ni X (binaryOp .Pow) (rI Sy fun i j=> .int (i ^ j.toNat)):=UW fun _ _ _ _ _ _ _ hc q=>pow_int_small hc.1 hc.2.1 hc.2.2 q
theorem unI {f:Value->Sem Value} {g:Int->Int}
 (rule:∀(i:Int) (t:Tok) (s:Shared) (Q:Value->Shared->Prop) (E:Value->Shared->Prop),Q (.int (g i) s.toks) {s with toks:=s.toks+1}->wpAny (model X.prog X.w) X.A (f (.int i t)) Q E s):
 UnR X f (rU fun i=> .int (g i)):=by
 intro pins s σ H x v Q I rx h;obtain ⟨i,rfl,q⟩:=h;obtain ⟨t,rfl⟩:=rx;exact rule i t s _ _ ⟨.int (g i),H,I.tok _,⟨_,rfl⟩,q⟩
theorem PB:UnR X (unaryOp .USub) (rU fun i=> .int (-i)):=unI fun _ _ _ _ _ q=>neg_int q
end
def Ud:V->V->Bool
 | .non,.non=>true | .non,.int _=>true | .int _,.non=>true | .non,.bl _=>true | .bl _,.non=>true | .non,.str _=>true | .str _,.non=>true
 | .int _,.int _=>true | .bl _,.bl _=>true | .str _,.str _=>true | .z9 _,.z9 _=>true
 | .int _,.str _=>true | .str _,.int _=>true | .bl _,.str _=>true | .str _,.bl _=>true
 | _,_=>false
def rEq:R2:=fun x y H Q=>Ud x y=true/\Q (.bl (decide (x=y))) H
def Xx:R2:=fun x y H Q=>Ud x y=true/\Q (.bl (!decide (x=y))) H
theorem DN {i j:Int}:decide (V.int i=V.int j)=(i==j):=by
 rw [Bool.eq_iff_iff];simp
theorem JZ {i j:Bool}:decide (V.bl i=V.bl j)=(i==j):=by
 rw [Bool.eq_iff_iff];simp
theorem DK {i j:Str}:decide (V.str i=V.str j)=(i==j):=by
 rw [Bool.eq_iff_iff];simp
theorem DP {i j:Array UInt8}:decide (V.z9 i=V.z9 j)=(i.toList==j.toList):=by
 rw [Bool.eq_iff_iff];cases i;cases j;simp
section
variable {X:Cx} {a b c:Expr} {ta tb tc:TE} {pos:Pos}
theorem bH {pins:List (Addr×Obj)} {σ:St} {H:Hp} {s:Shared} {Q:VK} {k k':Bool} (I:Inv X pins σ H s) (q:Q (.bl k) H) (e:k=k'):EP X pins σ Q (.bool k') s:=by
 subst e;exact ⟨.bl k,H,I,rfl,q⟩
theorem j8:ni X (compareOp .Eq) rEq:=by
 intro pins s σ H x y v u Q I rx ry h;obtain ⟨hs,q⟩:=h;cases x with
 | non=>
   cases rx;cases y with
   | non=>cases ry;exact PySem.EqNone.eq_none_none (bH I q (by simp))
   | bl j=>cases ry;exact PySem.EqNone.eq_none_bool (bH I q (by simp))
   | int j=>obtain ⟨t',rfl⟩:=ry;exact PySem.EqNone.eq_none_int (bH I q (by simp))
   | str j=>obtain ⟨t',rfl⟩:=ry;exact PySem.EqNone.eq_none_str (bH I q (by simp))
   | _=>exact absurd (show false=true from hs) Bool.false_ne_true
 | bl i=>
   cases rx;cases y with
   | non=>cases ry;exact PySem.EqNone.eq_bool_none (bH I q (by simp))
   | bl j=>cases ry;exact eq_bool (bH I q JZ)
   | str j=>obtain ⟨t',rfl⟩:=ry;exact PySem.EqMixed.eq_bool_str (bH I q (by simp))
   | _=>exact absurd (show false=true from hs) Bool.false_ne_true
 | int i=>
   obtain ⟨t,rfl⟩:=rx;cases y with
   | non=>cases ry;exact PySem.EqNone.eq_int_none (bH I q (by simp))
   | int j=>obtain ⟨t',rfl⟩:=ry;exact eq_int (bH I q DN)
   | str j=>obtain ⟨t',rfl⟩:=ry;exact PySem.EqMixed.eq_int_str (bH I q (by simp))
   | _=>exact absurd (show false=true from hs) Bool.false_ne_true
 | str i=>
   obtain ⟨t,rfl⟩:=rx;cases y with
   | non=>cases ry;exact PySem.EqNone.eq_str_none (bH I q (by simp))
   | bl j=>cases ry;exact PySem.EqMixed.eq_str_bool (bH I q (by simp))
   | int j=>obtain ⟨t',rfl⟩:=ry;exact PySem.EqMixed.eq_str_int (bH I q (by simp))
   | str j=>obtain ⟨t',rfl⟩:=ry;exact eq_str (bH I q DK)
   | _=>exact absurd (show false=true from hs) Bool.false_ne_true
 | z9 i=>
   obtain ⟨t,rfl⟩:=rx;cases y with
   | z9 j=>obtain ⟨t',rfl⟩:=ry;exact PySem.W.eq_bytes (bH I q DP)
   | _=>exact absurd (show false=true from hs) Bool.false_ne_true
 | _=>cases y<;>exact absurd (show false=true from hs) Bool.false_ne_true
theorem nO:ni X (compareOp .NotEq) Xx:=by
 intro pins s σ H x y v u Q I rx ry h;obtain ⟨hs,q⟩:=h;cases x with
 | non=>
   cases rx;cases y with
   | non=>cases ry;exact PySem.EqNone.ne_none_none (bH I q (by simp))
   | bl j=>cases ry;exact PySem.EqNone.ne_none_bool (bH I q (by simp))
   | int j=>obtain ⟨t',rfl⟩:=ry;exact PySem.EqNone.ne_none_int (bH I q (by simp))
   | str j=>obtain ⟨t',rfl⟩:=ry;exact PySem.EqNone.ne_none_str (bH I q (by simp))
   | _=>exact absurd (show false=true from hs) Bool.false_ne_true
 | bl i=>
   cases rx;cases y with
   | non=>cases ry;exact PySem.EqNone.ne_bool_none (bH I q (by simp))
   | bl j=>cases ry;exact ne_bool (bH I q (congrArg not JZ))
   | str j=>obtain ⟨t',rfl⟩:=ry;exact PySem.EqMixed.ne_bool_str (bH I q (by simp))
   | _=>exact absurd (show false=true from hs) Bool.false_ne_true
 | int i=>
   obtain ⟨t,rfl⟩:=rx;cases y with
   | non=>cases ry;exact PySem.EqNone.ne_int_none (bH I q (by simp))
   | int j=>obtain ⟨t',rfl⟩:=ry;exact ne_int (bH I q (congrArg not DN))
   | str j=>obtain ⟨t',rfl⟩:=ry;exact PySem.EqMixed.ne_int_str (bH I q (by simp))
   | _=>exact absurd (show false=true from hs) Bool.false_ne_true
 | str i=>
   obtain ⟨t,rfl⟩:=rx;cases y with
   | non=>cases ry;exact PySem.EqNone.ne_str_none (bH I q (by simp))
   | bl j=>cases ry;exact PySem.EqMixed.ne_str_bool (bH I q (by simp))
   | int j=>obtain ⟨t',rfl⟩:=ry;exact PySem.EqMixed.ne_str_int (bH I q (by simp))
   | str j=>obtain ⟨t',rfl⟩:=ry;exact ne_str (bH I q (congrArg not DK))
   | _=>exact absurd (show false=true from hs) Bool.false_ne_true
 | z9 i=>
   obtain ⟨t,rfl⟩:=rx;cases y with
   | z9 j=>obtain ⟨t',rfl⟩:=ry;exact PySem.W.ne_bytes (bH I q (congrArg not DP))
   | _=>exact absurd (show false=true from hs) Bool.false_ne_true
 | _=>cases y<;>exact absurd (show false=true from hs) Bool.false_ne_true
theorem Il:ni X (compareOp .Lt) (KQ fun i j=> .bl (decide (i<j))):=Mf fun _ _ _ _ _ _ _ q=>lt_int q
theorem Om:ni X (compareOp .LtE) (KQ fun i j=> .bl (decide (i<=j))):=Mf fun _ _ _ _ _ _ _ q=>le_int q
theorem UJ:ni X (compareOp .Gt) (KQ fun i j=> .bl (decide (j<i))):=Mf fun _ _ _ _ _ _ _ q=>gt_int q
theorem Cy:ni X (compareOp .GtE) (KQ fun i j=> .bl (decide (j<=i))):=Mf fun _ _ _ _ _ _ _ q=>ge_int q
theorem Cw:ni X (compareOp .IsNot) (fun x y H Q=>y = .non/\Q (.bl (!decide (x = .non))) H):=by
 intro pins s σ H x y v u Q I rx ry h;obtain ⟨rfl,q⟩:=h;cases ry;refine isnot_none_gen (bH I q ?_)
 cases x<;>first
  | (cases rx;rfl)
  | (obtain ⟨t,rfl⟩:=rx;rfl)
def isObj:HO->Bool
 | .lst _=>true
 | .ins _ _ _=>true
 | _=>false
theorem bA (b:Expr) {op:CmpOp} (h:op ≠ .In:=by decide) (h2:op ≠ .NotIn:=by decide):behindInMarks op b=false:=by
 have e1:(op==CmpOp.In)=false:=by cases op<;>first |rfl|exact absurd rfl h
 have e2:(op==CmpOp.NotIn)=false:=by cases op<;>first |rfl|exact absurd rfl h2
 cases b<;>simp [behindInMarks,e1,e2]
theorem eG {op:CmpOp} {r:R2} (ho:ni X (compareOp op) r) (ha:PE X a ta) (hb:PE X b tb) (hm:behindInMarks op b=false):PE X (.Compare a [op] [b] pos) (vH r ta tb):=by
 intro pins s σ H Q I h;exact wpAny_Compare1 (R9 ha hb I h fun v u s2 x y H2 I2 rx ry q=>ho pins s2 σ H2 x y v u Q I2 rx ry q) hm
def G4 (t:TE):TT:=fun σ H Q=>t σ H fun x H'=>∃k,x = .bl k/\Q k H'
theorem bB {op:CmpOp} {r:R2} (ho:ni X (compareOp op) r) (ha:PE X a ta) (hb:PE X b tb) (hm:behindInMarks op b=false):PT X (.Compare a [op] [b] pos) (G4 (vH r ta tb)):=by
 intro pins s σ H Q I h
 refine wpAny_isTrue_Compare1 (cR (ha pins s σ H _ I h) fun v s1 ⟨x,H1,I1,r1,q1⟩=>cR (hb pins s1 σ H1 _ I1 q1) fun u s2 ⟨y,H2,I2,r2,q2⟩=>
  cR (ho pins s2 σ H2 x y v u _ I2 r1 r2 q2) fun c s3 ⟨z,H3,I3,r3,k,e,q3⟩=> ?_) hm
 subst e;cases r3;exact wpAny_truthy_bool ⟨H3,I3,q3⟩
def Sh (K:PySem.W.Frag) (x:V) (H:Hp) (k:Bool):Prop:=
 match x with
 | .non=>k=false
 | .bl b=>k=b
 | .int i=>k=(i != 0)
 | .str y=>y.length<=sizeLine/\k=((y.length:Int) != 0)
 | .z9 y=>y.size<=sizeLine/\k=((y.size:Int) != 0)
 | .ref p=>(∃xs,aV K H p xs/\k = !xs.isEmpty)\/(∃xs,bZ K H p xs/\k = !xs.isEmpty) \/ ∃kvs,H p=some (.dK kvs)/\k = !kvs.isEmpty
 | _=>False
theorem Bb {κ:Type} {kvs:List (κ×V)} {vs:List (κ×Value)} (r:KV kvs vs):(!vs.isEmpty) = !kvs.isEmpty:=by
 cases r<;>rfl
theorem sI {xs:List V} {its:List Value} (r:Vals xs its):(!its.toArray.isEmpty) = !xs.isEmpty:=by
 cases r<;>simp
theorem o8:(sizeLine:Nat)<2 ^ 63:=by rw [sizeLine_eq];decide
theorem PK:adW X (fun x H Q=>∃k,Sh X.K x H k/\Q k H):=by
 intro pins s σ H x v Q I rx h;obtain ⟨k,e,q⟩:=h;have hl:=o8;have hs:sizeLine=16777216:=sizeLine_eq;cases x with
 | non=>
   cases rx;have e':k=false:=e;subst e';exact truthy_none ⟨H,I,q⟩
 | bl b=>
   cases rx;have e':k=b:=e;subst e';exact wpAny_truthy_bool ⟨H,I,q⟩
 | int i=>
   obtain ⟨t,rfl⟩:=rx;have e':k=(i != 0):=e;subst e';exact PySem.P.truthy_int ⟨H,I,q⟩
 | str y=>
   obtain ⟨t,rfl⟩:=rx;obtain ⟨hy,e'⟩:y.length<=sizeLine/\k=((y.length:Int) != 0):=e;subst e';exact PySem.P.truthy_str (by omega) ⟨H,I.tok _,q⟩
 | z9 y=>
   obtain ⟨t,rfl⟩:=rx;obtain ⟨hy,e'⟩:y.size<=sizeLine/\k=((y.size:Int) != 0):=e;subst e';exact PySem.W.truthy_bytes (by omega) ⟨H,I.tok _,q⟩
 | ref p=>
   cases rx;have e':(∃xs,aV X.K H p xs/\k = !xs.isEmpty)\/(∃xs,bZ X.K H p xs/\k = !xs.isEmpty) \/ ∃kvs,H p=some (.dK kvs)/\k = !kvs.isEmpty:=e;rcases e' with ⟨xs,hx,e'⟩|⟨xs,hx,e'⟩|⟨kvs,hx,e'⟩
   ·subst e'
    obtain ⟨its,r,pl,hz⟩:=I.list hx;have hlen:=r.length;exact wpAny_truthy_list pl.isList (by simp only [List.size_toArray];omega) ⟨H,I.tok _,by rw [sI r];exact q⟩
   ·subst e'
    obtain ⟨its,r,pl,hz⟩:=I.tuple hx;have hlen:=r.length;exact truthy_tuple pl (by simp only [List.size_toArray];omega) ⟨H,I.tok _,by rw [sI r];exact q⟩
   ·subst e'
    obtain ⟨hz,hS,vs,r,m⟩:kvs.length<=sizeLine/\(p==sysModules)=false /\ ∃vs,KV kvs vs/\s.heap.DictOf (cF X.prog X.w) p vs:=I.hok p _ hx;have hlen:kvs.length=vs.length:=Paired.length r;exact wpAny_truthy_dict hS m (by omega) ⟨H,I.tok _,by rw [Bb r];exact q⟩
 | _=>exact (show False from e).elim
theorem HN (ha:PE X a ta) (he:∀whole,isTrue a X.env whole=(do let v ←whole;standAt a.pos;holding [v] (truthy v))):
 PT X a (fun σ H Q=>ta σ H fun x H'=>∃k,Sh X.K x H' k/\Q k H'):=by
 intro pins s σ H Q I h;exact isTrue_plain (cR (ha pins s σ H _ I h) fun v s1 ⟨x,H1,I1,r1,q1⟩=>PK pins s1 σ H1 x v Q I1 r1 q1) (he _)
theorem vals1 {x:V} {us:List Value} (r:Vals [x] us):∃u,us=[u]/\RelV x u:=by
 cases r with
 | cons r1 r2=>cases r2;exact ⟨_,rfl,r1⟩
theorem vals2 {x y:V} {us:List Value} (r:Vals [x,y] us):∃u w',us=[u,w']/\RelV x u/\RelV y w':=by
 cases r with
 | cons r1 r2=>
   cases r2 with
   | cons r3 r4=>cases r4;exact ⟨_,_,rfl,r1,r3⟩
theorem zM:fO X (.builtin "abs") (fun xs H Q=>∃i,xs=[.int i]/\Q (.int (if i<0 then -i else i)) H):=by
 intro pins s σ H xs us Q I r h;obtain ⟨i,rfl,q⟩:=h;obtain ⟨u,rfl,t,rfl⟩:=vals1 r;exact call_abs_int fun u tk=>⟨.int (if i<0 then -i else i),H,I.tok _,⟨_,rfl⟩,q⟩
theorem vh (hc:X.calm=true):fO X (.builtin "min") (fun xs H Q=>∃i j,xs=[.int i,.int j]/\Q (.int (if j<i then j else i)) H):=by
 intro pins s σ H xs us Q I r h;obtain ⟨i,j,rfl,q⟩:=h;obtain ⟨u,w',rfl,⟨t,rfl⟩,⟨t',rfl⟩⟩:=vals2 r;refine min_two_ints (I.ok.hd hc) fun h' tk k=>⟨_,H,I.kept k, ?_,q⟩
 by_cases hj:j<i
 ·rw [if_pos hj,if_pos hj];exact ⟨_,rfl⟩
 ·rw [if_neg hj,if_neg hj];exact ⟨_,rfl⟩
theorem Gd:fO X (.type "int") (fun xs H Q=>(∃i,xs=[.int i]/\Q (.int i) H) \/ ∃k,xs=[.bl k]/\Q (.int (if k then 1 else 0)) H):=by
 intro pins s σ H xs us Q I r h;rcases h with ⟨i,rfl,q⟩|⟨k,rfl,q⟩
 ·obtain ⟨u,rfl,t,rfl⟩:=vals1 r
  exact call_int_int ⟨.int i,H,I,⟨_,rfl⟩,q⟩
 ·obtain ⟨u,rfl,r1⟩:=vals1 r
  cases r1;exact call_int_bool ⟨.int (if k then 1 else 0),H,I.tok _,⟨_,rfl⟩,q⟩
end
end L2
namespace L2
open PySem PySem.Spec PyProof.Rows
structure Ss (h:Heap) (x dx C:Addr) (mA:Str->Option Value):Prop where
 obj:h.get? x=some (PySem.W.instObj C dx)
 ns:h.Ns1 dx mA
 ne:dx≠x
theorem Fp {h:Heap} {dx:Addr} {mA:Str->Option Value} (n:h.Ns1 dx mA):∃od,h.get? dx=some od /\ ∀name,PySem.W.lookIn name od=some (mA name):=by
 obtain ⟨o,es,ep,ho,hd,hk,_,hm⟩:=n;refine ⟨o,ho,fun name=> ?_⟩;have e:=hm name;unfold nsFind findBy at e;rw [←Array.find?_toList] at e;unfold PySem.W.lookIn;rw [hd];dsimp only;split
 ·rename_i y q
  rw [q] at e;exact congrArg some e
 ·rename_i q
  rw [q] at e
  have a:es.toList.any (·.refKey)=false:=by
   rw [List.any_eq_false];intro y hy;obtain ⟨z,t,hkey⟩:=hk y (Array.mem_toList_iff.mp hy);simp [DictEntry.refKey,hkey]
  have a':¬es.toList.any (·.refKey)=true:=by rw [a];exact Bool.false_ne_true
  rw [if_neg a'];exact congrArg some e
theorem Ss.look {h:Heap} {x dx C:Addr} {mA:Str->Option Value} (I:Ss h x dx C mA):∃od,PySem.W.InstAt h x (PySem.W.instObj C dx) C (some od) /\ ∀name,PySem.W.lookIn name od=some (mA name):=
 let ⟨od,ho,hl⟩:=Fp I.ns
 ⟨od,⟨I.obj,rfl,rfl,ho⟩,hl⟩
section
variable {prog:Program} {w:World} {A:Around} {E:Value->Shared->Prop} {s:Shared} {K:PySem.W.Frag} {x dx C f:Addr} {mA:Str->Option Value} {name:Str} {v:Value}
end
theorem m9.some_of {v:V} {o:Option Value} (r:m9 (some v) o):∃u,o=some u/\RelV v u:=by
 cases o with
 | none=>exact (show False from r).elim
 | some u=>exact ⟨u,rfl,r⟩
section
variable {P:Program} {w:World} {H H':Hp} {h h':Heap} {a C dx:Addr} {fs fs':List (Str×V)}
theorem MN (hok:j_ P w H h) (e:H a=some (.ins C dx fs)):∃mA,Ss h a dx C mA/\(∀f,m9 (fs.lookup f) (mA f))/\PySem.Within mA (fs.map (·.1))/\fs.length<=1000/\H dx=some (.own a):=by
 obtain ⟨d,z,ne,ob,mA,n,r,q⟩:=(show bR P w H h a (.ins C dx fs) from hok a _ e);exact ⟨mA,⟨ob,n,ne⟩,r,q,z,d⟩
end
structure Cls (K:PySem.W.Frag) (C:Addr):Prop where
 pg:PySem.W.plainGet K C Str.empty=true
 hd:PySem.W.hasDictIn K C=true
 po:PySem.W.plainOver K C=true
 sa:PySem.W.findIn K (.ref C) "__setattr__" = some (some (.builtin "object.__setattr__"))
theorem Cls.get {K:PySem.W.Frag} {C:Addr} (c:Cls K C) (f:Str):PySem.W.plainGet K C f=true:=c.pg
section
variable {X:Cx} {pins:List (Addr×Obj)} {σ:St} {H:Hp} {s:Shared} {a C dx:Addr} {fs:List (Str×V)} {f:Str} {v:V} {A:Around} {E:Value->Shared->Prop}
end
section
variable {X:Cx} {o e value:Expr} {f:Str} {pos pos' tpos:Pos} {ta tv:TE}
end
section
variable {X:Cx} {pins:List (Addr×Obj)} {σ:St} {H:Hp} {s:Shared} {A:Around} {E:Value->Shared->Prop} {Q:Value->Shared->Prop} {c:Value} {b:Bool}
inductive oF (K:PySem.W.Frag) (H:Hp):V->Value->Prop where
 | non:oF K H .non (.type "NoneType")
 | bl (x:Bool):oF K H (.bl x) (.type "bool")
 | int (i:Int):oF K H (.int i) (.type "int")
 | str (x:Str):oF K H (.str x) (.type "str")
 | flt (x:UInt64):oF K H (.flt x) (.type "float")
 | lst {a:Addr} {xs:List V} (e:H a=some (.lst xs)):oF K H (.ref a) (.type "list")
 | xT {a:Addr} {o:Obj} {xs:List V} (e:H a=some (.xT o (.lst xs))):oF K H (.ref a) (.type "list")
 | tup {a:Addr} {xs:List V} (e:H a=some (.tup xs)):oF K H (.ref a) (.type "tuple")
 | dK {a:Addr} {kvs:List (Key×V)} (e:H a=some (.dK kvs)):oF K H (.ref a) (.type "dict")
 | dT {a:Addr} {kvs:List (List Key×V)} (e:H a=some (.dT kvs)):oF K H (.ref a) (.type "dict")
 | ins {a C dx:Addr} {fs:List (Str×V)} (e:H a=some (.ins C dx fs)) (cl:Cls K C) (ha:PySem.W.findIn K (.ref C) "__class__" = some (some (.builtin "object.__class__")))
    (hn:PySem.W.specialIn K (.builtin "object.__class__") "__get__" = some (some (.builtin "getset_descriptor.__get__"))) (htk:PySem.W.takesIn K (.builtin "object.__class__")=some true)
    (hm:PySem.W.mroIn K C (.type "object")=some true):oF K H (.ref a) (.ref C)
theorem Fy {x:V} {u t:Value} (I:Inv X pins σ H s) (rx:RelV x u) (ty:oF X.K H x t) (e:PySem.W.kitOne X.K t c=some b) (h:∀tk,Q (.bool b) {s with toks:=tk}):
 wpAny (model X.prog X.w) A (call (.builtin "isinstance") [u,c]) Q E s:=by
 cases ty with
 | non=>cases (show u=Value.none from rx);exact PySem.W.kia_one PySem.W.kitx_none I.xR True.intro e (fun z=>nomatch z) h
 | bl y=>cases (show u=Value.bool y from rx);exact PySem.W.kia_one PySem.W.kitx_bool I.xR True.intro e (fun z=>nomatch z) h
 | int i=>obtain ⟨t,q⟩:=(show ∃t,u=Value.int i t from rx);cases q;exact PySem.W.kia_one PySem.W.kitx_int I.xR True.intro e (fun z=>nomatch z) h
 | str y=>obtain ⟨t,q⟩:=(show ∃t,u=Value.str y t from rx);cases q;exact PySem.W.kia_one PySem.W.kitx_str I.xR True.intro e (fun z=>nomatch z) h
 | flt y=>obtain ⟨t,q⟩:=(show ∃t,u=Value.float y t from rx);cases q;exact PySem.W.kia_one PySem.W.kitx_float I.xR True.intro e (fun z=>nomatch z) h
 | @lst a xs ea=>
   cases (show u=Value.ref a from rx);obtain ⟨_,_,n,_,h1⟩:=(show bR X.prog X.w H s.heap a (.lst xs) from I.hok a _ ea);exact PySem.W.kia_one PySem.W.kitx_list I.xR ⟨_,h1,rfl⟩ e (fun z=>nomatch z) h
 | @xT a ob xs ea=>
   cases (show u=Value.ref a from rx);obtain ⟨_,_,_,n,_,h1⟩:=(show bR X.prog X.w H s.heap a (.xT ob (.lst xs)) from I.hok a _ ea);exact PySem.W.kia_one PySem.W.kitx_list I.xR ⟨_,h1,rfl⟩ e (fun z=>nomatch z) h
 | @tup a xs ea=>
   cases (show u=Value.ref a from rx);obtain ⟨_,_,_,p⟩:=(show bR X.prog X.w H s.heap a (.tup xs) from I.hok a _ ea);obtain ⟨o,h1,h2,_⟩:=p;exact PySem.W.kia_one PySem.W.kitx_tuple I.xR ⟨o,h1,h2⟩ e (fun z=>nomatch z) h
 | @dK a kvs ea=>
   cases (show u=Value.ref a from rx);obtain ⟨_,_,vs,_,p⟩:=(show bR X.prog X.w H s.heap a (.dK kvs) from I.hok a _ ea);obtain ⟨o,es,ep,h1,h2,_⟩:=p;exact PySem.W.kia_one PySem.W.kitx_dict I.xR ⟨o,h1,h2.1⟩ e (fun z=>nomatch z) h
 | @dT a kvs ea=>
   cases (show u=Value.ref a from rx);obtain ⟨_,_,xs,_,o,es,ep,h1,h2,_⟩:=(show bR X.prog X.w H s.heap a (.dT kvs) from I.hok a _ ea);exact PySem.W.kia_one PySem.W.kitx_dict I.xR ⟨o,h1,h2.1⟩ e (fun z=>nomatch z) h
 | @ins a C dx fs ea cl ha hn htk hm=>
   cases (show u=Value.ref a from rx);obtain ⟨mA,O,_⟩:=MN I.hok ea;obtain ⟨od,J,_⟩:=O.look;exact PySem.W.kia_one (PySem.W.kitx_own (cl.get _) cl.hd ha hn htk hm) I.xR J e (fun z=>nomatch z) h
end
end L2
namespace L2
open PySem PySem.Spec PyProof.Rows
structure cU (k:Nat) (A:Around):Prop where
 hd:A.handled=none
 dp:A.depth+3*k+5<recursionLimit
 un:A.units+16*k+200<cLine
theorem cU.mono {j k:Nat} {A:Around} (r:cU k A) (h:j<=k):cU j A:=⟨r.hd,by have:=r.dp;omega,by have:=r.un;omega⟩
theorem cU.deeper {k:Nat} {A:Around} (r:cU (k+1) A) (env:Env):cU k (A.deeper env):=
 ⟨r.hd,by have:=r.dp;show A.depth+1+3*k+5<_;omega,by have:=r.un;show A.units+3+16*k+200<_;omega⟩
theorem cU.in1 {k:Nat} {A:Around} (r:cU (k+1) A):cU k A.in1:=
 ⟨r.hd,by have:=r.dp;show A.depth+3*k+5<_;omega,by have:=r.un;show A.units+1+16*k+200<_;omega⟩
theorem cU.depth {k:Nat} {A:Around} (r:cU k A):A.depth<recursionLimit:=by have:=r.dp;omega
theorem cU.units {k:Nat} {A:Around} (r:cU k A):A.units+64<cLine:=by have:=r.un;omega
theorem cU.Pz {k:Nat} {A:Around} (r:cU k A):A.units<cLine:=by have:=r.un;omega
def vI:TA:=fun _ H Q=>Q [] H
def jz (ta:TE) (tr:TA):TA:=fun σ H Q=>ta σ H fun x H1=>tr σ H1 fun xs H2=>Q (x::xs) H2
section
variable {X:Cx} {e:Expr} {es:List Expr} {te:TE} {t:TA} {pos:Pos}
theorem aq:PA X [] vI:=fun _ _ _ _ H Q I h=>Calls.spliced_nil ⟨[],H,I,.nil,h⟩
theorem aj (ha:PE X e te) (hr:PA X es t) (hs:starEach (e::es) X.env=(false,eval e X.env)::starEach es X.env:=by rfl):PA X (e::es) (jz te t):=by
 intro pos pins s σ H Q I h;rw [hs];show wpAny _ _ (spliced ((false,eval e X.env)::backTo pos (starEach es X.env))) _ _ s;refine Calls.spliced_cons (cR (ha pins s σ H _ I h) fun u s1 ⟨x,H1,I1,r1,q1⟩=> ?_);exact cR (hr pos pins s1 σ H1 _ I1 q1) fun us s2 ⟨xs,H2,I2,r2,q2⟩=>⟨x::xs,H2,I2,.cons r1 r2,q2⟩
def TV (t:TA):TE:=fun σ H Q=>t σ H fun xs H1=>xs.length<=sizeLine /\ ∀p,H1 p=none->Q (.ref p) (upd H1 p (.tup xs))
def T8 (t:TA):TE:=fun σ H Q=>t σ H fun xs H1=>xs.length<=sizeLine /\ ∀p,H1 p=none->Q (.ref p) (upd H1 p (.lst xs))
theorem fY {x1} (h:PA X es t):PE X (.Tuple es x1 pos) (TV t):=by
 intro pins s σ H Q I hq;refine wpAny_Tuple_spliced (cR (h pos pins s σ H _ I hq) fun us s1 ⟨xs,H1,I1,r,z,q⟩=>⟨by rw [←r.length];exact z, ?_⟩);have hf:H1 s1.heap.objs.size=none:=I1.hok.fresh (Nat.le_refl _);refine ⟨.ref s1.heap.objs.size,upd H1 s1.heap.objs.size (.tup xs),I1.laid (t':=s1.toks) (fun b u e=>Heap.get?_push_of_some _ e) (Nat.le_refl _) ?_,rfl,q _ hf⟩;exact ⟨z,us,r,⟨_,Heap.get?_push_size _ rfl,rfl,_,rfl⟩⟩
theorem fZ (h:PA X es t):PE X (.List es pos) (T8 t):=by
 intro pins s σ H Q I hq;refine wpAny_List_spliced (cR (h pos pins s σ H _ I hq) fun us s1 ⟨xs,H1,I1,r,z,q⟩=>⟨by rw [←r.length];exact z, ?_⟩);have hf:H1 s1.heap.objs.size=none:=I1.hok.fresh (Nat.le_refl _);refine ⟨.ref s1.heap.objs.size,upd H1 s1.heap.objs.size (.lst xs),I1.laid (t':=s1.toks) (fun b u e=>Heap.get?_push_of_some _ e) (Nat.le_refl _) ?_,rfl,q _ hf⟩;exact ⟨z,us,0,r,Heap.get?_push_size _ rfl⟩
end
abbrev Sp:=List V->Hp->VK->XK->Prop
abbrev Gp:=List Env->Hp->Shared->XK->Value->Shared->Prop
structure xM (P:Program) (w:World) (K:PySem.W.Frag) (mg:Str->Option Value) (base:Heap) (A:Around) (outer:List Env) (s:Shared) (H:Hp):Prop where
 frames:A.frames=some outer
 mod:Mod K mg base
 bs:∀b o,base.get? b=some o->s.heap.get? b=some o/\H b=none
 Nr:base.objs.size<=s.heap.objs.size
 qt:s.heap.FunFrames base outer
 RM:∀b∈frs outer,H b=none
 hok:j_ P w H s.heap
 bare:AllBare s.gens
def CE (outer:List Env) (P:Program) (w:World) (H:Hp) (s:Shared) (Q:VK) (u:Value) (s':Shared):Prop:=
 ∃v H',s'.os=s.os/\AllBare s'.gens/\Un (frs outer) [] H H' s.heap s'.heap/\j_ P w H' s'.heap/\RelV v u/\Q v H'
def CR (CX:Gp) (outer:List Env) (P:Program) (w:World) (H:Hp) (s:Shared) (Q:VK) (E:XK) (r:Result) (s':Shared):Prop:=
 match r with
 | .ok (.ret u)=>CE outer P w H s Q u s'
 | .ok _=>False
 | .error e=>CX outer H s E e s'
structure cT (P:Program) (w:World) (K:PySem.W.Frag) (mg:Str->Option Value) (base:Heap) (CX:Gp) (k:Nat) (f:Addr) (fd:FuncData) (ps:List Str) (sp:Sp):Prop where
 len:∀vs H Q E,sp vs H Q E->vs.length=ps.length
 run:∀(A:Around) (outer:List Env) (s:Shared) (H:Hp) (args:Args) (us:List Value) (vs:List V) (Q:VK) (E:XK),cU k A->xM P w K mg base A outer s H->BindsTo s fd args (ps.zip us)->Vals vs us->sp vs H Q E ->
  codeAny (model P w) A (.call (.ref f) args) (CR CX outer P w H s Q E) s
theorem xM.in1 {P:Program} {w:World} {K:PySem.W.Frag} {mg:Str->Option Value} {base:Heap} {A:Around} {outer:List Env} {s:Shared} {H:Hp} (e:xM P w K mg base A outer s H):
 xM P w K mg base A.in1 outer s H:=⟨e.frames,e.mod,e.bs,e.Nr,e.qt,e.RM,e.hok,e.bare⟩
section
variable {X:Cx} {pins:List (Addr×Obj)} {σ:St} {H:Hp} {s s':Shared}
theorem Inv.env0 (I:Inv X pins σ H s):xM X.prog X.w X.K X.mg X.base X.A X.stack s H:=
 ⟨I.ok.frames,I.ok.mod,I.bs,Nat.le_trans I.ok.Nr I.sz,I.stack,I.Ci,I.hok,I.bare⟩
theorem Inv.after {Q:VK} {u:Value} (I:Inv X pins σ H s) (h:CE X.stack X.prog X.w H s Q u s'):EP X pins σ Q u s':=by
 obtain ⟨v,H',os,bare,un,hok,r,q⟩:=h;obtain ⟨hh,g,d,t,os'⟩:=s';obtain rfl:os'=s.os:=os;exact ⟨v,H',I.call (h':=hh) (g':=g) (d':=d) (t':=t) (ch:=[]) un hok bare (fun b z=>absurd z (by simp)),r,q⟩
end
def yg (sp:Sp) (K1:List V) (E:XK) (t:TA):TE:=fun σ H Q=>t σ H fun vs H1=>sp (vs++K1) H1 Q E
def Binds (K:PySem.W.Frag) (fd:FuncData) (ps:List Str) (ds:List Value):Prop:=
 ∀(s:Shared) (us:List Value),K.In s.heap->(us++ds).length=ps.length->BindsTo s fd ⟨us,[]⟩ (ps.zip (us++ds))
theorem Binds.all {K:PySem.W.Frag} {fd:FuncData} {ps:List Str} (h:∀us:List Value,us.length=ps.length->bindArgs fd ⟨us,[]⟩=pure (ps.zip us)):Binds K fd ps []:=fun s us _ hl=>by
 rw [List.append_nil] at hl ⊢;exact .of_eq (h us hl)
def Passes (CX:Gp) (X:Cx) (E:XK):Prop:=∀(pins:List (Addr×Obj)) (σ:St) (H:Hp) (s:Shared) (e:Value) (s':Shared),Inv X pins σ H s->CX X.stack H s E e s'->X.xe e s'
section
variable {X:Cx} {CX:Gp} {k:Nat} {f C:Addr} {fd:FuncData} {ps:List Str} {sp:Sp} {K1:List V} {ds:List Value} {E:XK} {x m:Str} {p pos apos:Pos} {e o:Expr} {es:List Expr} {ta:TE} {t:TA}
theorem Qq {pins:List (Addr×Obj)} {σ:St} {H:Hp} {s:Shared} {Q:VK} {us:List Value} {vs:List V} (F:cT X.prog X.w X.K X.mg X.base CX k f fd ps sp) (hr:cU k X.A) (hb:Binds X.K fd ps ds) (hd:Vals K1 ds) (hx:Passes CX X E)
 (I:Inv X pins σ H s) (r:Vals vs us) (h:sp (vs++K1) H Q E):wpAny (model X.prog X.w) X.A (call (.ref f) us) (EP X pins σ Q) X.xe s:=by
 have r2:Vals (vs++K1) (us++ds):=r.append hd;have hl:(us++ds).length=ps.length:=by rw [←r2.length];exact F.len _ _ _ _ h
 refine wpAny_call (codeAny_mono (F.run X.A X.stack s H ⟨us,[]⟩ (us++ds) (vs++K1) Q E hr I.env0 (hb s us I.xR hl) r2 h) fun r s' hq=> ?_);cases r with
 | error e=>exact hx pins σ H s e s' I hq
 | ok fl=>
   cases fl with
   | ret u=>exact I.after hq
   | next=>exact False.elim hq
   | brk=>exact False.elim hq
   | cont=>exact False.elim hq
theorem LK (F:cT X.prog X.w X.K X.mg X.base CX k f fd ps sp) (hr:cU k X.A) (hg:Gl X x) (hm:X.mg x=some (.ref f)) (hk:PySem.W.keepIn X.K (.ref f)=true) (hb:Binds X.K fd ps ds) (hd:Vals K1 ds) (hx:Passes CX X E)
 (ha:PA X (e::es) t) (hdb:(x==("__debug__" :Str))=false:=by decide) (he:starEach (e::es) X.env=(false,eval e X.env)::starEach es X.env:=by rfl) (hpl:(backTo pos (starEach es X.env)).any (·.1)=false:=by rfl):
 PE X (.Call (.Name x p) (e::es) [] pos) (yg sp K1 E t):=by
 intro pins s σ H Q I h;refine wpAny_Call_Name_kw (Ms I hg hm ?_ hdb);refine PySem.W.callWith_K (h₀:=X.base) I.ok.mod.kin hk (cR (ha pos pins s σ H _ I h) fun us s1 ⟨vs,H1,I1,r,q⟩=>⟨I1.xR, ?_⟩) he hpl;exact Qq F hr hb hd hx I1 r q
end
section
variable {X:Cx} {CX:Gp} {k:Nat} {f C:Addr} {fd:FuncData} {ps ks:List Str} {sp:Sp} {E:XK} {x m:Str} {p pos apos kpos:Pos} {e o:Expr} {es:List Expr} {kws:List Keyword} {te ta:TE} {t tk:TA} {nm:Option Str}
variable {g:List Value->List Value->List Value} {gV:List V->List V->List V}
end
structure bh (N P:List Str) (sc:Scope):Prop where
 kind:sc.kind = .function
 co:sc.isCoroutine=false
 gen:sc.isGenerator=false
 nd:N.Nodup
 pre:N.take P.length=P
 par:∀x∈P,sc.names.lookup x=some .local\/sc.names.lookup x=some .cell
 Q6:∀y∈sc.names,y.2 ≠ .free
theorem vm {kindOf:Str->Option NameKind} {x:Str}:∀{binds:List (Str×Value)} {m:Str->Option Value},(∀v,(x,v)∉binds)->bindL kindOf binds m x=m x
 | [],_,_=>rfl
 | (n,v)::r,m,h=>by
   unfold bindL;rw [vm fun w hw=>h w (List.mem_cons_of_mem _ hw)];split
   ·have:x≠n:=by rintro rfl;exact h v List.mem_cons_self
    simp [this]
   ·rfl
theorem vp {kindOf:Str->Option NameKind} {x:Str}:∀{binds:List (Str×Value)} {m:Str->Option Value},(∀v,(x,v)∉binds)->bindC kindOf binds m x=m x
 | [],_,_=>rfl
 | (n,v)::r,m,h=>by
   unfold bindC;rw [vp fun w hw=>h w (List.mem_cons_of_mem _ hw)];split
   ·rfl
   ·have:x≠n:=by rintro rfl;exact h v List.mem_cons_self
    simp [this]
theorem vo {kindOf:Str->Option NameKind} {x:Str} {v:Value}:∀{P:List Str} {vs:List Value} {i:Nat} {m:Str->Option Value},P.Nodup->P[i]? = some x->vs[i]? = some v->kindOf x=some .local ->
 bindL kindOf (P.zip vs) m x=some v
 | [],_,_,_,_,h,_,_=>by simp at h
 | _::_,[],_,_,_,_,h,_=>by simp at h
 | p::P,w::vs,0,m,nd,h1,h2,hk=>by
   simp at h1 h2;subst h1;subst h2;show bindL kindOf ((p,w)::P.zip vs) m p=_;unfold bindL;rw [vm fun v hv=>(List.nodup_cons.mp nd).1 (List.of_mem_zip hv).1,if_pos hk];simp
 | p::P,w::vs,i+1,m,nd,h1,h2,hk=>by
   show bindL kindOf ((p,w)::P.zip vs) m x=_;unfold bindL;exact vo (i:=i) (List.nodup_cons.mp nd).2 (by simpa using h1) (by simpa using h2) hk
theorem vq {kindOf:Str->Option NameKind} {x:Str} {v:Value}:∀{P:List Str} {vs:List Value} {i:Nat} {m:Str->Option Value},P.Nodup->P[i]? = some x->vs[i]? = some v->kindOf x≠some .local ->
 bindC kindOf (P.zip vs) m x=some v
 | [],_,_,_,_,h,_,_=>by simp at h
 | _::_,[],_,_,_,_,h,_=>by simp at h
 | p::P,w::vs,0,m,nd,h1,h2,hk=>by
   simp at h1 h2;subst h1;subst h2;show bindC kindOf ((p,w)::P.zip vs) m p=_;unfold bindC;rw [vp fun v hv=>(List.nodup_cons.mp nd).1 (List.of_mem_zip hv).1,if_neg hk];simp
 | p::P,w::vs,i+1,m,nd,h1,h2,hk=>by
   show bindC kindOf ((p,w)::P.zip vs) m x=_;unfold bindC;exact vq (i:=i) (List.nodup_cons.mp nd).2 (by simpa using h1) (by simpa using h2) hk
def start (N:List Str) (vs:List V):St:=vs.map some++List.replicate (N.length - vs.length) none
def wR (CX:Gp) (P:Program) (w:World) (K:PySem.W.Frag) (mg:Str->Option Value) (base:Heap) (N:List Str) (qual:Str) (scope:Scope) (f:Addr) (cd:Value) (A:Around) (outer:List Env) (s:Shared) (H:Hp) (E:XK):Cx where
 prog:=P
 w:=w
 K:=K
 mg:=mg
 base:=base
 A:=A.deeper (envOfC qual scope s.heap.objs.size f cd)
 N:=N
 s₀:=s
 H₀:=H
 env:=envOfC qual scope s.heap.objs.size f cd
 outer:=outer
 stack:=envOfC qual scope s.heap.objs.size f cd::outer
 ex:=[]
 calm:=true
 fn:=fun _=>true
 pn:=[]
 xe:=fun e s'=>wpAny (model P w) (A.deeper (envOfC qual scope s.heap.objs.size f cd)) (leaving (envOfC qual scope s.heap.objs.size f cd) e) (fun _ s''=>CX outer H s E e s'') (fun e' s''=>CX outer H s E e' s'') s'
theorem zJ {sc:Scope} {n:Nat} {x:Str} (h:sc.names.lookup x=some .cell):∃c,(cellsFrom n sc.names []).lookup x=some c:=by
 have q:=PySem.W.cellsFrom_some sc.names n [] (.inl h);exact Option.isSome_iff_exists.mp q
theorem uV {CX:Gp} {P:Program} {w:World} {K:PySem.W.Frag} {mg:Str->Option Value} {base:Heap} {N ps:List Str} {qual:Str} {scope:Scope} {f:Addr} {cd:Value} {A:Around} {outer:List Env} {s s1:Shared} {H:Hp} {E:XK} {us:List Value} {vs:List V}
 (S:bh N ps scope) (hd:A.handled=none) (e0:xM P w K mg base A outer s H) (hl:vs.length=ps.length) (r:Vals vs us)
 (x:InCallC s s.heap.objs.size (bindL (envOfC qual scope s.heap.objs.size f cd).kindOf (ps.zip us) fun _=>none) (cellsFrom (s.heap.objs.size+1) scope.names []) (bindC (envOfC qual scope s.heap.objs.size f cd).kindOf (ps.zip us) fun _=>none) s1):
 Inv (wR CX P w K mg base N qual scope f cd A outer s H E) [] (start N vs) H s1:=by
 have hpl:ps.length<=N.length:=by have:=congrArg List.length S.pre;rw [List.length_take] at this;omega
 obtain ⟨h1,tk,rfl,hk⟩:=x.done;have Q7:∀b:Addr,b∉(wR CX P w K mg base N qual scope f cd A outer s H E).ex:=fun b z=>absurd (show b∈([]:List Addr) from z) (by simp)
 refine ⟨⟨e0.mod,S.kind,rfl,rfl,Nat.le_refl _,fun y z c h1 h2=> ?_,fun y hy=> ?_,fun y c _ h=> ?_,fun _=>hd,Around.frames_deeper e0.frames,.inr ⟨rfl,rfl⟩,fun b z=>absurd z (Q7 b),e0.bs,e0.Nr,fun b _ _=>Q7 b,fun b z=>absurd z (Q7 b),e0.qt,e0.RM⟩,
  rfl,e0.bare,Un.kept hk,⟨_,x.toInCall.ns,fun i y v h1 h2 h3=> ?_⟩,fun y c h=>⟨_,x.cell y c h⟩,e0.hok.fresh (Nat.le_refl _),fun y c h=> ?_,fun p hp=>absurd (show p∈([]:List (Addr×Obj)) from hp) (by simp),e0.hok.kept hk, ?_⟩
 ·exact name_of_addr x.apart (PySem.mem_of_lookup h1) (PySem.mem_of_lookup h2)
 ·have hy:scope.names.lookup y=some .cell\/scope.names.lookup y=some .free:=hy
  rcases hy with hy|hy
  ·exact zJ hy
  ·exact absurd rfl (S.Q6 _ (PySem.mem_of_lookup hy))
 ·exact Nat.le_of_lt (x.above y c (PySem.mem_of_lookup h))
 ·have hi:i<vs.length:=by
   unfold start at h2
   by_cases hi:i<vs.length
   ·exact hi
   ·rw [List.getElem?_append_right (by simpa using hi)] at h2
    rw [List.getElem?_replicate] at h2;split at h2<;>cases h2
  have ha:vs[i]? = some v:=by
   unfold start at h2;rw [List.getElem?_append_left (by simpa using hi),List.getElem?_map] at h2;cases e:vs[i]? with
   | none=>rw [e] at h2;cases h2
   | some a=>rw [e] at h2;cases h2;rfl
  obtain ⟨u,hu,rv⟩:=r.get ha
  have hp:ps[i]? = some y:=by
   rw [←S.pre,List.getElem?_take_of_lt (by omega)];exact h1
  have ndP:ps.Nodup:=by rw [←S.pre];exact S.nd.sublist (List.take_sublist _ _)
  refine ⟨u,rv, ?_⟩;rcases S.par y (List.mem_of_getElem? hp) with k|k
  ·exact .inl ⟨k,vo ndP hp hu k⟩
  ·obtain ⟨c,e⟩:=zJ (n:=s.heap.objs.size+1) k
   refine .inr ⟨.inl k,c,e, ?_⟩;have q:=x.cell y c e;rw [vq ndP hp hu (by show scope.names.lookup y≠_;rw [k];decide)] at q;exact q
 ·exact e0.hok.fresh (Nat.le_of_lt (x.above y c (PySem.mem_of_lookup h)))
 ·unfold start
  show _=N.length;rw [List.length_append,List.length_map,List.length_replicate];omega
theorem O5 {CX:Gp} {P:Program} {w:World} {K:PySem.W.Frag} {mg:Str->Option Value} {base:Heap} {k:Nat} {f:Addr} {name qual:Str} {params:Arguments} {body:List Stmt} {scope:Scope} {dV kV doc pm cdv ct oc:Value} {an od:Option Addr}
 {osl:Array (Option Value)} {N ps:List Str} {sp:Sp} (lk:K.lookup f=some ⟨oc,od,.func (PySem.W.fnOf name qual params body scope dV kV doc pm an cdv ct),osl⟩) (hcd:PySem.W.codeIn K cdv qual=true) (S:bh N ps scope)
 (len:∀vs H Q E,sp vs H Q E->vs.length=ps.length)
 (hbody:∀(A:Around) (outer:List Env) (s:Shared) (H:Hp) (vs:List V) (Q:VK) (E:XK),cU k (A.deeper (envOfC qual scope s.heap.objs.size f cdv))->sp vs H Q E ->
   ∃t,DX (wR CX P w K mg base N qual scope f cdv A outer s H E) body t/\t {nx:=fun _ H'=>Q .non H',rt:=Q} (start N vs) H):
 cT P w K mg base CX (k+1) f (PySem.W.fnOf name qual params body scope dV kV doc pm an cdv ct) ps sp:=by
 refine ⟨len,fun A outer s H args us vs Q E hr e0 hb r hsp=> ?_⟩;have hl:=len _ _ _ _ hsp;have KX:K.In s.heap:=e0.mod.kin.keeps fun b o e=>(e0.bs b o e).1;have lim:s.heap.NoLimit:=e0.mod.nolimit.keeps fun b o e=>(e0.bs b o e).1
 have hkind:∀y∈ps.zip us,scope.names.lookup y.1=some .local\/(scope.names.lookup y.1=some .cell/\((cellsFrom (s.heap.objs.size+1) scope.names []).lookup y.1).isSome=true):=fun ⟨n,v⟩ hy=>by
  rcases S.par n (List.of_mem_zip hy).1 with q|q
  ·exact .inl q
  ·exact .inr ⟨q,PySem.W.cellsFrom_some _ _ _ (.inl q)⟩
 refine codeAny_call_function hr.depth (KX _ _ lk) rfl S.co S.gen rfl (PySem.W.codeRec_of KX hcd) (hb _ _ _ _ ?_);refine wpAny_newFunctionEnv_cells S.kind hkind fun env he s1 x=> ?_;subst he;refine ⟨lim.keeps x.toInCall.keep,codeAny_func ?_⟩;obtain ⟨t,ht,hq⟩:=hbody A outer s H vs Q E (hr.deeper _) hsp;have I:Inv (wR CX P w K mg base N qual scope f cdv A outer s H E) [] (start N vs) H s1:=uV S hr.hd e0 hl r x;refine wpAny_mono (ht [] s1 (start N vs) H _ I hq) (fun fl s' hs=> ?_) fun e s' hs=>hs
 have fin:∀{σ':St} {H':Hp} {v:V} {u:Value},Inv (wR CX P w K mg base N qual scope f cdv A outer s H E) [] σ' H' s'->RelV v u->Q v H'->CE outer P w H s Q u s':=
  fun {σ' H' v u} J rv q=>⟨v,H',J.os,J.bare,J.base,J.hok,rv,q⟩
 cases fl with
 | ret u=>
   obtain ⟨v,σ',H',J,rv,q⟩:=hs;exact fin J rv q
 | next=>
   obtain ⟨σ',H',J,q⟩:=hs;exact fin (v:=V.non) (u:=Value.none) J rfl q
 | brk=>
   obtain ⟨_,_,_,q⟩:=hs;exact False.elim q
 | cont=>
   obtain ⟨_,_,_,q⟩:=hs;exact False.elim q
end L2
namespace L2
open PySem PySem.Spec PyProof.Rows
section
variable {X:Cx} {x:Str} {p pos:Pos} {e:Expr} {es:List Expr} {t:TA} {id T:String} {r:List V->Hp->VK->Prop}
def Y7 (r:List V->Hp->VK->Prop) (t:TA):TE:=fun σ H Q=>t σ H fun vs H1=>r vs H1 Q
theorem aU (hc:fO X (.builtin id) r) (hg:Gl X x) (hm:X.mg x=none) (hv:bootBuiltins x=some (.builtin id)) (ha:PA X (e::es) t) (hn:x ≠ "__name__" :=by decide) (hdb:(x==("__debug__" :Str))=false:=by decide)
 (he:starEach (e::es) X.env=(false,eval e X.env)::starEach es X.env:=by rfl) (hpl:(backTo pos (starEach es X.env)).any (·.1)=false:=by rfl):PE X (.Call (.Name x p) (e::es) [] pos) (Y7 r t):=by
 intro pins s σ H Q I h;refine wpAny_Call_Name_kw (lu I hg hm hv ?_ hn hdb);exact PyProof.Rows.callWith_builtin1 (cR (ha pos pins s σ H _ I h) fun us s1 ⟨vs,H1,I1,r1,q1⟩=>hc pins s1 σ H1 vs us Q I1 r1 q1) he hpl
theorem lK (hc:fO X (.type T) r) (hg:Gl X x) (hm:X.mg x=none) (hv:bootBuiltins x=some (.type T)) (ha:PA X (e::es) t) (hn:x ≠ "__name__" :=by decide) (hdb:(x==("__debug__" :Str))=false:=by decide)
 (he:starEach (e::es) X.env=(false,eval e X.env)::starEach es X.env:=by rfl) (hpl:(backTo pos (starEach es X.env)).any (·.1)=false:=by rfl):PE X (.Call (.Name x p) (e::es) [] pos) (Y7 r t):=by
 intro pins s σ H Q I h;refine wpAny_Call_Name_kw (lu I hg hm hv ?_ hn hdb);exact PyProof.Rows.callWith_type1 (cR (ha pos pins s σ H _ I h) fun us s1 ⟨vs,H1,I1,r1,q1⟩=>hc pins s1 σ H1 vs us Q I1 r1 q1) he hpl
end
end L2
namespace HT
open PySem PyProof.Rows
def lexLt:List Int->List Int->Bool
 | [],[]=>false
 | [],_::_=>true
 | _::_,[]=>false
 | x::xs,y::ys=>if x=y then lexLt xs ys else decide (x<y)
theorem jh (x y:Int) (xs ys:List Int):lexLt (x::xs) (y::ys)=if x=y then lexLt xs ys else decide (x<y):=rfl
theorem ux:lexLt [] []=false:=rfl
theorem sE (y:Int) (ys:List Int):lexLt [] (y::ys)=true:=rfl
theorem sG (x:Int) (xs:List Int):lexLt (x::xs) []=false:=rfl
theorem JV (A:Around) (s:Shared) (a:Int) (t:Tok) (c:Int) (u:Tok):∃e,SeqAt.EqAt A s (.int a t) (.int c u) e/\(e=true↔a=c):=
 ⟨(a==c),SeqAt.EqAt.int_int a t c u,by simp⟩
theorem Hx (A:Around) (s:Shared) (a:Int) (t:Tok) (c:Int) (u:Tok) (prog:Program) (w:World) (E:Value->Shared->Prop) (Q:Value->Shared->Prop) (h:Q (.bool (decide (a<c))) s):
 wpAny (model prog w) A (richCompare .Lt (.int a t) (.int c u)) Q E s:=
 (PyProof.Rows.lt_int h:wpAny (model prog w) A (compareOp .Lt (.int a t) (.int c u)) Q E s)
section
open PySem.SeqAt
open PySem.AutoSeq1 (wpAny_loadPart')
open PySem.MeetsSeq PySem.MeetsSeq2 PySem.MeetsSeq3
theorem um (l b:Addr) (items items2:Array Value) (n n2:Nat) (dd dd2:Option Addr) (sl sl2:Array (Option Value)) (ns ms:List Int) (hi:IntsAre items.toList ns) (hj:IntsAre items2.toList ms):
 Meets (Builtin.«tuple.__lt__» ⟨[.ref l,.ref b],[]⟩)
  (fun _ R s=>s.heap.get? l=some {cls:= .type "tuple",dict:=dd,data:= .seq items n,slots:=sl}/\s.heap.get? b=some {cls:= .type "tuple",dict:=dd2,data:= .seq items2 n2,slots:=sl2} /\
    R (.ok (.ret (.bool (lexLt ns ms)))) s):=
 .of_wp fun prog w A R s h=>by
  obtain ⟨hp,g,d,tk,os⟩:=s;obtain ⟨hl,hb,h⟩:=h;have f2:=AutoSeq1.sub_tuple_tuple;have z1:items.size=ns.length:=by rw [←hi.length];simp
  have z2:items2.size=ms.length:=by rw [←hj.length];simp
  wp_walk using wpAny_loadPart' hl,wpAny_loadPart' hb,wpAny_forIn_list _ (fun rest b s'=>b.1=none/\s'=⟨hp,g,d,tk,os⟩ /\ ∃(vs ws:List Value) (ns' ms':List Int),rest=vs.zip ws /\
   IntsAre vs ns'/\IntsAre ws ms'/\ns'.length+items2.size=ms'.length+items.size/\R (.ok (.ret (.bool (lexLt ns' ms')))) ⟨hp,g,d,tk,os⟩) _
  case turn=>
   rintro ⟨y,x⟩ rest b s' ⟨hb',rfl,vs,ws,ns',ms',hz,hvi,hwi,hlen,hR⟩;cases hvi with
   | nil=>rw [List.zip_nil_left] at hz;cases hz
   | cons a t ab0=>
     cases hwi with
     | nil=>rw [List.zip_nil_right] at hz;cases hz
     | cons c u abZ=>
       rw [List.zip_cons_cons] at hz;injection hz with hyx hrest
       injection hyx with hy hx
       subst hy hx;rw [jh] at hR;simp only [List.length_cons] at hlen;obtain ⟨e,he,hiff⟩:=JV A.in1 ⟨hp,g,d,tk,os⟩ a t c u;refine wpAny_bind (he prog w _ _ ?_);cases e with
       | true=>
         rw [if_pos (hiff.mp rfl)] at hR
         wp_walk
         exact ⟨rfl,rfl,_,_,_,_,hrest,ab0,abZ,by omega,hR⟩
       | false=>
         rw [if_neg (fun q=>absurd (hiff.mpr q) Bool.false_ne_true)] at hR;have hri:=Hx A.in1 ⟨hp,g,d,tk,os⟩ a t c u prog w
         wp_walk using hri
         exact ⟨_,rfl,by simpa using hR⟩
  case fin=>
   rintro ⟨b1,b2⟩ s' ⟨hb',rfl,vs,ws,ns',ms',hz,hvi,hwi,hlen,hR⟩;simp only at hb';subst hb'
   have hv:lexLt ns' ms'=decide (items.size<items2.size):=by
    cases hvi with
    | nil=>
      cases hwi with
      | nil=>
        simp only [List.length_nil] at hlen;rw [ux];exact (decide_eq_false (by omega)).symm
      | cons c u hw=>
        simp only [List.length_nil,List.length_cons] at hlen;rw [sE];exact (decide_eq_true (by omega)).symm
    | cons a t hv=>
      cases hwi with
      | nil=>
        simp only [List.length_nil,List.length_cons] at hlen;rw [sG];exact (decide_eq_false (by omega)).symm
      | cons c u hw=>
        rw [List.zip_cons_cons] at hz;cases hz
   rw [hv] at hR
   wp_walk
   exact ⟨_,rfl,by simpa [Builtin.Tuple.tupleCompareSizes] using hR⟩
  case h=>
   exact ⟨rfl,rfl,items.toList,items2.toList,ns,ms,rfl,hi,hj,by omega,h⟩
end
section
variable {prog:Program} {w:World} {A:Around} {E:Value->Shared->Prop} {s:Shared}
theorem A_ {l b:Addr} {items items2:Array Value} {ns ms:List Int} {Q:Value->Shared->Prop} (hl:IsTup s.heap l items) (hb:IsTup s.heap b items2) (hi:IntsAre items.toList ns) (hj:IntsAre items2.toList ms)
 (hu:A.units<cLine) (h:Q (.bool (lexLt ns ms)) s):wpAny (model prog w) A (compareOp .Lt (.ref l) (.ref b)) Q E s:=by
 obtain ⟨⟨cls,dd,data,sl⟩,ho,hc,n,hd⟩:=id hl;obtain ⟨⟨cls2,dd2,data2,sl2⟩,ho2,hc2,n2,hd2⟩:=id hb;simp only at hc hd hc2 hd2;subst hc hd hc2 hd2
 exact richCompare_meets_room (op:= .Lt) ⟨_,ho,rfl⟩ ⟨_,ho2,rfl⟩ PySem.F.slot_tuple_lt PySem.F.entry_tuple_lt (PySem.F.args_tuple_lt_2 _ _) (um l b items items2 n n2 dd dd2 sl sl2 ns ms hi hj)
  ⟨ho,ho2,show Value.bool (lexLt ns ms)≠Value.notImplemented/\Q (.bool (lexLt ns ms)) s from ⟨(fun x=>nomatch x),h⟩⟩ hu
theorem Np {t b:Addr} {vs ws:List Value} {Q:Value->Shared->Prop} (ht:IsTup s.heap t vs.toArray) (hb:IsTup s.heap b ws.toArray) (hv:vs≠[])
 (h1:ws=[]->Q (.ref t) s) (h2:ws≠[]->Q (.ref s.heap.objs.size) {s with heap:=s.heap.push {cls:= .type "tuple",data:= .seq (vs++ws).toArray}})
 (hsz:vs.length+ws.length<=sizeLine):wpAny (model prog w) A (binaryOp .Add (.ref t) (.ref b)) Q E s:=by
 obtain ⟨⟨cls,dd,data,sl⟩,ho,hc,n,hd⟩:=id ht;obtain ⟨⟨cls2,dd2,data2,sl2⟩,ho2,hc2,n2,hd2⟩:=id hb;simp only at hc hd hc2 hd2;subst hc hd hc2 hd2;have e:vs.toArray++ws.toArray=(vs++ws).toArray:=by simp
 by_cases hw:ws=[]
 ·exact concat_meets ⟨_,ho,rfl⟩ ⟨_,ho2,rfl⟩ noFill_tuple_add seq_tuple_add PySem.F.slot_tuple_add PySem.F.entry_tuple_add (PySem.F.args_tuple_add_2 _ _)
   (tuple_addW1 t b vs.toArray ws.toArray n n2 dd dd2 sl sl2 (by simpa using hv) (by simp [hw])) ⟨ho,ho2,h1 hw⟩
 ·refine concat_meets ⟨_,ho,rfl⟩ ⟨_,ho2,rfl⟩ noFill_tuple_add seq_tuple_add PySem.F.slot_tuple_add PySem.F.entry_tuple_add (PySem.F.args_tuple_add_2 _ _)
   (tuple_addW2 t b vs.toArray ws.toArray n n2 dd dd2 sl sl2 (by simpa using hv) (by simpa using hw) (by rw [List.size_toArray,List.size_toArray];exact hsz)) ⟨ho,ho2, ?_⟩
  rw [e];exact h2 hw
def gn (n d:Nat):Option Int->Nat
 | none=>d
 | some v=>if v<0 then (v+(n:Int)).toNat else min v.toNat n
theorem rF (n d:Nat):gn n d none=d:=rfl
theorem vR (n d k:Nat):gn n d (some (k:Int))=min k n:=by
 show (if (k:Int)<0 then ((k:Int)+(n:Int)).toNat else min (k:Int).toNat n)=min k n;rw [if_neg (by omega),Int.toNat_natCast]
theorem Qn (n d:Nat) (hd:d<=n) (o:Option Int):gn n d o<=n:=by
 cases o with
 | none=>exact hd
 | some v=>
   show (if v<0 then (v+(n:Int)).toNat else min v.toNat n)<=n
   by_cases hv:v<0
   ·rw [if_pos hv];omega
   ·rw [if_neg hv];exact Nat.min_le_right _ _
theorem DR (v:Int) (n d:Nat):(if v<0 then max (v+(n:Int)) 0 else min v (n:Int))=((gn n d (some v):Nat):Int):=by
 show (if v<0 then max (v+(n:Int)) 0 else min v (n:Int))=(((if v<0 then (v+(n:Int)).toNat else min v.toNat n):Nat):Int)
 by_cases hv:v<0
 ·simp only [if_pos hv];omega
 ·simp only [if_neg hv];omega
theorem BL (lo hi:Option Int) (n:Nat):Builtin.Slice.sliceAdjust lo hi 1 (n:Int)=(((gn n 0 lo:Nat):Int),((gn n n hi:Nat):Int)):=by
 have h1:¬((1:Int)<0):=by omega
 unfold Builtin.Slice.sliceAdjust;simp only [h1,if_false];refine Prod.ext ?_ ?_
 ·cases lo with
  | none=>rfl
  | some v=>exact DR v n 0
 ·cases hi with
  | none=>rfl
  | some v=>exact DR v n n
theorem Ao (i j:Nat):Builtin.Slice.slicePlaces (i:Int) (j:Int) 1=j - i:=by
 unfold Builtin.Slice.slicePlaces;have h1:(1:Int)>0:=by omega
 simp only [h1,if_true,Int.ediv_one];split<;>omega
theorem rA {v:Value} {o:Option Int} {Q:Option Int->Shared->Prop} (p:IsPart v o) (h:Q o s):wpAny (model prog w) A (Builtin.Slice.slicePartIndex v) Q E s:=by
 cases p with
 | none=>exact slicePart_none h
 | int i t=>exact slicePart_int h
theorem oV {sl:Addr} {vl vu:Value} {lo hi:Option Int} {n:Nat} {Q:Int×Int×Nat->Shared->Prop} (hs:s.heap.IsSliceOf sl vl vu .none) (pl:IsPart vl lo) (pu:IsPart vu hi)
 (h:Q (((gn n 0 lo:Nat):Int),1,gn n n hi - gn n 0 lo) s):wpAny (model prog w) A (Builtin.Slice.sliceApplied (.ref sl) (pure (n:Int))) Q E s:=by
 obtain ⟨os,hos,hcs,hds⟩:=id hs;unfold Builtin.Slice.sliceApplied Builtin.Slice.sliceFields;refine wpAny_bind (wpAny_bind (wpAny_field hos hds (x:=vl) rfl (wpAny_bind (wpAny_field hos hds (x:=vu) rfl (wpAny_bind (wpAny_field hos hds (x:= .none) rfl (wpAny_pure ?_)))))));refine wpAny_bind (slicePart_none ?_);show wpAny _ _ (if ((1:Int)==0)=true then _ else _) _ _ s;rw [if_neg (by decide)];refine wpAny_bind (rA pl (wpAny_bind (rA pu (wpAny_bind (wpAny_pure ?_)))));show wpAny _ _ (match Builtin.Slice.sliceAdjust lo hi 1 (n:Int) with |(lo,hi)=>pure (lo,(1:Int),Builtin.Slice.slicePlaces lo hi 1)) _ _ s;rw [BL lo hi n];show wpAny _ _ (pure (((gn n 0 lo:Nat):Int),(1:Int),Builtin.Slice.slicePlaces ((gn n 0 lo:Nat):Int) ((gn n n hi:Nat):Int) 1)) _ _ s;rw [Ao];exact wpAny_pure h
theorem H_ (xs:Array Value) (i k:Nat):((List.range k).filterMap fun (m:Nat)=>xs[((i:Int)+(m:Int)*1).toNat]?).toArray=((xs.toList.drop i).take k).toArray:=by
 have e:(fun (m:Nat)=>xs[((i:Int)+(m:Int)*1).toNat]?)=fun m=>xs[i+m]? :=by
  funext m;have:((i:Int)+(m:Int)*1).toNat=i+m:=by omega
  rw [this]
 rw [e];have:=pick_run xs i k;rw [List.filterMap_map] at this;have e2:((fun x=>xs[x]?)∘fun x=>i+x)=fun m=>xs[i+m]? :=rfl;rw [e2] at this;rw [this]
theorem nY {t sl:Addr} {items:Array Value} {vl vu:Value} {lo hi:Option Int} {Q:Value->Shared->Prop} (ht:IsTup s.heap t items) (hs:s.heap.IsSliceOf sl vl vu .none) (pl:IsPart vl lo) (pu:IsPart vu hi)
 (hw:¬(gn items.size 0 lo=0/\gn items.size items.size hi=items.size))
 (h:Q (.ref s.heap.objs.size) {s with heap:=s.heap.push {cls:= .type "tuple",data:= .seq ((items.toList.drop (gn items.size 0 lo)).take (gn items.size items.size hi - gn items.size 0 lo)).toArray}})
 (hsz:items.size<=sizeLine):wpAny (model prog w) A (getItem (.ref t) (.ref sl)) Q E s:=by
 have Dp:sizeOk (.seq ((items.toList.drop (gn items.size 0 lo)).take (gn items.size items.size hi - gn items.size 0 lo)).toArray):=by
  show ((items.toList.drop (gn items.size 0 lo)).take (gn items.size items.size hi - gn items.size 0 lo)).toArray.size<=sizeLine;rw [List.size_toArray,List.length_take,List.length_drop,Array.length_toList];omega
 have hj:gn items.size items.size hi<=items.size:=Qn _ _ (Nat.le_refl _) hi;obtain ⟨os,hos,hcs,hds⟩:=id hs;have hTs:s.TypeIs (.ref sl) "slice" :=⟨os,hos,hcs⟩;unfold getItem
 try with_reducible refine wpAny_holding ?_
 first |refine wpAny_bind (wpAny_pure ?_)|skip
 refine wpAny_bind (wpAny_sequenceKey ht.typeIs (by decide) ?_)
 refine wpAny_bind (wpAny_callSpecial?_slot (name:=Str.ofString "__getitem__") ht.typeIs PyProof.Rows.slot_tuple_getitem
  (wpAny_call_entry PyProof.Rows.slot_tuple_getitem ht.typeIs entry_tuple_getitem ?_ (args_tuple_getitem _ _)))
 show wpAny _ _ (Builtin.Tuple.tupleItemsOf (.ref t) >>= _) _ _ s;refine wpAny_bind (tupleItemsOf_ ht ?_);refine wpAny_bind (wpAny_typeOf hTs ?_);rw [if_pos (by decide)];refine wpAny_bind (oV hs pl pu ?_)
 have hno:¬((((gn items.size 0 lo:Nat):Int)==0&&(1:Int)==1&&(gn items.size items.size hi - gn items.size 0 lo)==items.size)=true):=by
  intro q;rw [Bool.and_eq_true,Bool.and_eq_true] at q;have q1:((gn items.size 0 lo:Nat):Int)=0:=eq_of_beq q.1.1;have q2:gn items.size items.size hi - gn items.size 0 lo=items.size:=eq_of_beq q.2;exact hw ⟨by omega,by omega⟩
 show wpAny _ _ (if (((gn items.size 0 lo:Nat):Int)==0&&(1:Int)==1&&(gn items.size items.size hi - gn items.size 0 lo)==items.size)=true then _ else _) _ _ s;rw [if_neg hno,H_]
 first
  | exact wpAny_bind (m:=Builtin.Tuple.tupleExact _) (wpAny_newObj_type (wpAny_pure ⟨_,rfl,wpAny_pure h⟩) Dp)
  | exact wpAny_bind (m:=Builtin.Tuple.tupleExact _) (wpAny_newObj_type (wpAny_bind (wpAny_pure (wpAny_pure ⟨_,rfl,wpAny_pure h⟩))) Dp)
  | exact wpAny_bind (wpAny_bind (m:=Builtin.Tuple.tupleExact _) (wpAny_newObj_type (wpAny_pure (wpAny_pure ⟨_,rfl,wpAny_pure h⟩)) Dp))
  | exact wpAny_bind (wpAny_bind (m:=Builtin.Tuple.tupleExact _) (wpAny_newObj_type (wpAny_pure ⟨_,rfl,wpAny_pure h⟩) Dp))
end
end HT
namespace L2
open PySem PySem.Spec PyProof.Rows
abbrev TO:=St->Hp->(Option Int->Hp->Prop)->Prop
def PO (X:Cx) (e:Option Expr) (t:TO):Prop:=
 ∀(pins:List (Addr×Obj)) (s:Shared) (σ:St) (H:Hp) (Q:Option Int->Hp->Prop),Inv X pins σ H s->t σ H Q ->
  wpAny (model X.prog X.w) X.A (evalPart e X.env) (fun u s'=>∃o H',Inv X pins σ H' s'/\IsPart u o/\Q o H') X.xe s
def K_:TO:=fun _ H Q=>Q none H
def TX (t:TE):TO:=fun σ H Q=>t σ H fun x H1=>∃i,x = .int i/\Q (some i) H1
theorem intsAre_of {ns:List Int}:∀{us:List Value},Vals (ns.map V.int) us->IntsAre us ns:=by
 induction ns with
 | nil=>intro us r;rw [List.map_nil] at r;cases r;exact .nil
 | cons n ns ih=>
   intro us r;rw [List.map_cons] at r;cases r with
   | cons r1 r2=>
     obtain ⟨t,e⟩:=r1;subst e;exact .cons n t (ih r2)
section
variable {X:Cx} {e:Expr} {te:TE} {lo hi:Option Expr} {tl th:TO} {pos p2:Pos}
theorem cP:PO X none K_:=by
 intro pins s σ H Q I h;rw [evalPart_none];exact wpAny_pure ⟨none,H,I,.none,h⟩
theorem cO (h:PE X e te):PO X (some e) (TX te):=by
 intro pins s σ H Q I hw;rw [evalPart_some];refine cR (h pins s σ H _ I hw) fun u s1 ⟨x,H1,I1,r1,q1⟩=> ?_;obtain ⟨i,rfl,q⟩:=q1;obtain ⟨t,rfl⟩:=r1;exact ⟨some i,H1,I1,.int i t,q⟩
def W_ (X:Cx) (r:V->Option Int->Option Int->Hp->VK->Prop):Prop:=
 ∀(pins:List (Addr×Obj)) (s:Shared) (σ:St) (H:Hp) (x:V) (v vl vu:Value) (lo hi:Option Int) (sl:Addr) (Q:VK),Inv X pins σ H s->RelV x v->s.heap.IsSliceOf sl vl vu .none->IsPart vl lo->IsPart vu hi->r x lo hi H Q ->
  ∃T id,typeLookup (.type T) "__getitem__" = pure (some (.builtin id))/\s.TypeIs v T/\wpAny (model X.prog X.w) X.A (getItem v (.ref sl)) (EP X pins σ Q) X.xe s
def tSl (r:V->Option Int->Option Int->Hp->VK->Prop) (te:TE) (tl th:TO):TE:=fun σ H Q=>te σ H fun x H1=>tl σ H1 fun l H2=>th σ H2 fun u H3=>r x l u H3 Q
theorem cj {r:V->Option Int->Option Int->Hp->VK->Prop} (hr:W_ X r) (he:PE X e te) (hl:PO X lo tl) (hu:PO X hi th):PE X (.Subscript e (.Slice lo hi none p2) pos) (tSl r te tl th):=by
 intro pins s σ H Q I h;refine Subscript_ (cR (he pins s σ H _ I h) fun v s1 ⟨x,H1,I1,r1,q1⟩=> ?_);refine wpAny_Slice (cR (hl pins s1 σ H1 _ I1 q1) fun vl s2 ⟨l,H2,I2,pl,q2⟩=>cR (hu pins s2 σ H2 _ I2 q2) fun vu s3 ⟨u,H3,I3,pu,q3⟩=> ?_);rw [evalPart_none];refine wpAny_pure ?_;have I4:Inv X pins σ H3 {s3 with heap:=s3.heap.push {cls:= .type "slice",data:= .fields #[vl,vu,.none]}}:=I3.kept (t':=s3.toks) fun b ob q=>Heap.get?_push_of_some _ q;obtain ⟨T,id,hT,ht,hg⟩:=hr pins {s3 with heap:=s3.heap.push {cls:= .type "slice",data:= .fields #[vl,vu,.none]}} σ H3 x v vl vu l u s3.heap.objs.size Q I4 r1 (Heap.IsSliceOf.new ..) pl pu q3;show wpAny (model X.prog X.w) X.A (subscriptTail e (.Slice lo hi none p2) v (.ref s3.heap.objs.size)) (EP X pins σ Q) X.xe {s3 with heap:=s3.heap.push {cls:= .type "slice",data:= .fields #[vl,vu,.none]}};exact tail_any (ops:=[.ref s3.heap.objs.size,v]) ht hT hg (by with_unfolding_all rfl)
def gq (xs:List V) (lo hi:Option Int):List V:=(xs.drop (HT.gn xs.length 0 lo)).take (HT.gn xs.length xs.length hi - HT.gn xs.length 0 lo)
theorem pX (xs:List V) (lo hi:Option Int):(gq xs lo hi).length<=xs.length:=by
 unfold gq;rw [List.length_take,List.length_drop];omega
def Ul (K:PySem.W.Frag):V->Option Int->Option Int->Hp->VK->Prop:=fun x lo hi H Q=>∃a xs,x = .ref a/\bZ K H a xs /\
 ¬(HT.gn xs.length 0 lo=0/\HT.gn xs.length xs.length hi=xs.length) /\ ∀p,H p=none->Q (.ref p) (upd H p (.tup (gq xs lo hi)))
theorem Ql:W_ X (Ul X.K):=by
 intro pins s σ H x v vl vu lo hi sl Q I rx hs pl pu h;obtain ⟨a,xs,rfl,hx,hw,q⟩:=h;cases rx;obtain ⟨its,r,ht,hz⟩:=I.tuple hx;have hlen:its.toArray.size=xs.length:=by rw [List.size_toArray];exact r.length.symm
 refine ⟨"tuple",_,PyProof.Rows.slot_tuple_getitem.lookup,ht.typeIs, ?_⟩;refine HT.nY ht hs pl pu (by rw [hlen];exact hw) ?_ (by rw [hlen];exact hz);rw [hlen];refine ⟨.ref s.heap.objs.size,_,I.laid (t':=s.toks) (o:= .tup (gq xs lo hi)) (fun b ob q=>Heap.get?_push_of_some _ q) (Nat.le_refl _) ?_,rfl,q _ (I.hok.fresh (Nat.le_refl _))⟩;exact ⟨Nat.le_trans (pX xs lo hi) hz,_,(r.drop (HT.gn xs.length 0 lo)).take (HT.gn xs.length xs.length hi - HT.gn xs.length 0 lo),IsTup.new _ _⟩
def Oi (K:PySem.W.Frag):R2:=fun x y H Q=>∃a b xs ys,x = .ref a/\y = .ref b/\bZ K H a xs/\bZ K H b ys/\xs≠[]/\xs.length+ys.length<=sizeLine /\
 (ys=[]->Q (.ref a) H)/\(ys≠[] -> ∀p,H p=none->Q (.ref p) (upd H p (.tup (xs++ys))))
theorem Vals.wz {xs:List V} {us:List Value} (r:Vals xs us):us=[]↔xs=[]:=by
 cases r with
 | nil=>simp
 | cons _ _=>simp
theorem Ma:ni X (binaryOp .Add) (Oi X.K):=by
 intro pins s σ H x y v u Q I rx ry h;obtain ⟨a,b,xs,ys,rfl,rfl,ha,hb,hx,hz,q1,q2⟩:=h;cases rx;cases ry;obtain ⟨its,r1,p1,_⟩:=I.tuple ha;obtain ⟨its2,r2,p2,_⟩:=I.tuple hb;refine HT.Np p1 p2 (fun z=>hx (r1.wz.mp z)) (fun z=>⟨.ref a,H,I,rfl,q1 (r2.wz.mp z)⟩) (fun z=> ?_) (by rw [←r1.length,←r2.length];exact hz);refine ⟨.ref s.heap.objs.size,_,I.laid (t':=s.toks) (o:= .tup (xs++ys)) (fun b ob q=>Heap.get?_push_of_some _ q) (Nat.le_refl _) ?_,rfl,q2 (fun w=>z (r2.wz.mpr w)) _ (I.hok.fresh (Nat.le_refl _))⟩;exact ⟨by rw [List.length_append];exact hz,_,r1.append r2,IsTup.new _ _⟩
end
end L2
namespace L2
open PySem PySem.Spec PyProof.Rows
def MJ (n:Nat) (i:Int):Option Nat:=if 0<=i then (if i<n then some i.toNat else none) else if -(n:Int)<=i then some (i+n).toNat else none
def Gh {α:Type} (xs:List α) (i:Int):Option α:=(MJ xs.length i).bind fun j=>xs[j]?
theorem Dj {n:Nat} {i:Int} {j:Nat} (h:MJ n i=some j):seqIndex? i n=some j/\j<n /\ -(n:Int)<=i/\i<n:=by
 unfold MJ at h
 by_cases h0:0<=i
 ·rw [if_pos h0] at h
  by_cases h1:i<n
  ·rw [if_pos h1] at h
   have e:i.toNat=j:=Option.some.inj h;exact ⟨by rw [seqIndex_of h0 h1,e],by omega,by omega,h1⟩
  ·rw [if_neg h1] at h;cases h
 ·rw [if_neg h0] at h
  by_cases h1: -(n:Int)<=i
  ·rw [if_pos h1] at h
   have e:(i+n).toNat=j:=Option.some.inj h;exact ⟨by rw [seqIndex_neg (by omega) h1,e],by omega,h1,by omega⟩
  ·rw [if_neg h1] at h;cases h
theorem DW {α:Type} {xs:List α} {i:Int} {v:α} (h:Gh xs i=some v):∃j,seqIndex? i xs.length=some j/\xs[j]? = some v/\j<xs.length /\ -(xs.length:Int)<=i/\i<xs.length:=by
 unfold Gh at h;cases e:MJ xs.length i with
 | none=>rw [e] at h;cases h
 | some j=>
   rw [e] at h;obtain ⟨h1,h2,h3,h4⟩:=Dj e;exact ⟨j,h1,h,h2,h3,h4⟩
theorem eN {α:Type} {xs:List α} {j:Nat} {v:α} (h:xs[j]? = some v):Gh xs (j:Int)=some v:=by
 have hj:j<xs.length:=(List.getElem?_eq_some_iff.mp h).1
 have e:MJ xs.length (j:Int)=some j:=by
  unfold MJ;rw [if_pos (by omega),if_pos (by omega)];simp
 unfold Gh;rw [e];exact h
def NQ (b:Expr):Prop:=∀o i,subscripted b false o i=operate [o,i] (getItem o i)
def Xg (X:Cx) (r:R2):Prop:=
 ∀(value slice:Expr) (pins:List (Addr×Obj)) (s:Shared) (σ:St) (H:Hp) (x y:V) (v u:Value) (Q:VK),Inv X pins σ H s->RelV x v->RelV y u->r x y H Q ->
  subscripted slice false v u=operate [v,u] (getItem v u)->wpAny (model X.prog X.w) X.A (subscriptTail value slice v u) (EP X pins σ Q) X.xe s
def MtR (X:Cx) (id:String) (r:V->List V->Hp->VK->Prop):Prop:=
 ∀(pins:List (Addr×Obj)) (s:Shared) (σ:St) (H:Hp) (x:V) (xs:List V) (v:Value) (us:List Value) (Q:VK),Inv X pins σ H s->RelV x v->Vals xs us->r x xs H Q ->
  wpAny (model X.prog X.w) X.A (call (.builtin id) (v::us)) (EP X pins σ Q) X.xe s
section
variable {X:Cx} {a b:Expr} {ta tb:TE} {pos:Pos}
theorem aK {r:R2} (hr:Xg X r) (ha:PE X a ta) (hb:PE X b tb) (hs:NQ b):PE X (.Subscript a b pos) (vH r ta tb):=by
 intro pins s σ H Q I h;exact Subscript_ (R9 ha hb I h fun v u s2 x y H2 I2 rx ry q=>hr a b pins s2 σ H2 x y v u Q I2 rx ry q (hs _ _))
def Qt (K:PySem.W.Frag):R2:=fun x y H Q=>∃p xs i v,x = .ref p/\y = .int i/\aV K H p xs/\Gh xs i=some v/\Q v H
def yw (K:PySem.W.Frag):R2:=fun x y H Q=>∃p xs i v,x = .ref p/\y = .int i/\bZ K H p xs/\Gh xs i=some v/\Q v H
theorem Mz:Xg X (Qt X.K):=by
 intro value slice pins s σ H x y v u Q I rx ry h hs;obtain ⟨p,xs,i,z,rfl,rfl,hq,he,q⟩:=h;cases rx;obtain ⟨t,rfl⟩:=ry;obtain ⟨its,r,pl,hz⟩:=I.list hq;obtain ⟨j,h1,h2,h3,h4,h5⟩:=DW he;obtain ⟨w,ew,rw'⟩:=r.get h2;have hl:=r.length;have hn:=o8;have fin:EP X pins σ Q w s:=⟨z,H,I,rw',q⟩
 by_cases h0:0<=i
 ·have hj:i.toNat=j:=by
   rw [seqIndex_of h0 h5] at h1;exact Option.some.inj h1
  exact item_listR pl.isList h0 (by omega) (by rw [hj];simpa using ew) fin hs
 ·have hj:(i+(its.toArray.size:Int)).toNat=j:=by
   rw [seqIndex_neg (by omega) h4] at h1;rw [List.size_toArray,←hl];exact Option.some.inj h1
  exact subscriptTail_builtinR (x:=w) pl.isList.typeIs slot_list_getitem.lookup
   (wpAny_getItem_list_neg (Q:=fun r s'=>r=w/\EP X pins σ Q r s') pl.isList (by omega) (by rw [List.size_toArray]<;>omega) (by omega) (by rw [hj];simpa using ew) ⟨rfl,fin⟩) hs
theorem Rr:Xg X (yw X.K):=by
 intro value slice pins s σ H x y v u Q I rx ry h hs;obtain ⟨p,xs,i,z,rfl,rfl,hq,he,q⟩:=h;cases rx;obtain ⟨t,rfl⟩:=ry;obtain ⟨its,r,pl,hz⟩:=I.tuple hq;obtain ⟨j,h1,h2,h3,h4,h5⟩:=DW he;obtain ⟨w,ew,rw'⟩:=r.get h2;have hl:=r.length;have hn:=o8;have fin:EP X pins σ Q w s:=⟨z,H,I,rw',q⟩
 exact subscriptTail_builtinR (x:=w) pl.typeIs slot_tuple_getitem.lookup
  (getItem_tuple (j:=j) (Q:=fun r s'=>r=w/\EP X pins σ Q r s') pl (by omega) (by omega) (by rw [List.size_toArray,←hl];exact h1) (by simpa using ew) ⟨rfl,fin⟩) hs
theorem Az (its:List Value) (n j:Nat) (u:Value):Obj.mapSeq (·.setIfInBounds j u) {cls:= .type "list",data:= .seq its.toArray n}={cls:= .type "list",data:= .seq (its.set j u).toArray n}:=by
 simp [Obj.mapSeq]
theorem Inv.lst {pins:List (Addr×Obj)} {σ:St} {H:Hp} {s:Shared} {p:Addr} {xs:List V} (I:Inv X pins σ H s) (h:H p=some (.lst xs)):
 ∃(its:List Value) (n:Nat),Vals xs its/\s.heap.get? p=some {cls:= .type "list",data:= .seq its.toArray n}/\xs.length<=sizeLine:=by
 obtain ⟨z,its,n,r,e⟩:=I.hok p _ h;exact ⟨its,n,r,e,z⟩
theorem Inv.Ri {pins:List (Addr×Obj)} {σ:St} {H:Hp} {s:Shared} {p:Addr} {xs ys:List V} {its its':List Value} {n n':Nat} {f:Obj->Obj} (I:Inv X pins σ H s) (h:H p=some (.lst xs))
 (ho:s.heap.get? p=some {cls:= .type "list",data:= .seq its.toArray n}) (hf:f {cls:= .type "list",data:= .seq its.toArray n}={cls:= .type "list",data:= .seq its'.toArray n'}) (r:Vals ys its') (hz:ys.length<=sizeLine) (t:Nat):
 Inv X pins σ (upd H p (.lst ys)) {s with heap:=s.heap.update p f,toks:=t}:=by
 have e:(s.heap.update p f).get? p=some {cls:= .type "list",data:= .seq its'.toArray n'}:=by
  rw [Heap.get?_update_self f ho (by rw [hf]<;>rfl),hf]
 refine I.write (x:=p) (e:=p) (by rw [h];trivial) (.inl rfl) (fun b u hb q=>(Heap.get?_update_other _ _ (Ne.symm hb)).trans q) ⟨_,e⟩ ?_;exact ⟨hz,its',n',r,e⟩
def Uq:V->V->V->Hp->(Hp->Prop)->Prop:=fun o i v H Q=>∃p xs k j,o = .ref p/\i = .int k/\H p=some (.lst xs)/\MJ xs.length k=some j/\Q (upd H p (.lst (xs.set j v)))
theorem set_list:Xb X Uq:=by
 intro pins s σ H o i v ov iv u Q I ro ri rv h;obtain ⟨p,xs,k,j,rfl,rfl,hp,hj,q⟩:=h;cases ro;obtain ⟨t,rfl⟩:=ri;obtain ⟨its,n,r,ho,hz⟩:=I.lst hp;obtain ⟨h1,h2,h3,h4⟩:=Dj hj;have hl:=r.length;have hn:=o8
 have I':Inv X pins σ (upd H p (.lst (xs.set j v))) {s with heap:=s.heap.update p (Obj.mapSeq (·.setIfInBounds j u))}:=
  I.Ri hp ho (Az its n j u) (r.set rv j) (by rw [List.length_set];exact hz) s.toks
 by_cases h0:0<=k
 ·have hk:k.toNat=j:=by
   rw [seqIndex_of h0 h4] at h1;exact Option.some.inj h1
  exact PySem.W.ki_setAt ho h0 (by omega) (by rw [List.size_toArray,←hl];exact h4) (by rw [hk];exact ⟨_,I',q⟩)
 ·have hk:(k+(its.toArray.size:Int)).toNat=j:=by
   rw [seqIndex_neg (by omega) h3] at h1;rw [List.size_toArray,←hl];exact Option.some.inj h1
  exact PySem.W.ki_setBack ho (by omega) (by rw [List.size_toArray,←hl];exact h3) (by omega) (by rw [hk];exact ⟨_,I',q⟩)
theorem vP (lo hi:Option Int) (n:Nat):(sliceBounds lo hi none n).1=((HT.gn n 0 lo:Nat):Int)/\(sliceBounds lo hi none n).2.1=((HT.gn n n hi:Nat):Int)/\(sliceBounds lo hi none n).2.2=1:=by
 refine ⟨?_, ?_,rfl⟩
 ·cases lo with
  | none=>simp [sliceBounds,HT.gn]
  | some i=>
    simp only [sliceBounds,HT.gn,Option.getD_none,show (1:Int)>0 by decide,if_true]
    by_cases h:i<0
    ·simp only [h,if_true]<;>omega
    ·simp only [h,if_false]<;>omega
 ·cases hi with
  | none=>simp [sliceBounds,HT.gn]
  | some i=>
    simp only [sliceBounds,HT.gn,Option.getD_none,show (1:Int)>0 by decide,if_true]
    by_cases h:i<0
    ·simp only [h,if_true]<;>omega
    ·simp only [h,if_false]<;>omega
theorem uq (its:List Value) (lo hi:Option Int):slicePick its.toArray lo hi none=((its.drop (HT.gn its.length 0 lo)).take (HT.gn its.length its.length hi - HT.gn its.length 0 lo)).toArray:=by
 obtain ⟨h1,h2,h3⟩:=vP lo hi its.toArray.size;unfold slicePick;rw [h1,h2,h3];simp only [sliceRange_one,pick_run,List.size_toArray]<;>rfl
def Um (K:PySem.W.Frag):V->Option Int->Option Int->Hp->VK->Prop:=fun x lo hi H Q=>∃a xs,x = .ref a/\aV K H a xs /\ ∀p,H p=none->Q (.ref p) (upd H p (.lst (gq xs lo hi)))
theorem Lh:W_ X (Um X.K):=by
 intro pins s σ H x v vl vu lo hi sl Q I rx hs pl pu h;obtain ⟨a,xs,rfl,hx,q⟩:=h;cases rx;obtain ⟨its,r,ht,hz⟩:=I.list hx;have hlen:=r.length;refine ⟨"list",_,slot_list_getitem.lookup,ht.isList.typeIs, ?_⟩;refine wpAny_getItem_list_slice ht.isList hs pl pu .none (by simp) ?_ (by rw [List.size_toArray]<;>omega);rw [uq,←hlen];refine ⟨.ref s.heap.objs.size,_,I.laid (t':=s.toks) (o:= .lst (gq xs lo hi)) (fun b ob q=>Heap.get?_push_of_some _ q) (Nat.le_refl _) ?_,rfl,q _ (I.hok.fresh (Nat.le_refl _))⟩;exact ⟨Nat.le_trans (pX xs lo hi) hz,_,0,(r.drop (HT.gn xs.length 0 lo)).take (HT.gn xs.length xs.length hi - HT.gn xs.length 0 lo),Heap.get?_push_size _ rfl⟩
theorem wW:fO X (.builtin "len") (fun xs H Q=>∃p ys,xs=[.ref p]/\(aV X.K H p ys\/bZ X.K H p ys)/\Q (.int ys.length) H):=by
 intro pins s σ H xs us Q I r h;obtain ⟨p,ys,rfl,hq,q⟩:=h;obtain ⟨u,rfl,rx⟩:=vals1 r;cases rx;have hn:=o8;rcases hq with hq|hq
 ·obtain ⟨its,r',pl,hz⟩:=I.list hq
  have hlen:=r'.length;exact Calls.call_len_list pl.isList (by simp only [List.size_toArray]<;>omega) ⟨.int ys.length,H,I.tok _,⟨s.toks+1,by rw [List.size_toArray,hlen]⟩,q⟩
 ·obtain ⟨its,r',pl,hz⟩:=I.tuple hq
  have hlen:=r'.length;exact len_tuple pl (by simp only [List.size_toArray]<;>omega) ⟨.int ys.length,H,I.tok _,⟨s.toks+1,by rw [List.size_toArray,hlen]⟩,q⟩
theorem wV:fO X (.type "list") (fun xs H Q=>∃p ys,xs=[.ref p]/\(aV X.K H p ys\/bZ X.K H p ys) /\ ∀l,H l=none->Q (.ref l) (upd H l (.lst ys))):=by
 intro pins s σ H xs us Q I r h;obtain ⟨p,ys,rfl,hq,q⟩:=h;obtain ⟨u,rfl,rx⟩:=vals1 r;cases rx
 have fin:∀(its:List Value),Vals ys its->ys.length<=sizeLine -> ∀(h':Heap) (c':Nat),(∀b o',s.heap.get? b=some o'->h'.get? b=some o') ->
  h'.get? s.heap.objs.size=some {cls:= .type "list",dict:=none,data:= .seq its.toArray c',slots:= #[]}->EP X pins σ Q (.ref s.heap.objs.size) {s with heap:=h'}:=fun its r' hz h' c' kp e=>
  ⟨.ref s.heap.objs.size,_,I.laid (t':=s.toks) kp (Nat.le_refl _) (show bR X.prog X.w _ h' _ (.lst ys) from ⟨hz,its,c',r',e⟩),rfl,q _ (I.hok.fresh (Nat.le_refl _))⟩
 rcases hq with hq|hq
 ·obtain ⟨its,r',pl,hz⟩:=I.list hq
  have hlen:=r'.length;obtain ⟨o,ho,hc,n,hd⟩:=pl.isList;exact call_list_seq p (.inl rfl) ho hc hd (fun h' c' kp e=>fin its r' hz h' c' kp e) (by simp only [List.size_toArray]<;>omega)
 ·obtain ⟨its,r',pl,hz⟩:=I.tuple hq
  have hlen:=r'.length;obtain ⟨o,ho,hc,n,hd⟩:=pl;exact call_list_seq p (.inr rfl) ho hc hd (fun h' c' kp e=>fin its r' hz h' c' kp e) (by simp only [List.size_toArray]<;>omega)
def YW (K:PySem.W.Frag) (T:String) (x:V) (H:Hp):Prop:=match x with
 | .str _=>T = "str"
 | .int _=>T = "int"
 | .ref p=>(T = "list" /\ ∃xs,aV K H p xs)\/(T = "tuple" /\ ∃o,K.lookup p=some o/\o.cls = .type "tuple" /\ o.dict=none) \/
    (T = "dict" /\ ((∃kvs,H p=some (.dK kvs)) \/ ∃kvs,H p=some (.dT kvs)))\/(T = "set" /\ ∃S n,H p=some (.set S n))
 | _=>False
theorem PJ {pins:List (Addr×Obj)} {σ:St} {H:Hp} {s:Shared} {T:String} {x:V} {v:Value} (I:Inv X pins σ H s) (r:RelV x v) (ty:YW X.K T x H):
 s.TypeIs v T /\ ∀a,v = .ref a -> ∃ob,s.heap.get? a=some ob/\ob.dict=none:=by
 cases x with
 | str z=>
   obtain ⟨t,rfl⟩:=r;cases (show T = "str" from ty);exact ⟨typeIs_str s z t,fun _ e=>nomatch e⟩
 | int i=>
   obtain ⟨t,rfl⟩:=r;cases (show T = "int" from ty);exact ⟨typeIs_int s i t,fun _ e=>nomatch e⟩
 | ref p=>
   cases r;rcases ty with ⟨rfl,xs,hq⟩|⟨rfl,o,hk,hc,hd⟩|⟨rfl,hk⟩|⟨rfl,S,n,hk⟩
   ·obtain ⟨its,_,pl,_⟩:=I.list hq
    refine ⟨pl.isList.typeIs,fun a e=> ?_⟩;cases e;obtain ⟨o,n,e,c,hd,_⟩:=pl;exact ⟨o,e,hd⟩
   ·refine ⟨⟨o,I.xR p o hk,hc⟩,fun a e=> ?_⟩
    cases e;exact ⟨o,I.xR _ o hk,hd⟩
   ·have z:∃o,s.heap.get? p=some o/\o.ExactDict:=by
     rcases hk with ⟨kvs,hk⟩|⟨kvs,hk⟩
     ·obtain ⟨_,_,_,_,o,_,_,e,ex,_⟩:=I.hok p _ hk
      exact ⟨o,e,ex⟩
     ·obtain ⟨_,_,_,_,o,_,_,e,ex,_⟩:=I.hok p _ hk
      exact ⟨o,e,ex⟩
    obtain ⟨o,e,ex⟩:=z;refine ⟨⟨o,e,ex.1⟩,fun a e2=> ?_⟩;cases e2;exact ⟨o,e,ex.2.1⟩
   ·obtain ⟨o,_,_,_,e,ex,_⟩:=I.hok p _ hk
    refine ⟨⟨o,e,ex.1⟩,fun a e2=> ?_⟩;cases e2;exact ⟨o,e,ex.2.1⟩
 | _=>exact False.elim ty
def Ub (K:PySem.W.Frag) (T:String) (r:V->List V->Hp->VK->Prop) (to:TE) (t:TA):TE:=fun σ H Q=>to σ H fun x H1=>YW K T x H1/\t σ H1 fun xs H2=>r x xs H2 Q
variable {o e:Expr} {es:List Expr} {to:TE} {t:TA} {name:Str} {apos cpos:Pos} {T id:String} {r:V->List V->Hp->VK->Prop}
theorem Ol (pa:PlainAttrs T) (slot:Slot T name id) (hty:typeOf (.builtin id)=pure (.type "method_descriptor")) (hm:MtR X id r) (ho:PE X o to) (ha:PA X (e::es) t)
 (hbase:attributeBase o name X.env (eval o X.env)=eval o X.env:=by rfl)
 (hfew:((backTo cpos (starEach (e::es) X.env)).all (fun x=> !x.1)&&(backToKw cpos (keywordEach [] X.env)).all (fun x=>x.1.isSome)
   && decide ((e::es).length+([]:List Keyword).length+(if ([]:List Keyword).isEmpty then 0 else 1)<30))=true:=by rfl)
 (hline:(apos.endLine==cpos.line)=true:=by rfl) (hs:starEach (e::es) X.env=(false,eval e X.env)::starEach es X.env:=by rfl) (hplain:(backTo cpos (starEach es X.env)).any (·.1)=false:=by rfl):
 PE X (.Call (.Attribute o name apos) (e::es) [] cpos) (Ub X.K T r to t):=by
 intro pins s σ H Q I h;refine wpAny_Call_method_late hbase hfew hline rfl (cR (ho pins s σ H _ I h) fun v s1 ⟨x,H1,I1,r1,ty,q1⟩=> ?_);obtain ⟨h1,h2⟩:=PJ I1 r1 ty;refine ⟨T,id,pa,slot,hty,h1,h2, ?_⟩;have hA:=ha cpos pins s1 σ H1 _ I1 q1;rw [hs] at hA ⊢;refine Calls.callWith_builtin (by show (false||(backTo cpos (starEach es X.env)).any (·.1))=false;rw [hplain]<;>rfl) (Calls.evalArgs_plain ?_);exact cR hA fun us s2 ⟨vs,H2,I2,r2,q2⟩=>hm pins s2 σ H2 x vs v us Q I2 r1 r2 q2
end
end L2
namespace L2
open PySem PySem.Spec PyProof.Rows
def MtM (X:Cx) (id:String) (r:V->List V->Hp->VK->Prop):Prop:=
 ∀(pins:List (Addr×Obj)) (s:Shared) (σ:St) (H:Hp) (x:V) (xs:List V) (v:Value) (us:List Value) (Q:VK),Inv X pins σ H s->RelV x v->Vals xs us->r x xs H Q ->
  wpAny (model X.prog X.w) X.A (call (.builtin id) (v::us)) (EP X pins σ Q) X.xe s
theorem Vals.one {x:V} {us:List Value} (h:Vals [x] us):∃u,us=[u]/\RelV x u:=by
 cases h with
 | cons r t=>cases t;exact ⟨_,rfl,r⟩
theorem Vals.rep {xs:List V} {us:List Value} (h:Vals xs us):∀k:Nat,Vals (List.replicate k xs).flatten (List.replicate k us).flatten
 | 0=> .nil
 | k+1=>by
   rw [List.replicate_succ,List.replicate_succ,List.flatten_cons,List.flatten_cons];exact Vals.append h (Vals.rep h k)
theorem foldl_rep (its:List Value):∀(k:Nat) (acc:List Value),
 List.foldl (fun x1 x2=>x1++x2) acc.toArray (List.replicate k its.toArray)=(acc++(List.replicate k its).flatten).toArray
 | 0,acc=>by simp
 | k+1,acc=>by
   have e:acc.toArray++its.toArray=(acc++its).toArray:=by simp
   have e2:(acc++its)++(List.replicate k its).flatten=acc++(List.replicate (k+1) its).flatten:=by
    rw [List.replicate_succ,List.flatten_cons,List.append_assoc]
   rw [←e2,←foldl_rep its k (acc++its),←e,List.replicate_succ,List.foldl_cons]
section
variable {X:Cx} {pins:List (Addr×Obj)} {σ:St} {H:Hp} {s:Shared} {l b:Addr} {xs ys zs:List V}
theorem Inv.aa6 {its its':List Value} {n:Nat} {f:Array Value->Array Value} {t':Nat} (I:Inv X pins σ H s) (hH:H l=some (.lst xs))
 (e:s.heap.get? l=some {cls:= .type "list",data:= .seq its.toArray n}) (hf:f its.toArray=its'.toArray) (hv:Vals ys its') (hz:ys.length<=sizeLine):
 Inv X pins σ (upd H l (.lst ys)) {s with heap:=s.heap.update l (Obj.mapSeq f),toks:=t'}:=by
 have q:=PySem.IsL.update e f;rw [hf] at q;refine I.write (x:=l) (e:=l) (by rw [hH];exact trivial) (.inl rfl) (fun b' u hb hu=>(Heap.get?_update_other s.heap (Obj.mapSeq f) (Ne.symm hb)).trans hu) ⟨_,q⟩ ?_;exact ⟨hz,its',_,hv,q⟩
theorem Inv.Vc {its:List Value} {t':Nat} (I:Inv X pins σ H s) (hv:Vals ys its) (hz:ys.length<=sizeLine):
 Inv X pins σ (upd H s.heap.objs.size (.lst ys)) {s with heap:=s.heap.push {cls:= .type "list",data:= .seq its.toArray},toks:=t'}:=
 I.laid (fun _ _ q=>Heap.get?_push_of_some _ q) (Nat.le_refl _) ⟨hz,its,0,hv,Heap.get?_push_size _ rfl⟩
theorem Inv.fresh (I:Inv X pins σ H s):H s.heap.objs.size=none:=I.hok.fresh (Nat.le_refl _)
theorem Inv.Mr (I:Inv X pins σ H s) (hH:H l=some (.lst xs)):xs.length<=sizeLine /\ ∃(its:List Value) (n:Nat),Vals xs its/\xs.length=its.length/\s.heap.get? l=some {cls:= .type "list",data:= .seq its.toArray n}:=by
 obtain ⟨z,its,n,r,e⟩:=I.hok l _ hH;exact ⟨z,its,n,r,r.length,e⟩
theorem IK {n:Nat} (h:n<=sizeLine):Builtin.List.listTooLong n=false:=by
 unfold Builtin.List.listTooLong;exact decide_eq_false (by omega)
end
section
variable {X:Cx}
def vW:V->List V->Hp->VK->Prop:=fun x vs H Q=>∃l xs y,x = .ref l/\vs=[y]/\H l=some (.lst xs)/\xs.length<sizeLine/\Q .non (upd H l (.lst (xs++[y])))
theorem uQ:MtM X "list.append" vW:=by
 intro pins s σ H x vs v us Q I rx rv h;obtain ⟨l,xs,y,rfl,rfl,hH,hz,q⟩:=h;cases rx;obtain ⟨u,rfl,ru⟩:=rv.one;obtain ⟨z,its,n,r,hl,e⟩:=I.Mr hH;refine call_meets F.slot_list_append ⟨_,e,rfl⟩ F.entry_list_append (F.args_list_append_2 _ _) (PySem.list_append l its.toArray n u (by rw [List.size_toArray];omega)) ⟨e, ?_⟩;refine ⟨.non,_,I.aa6 (its':=its++[u]) hH e (by simp) (r.append (.cons ru .nil)) ?_,rfl,q⟩;rw [List.length_append,List.length_singleton];omega
def ZR:R2:=fun x y H Q=>∃l b xs zs,x = .ref l/\y = .ref b/\H l=some (.lst xs)/\H b=some (.lst zs)/\xs.length+zs.length<=sizeLine /\ ∀p,H p=none->Q (.ref p) (upd H p (.lst (xs++zs)))
theorem QJ:ni X (binaryOp .Add) ZR:=by
 intro pins s σ H x y v u Q I rx ry h;obtain ⟨l,b,xs,zs,rfl,rfl,hH,hB,hz,q⟩:=h;cases rx;cases ry;obtain ⟨z,its,n,r,hl,e⟩:=I.Mr hH;obtain ⟨z2,its2,n2,r2,hl2,e2⟩:=I.Mr hB;refine PySem.P.add_list e e2 ?_ (by rw [List.size_toArray,List.size_toArray];omega);have ea:its.toArray++its2.toArray=(its++its2).toArray:=by simp
 rw [ea];exact ⟨.ref _,_,I.Vc (t':=s.toks) (r.append r2) (by rw [List.length_append];omega),rfl,q _ I.fresh⟩
def ZL:R2:=fun x y H Q=>∃l k xs,x = .ref l/\y = .int k/\H l=some (.lst xs) /\ -(2 ^ 63)<=k/\k<2 ^ 63/\xs.length*k.toNat<=sizeLine /\
 ∀p,H p=none->Q (.ref p) (upd H p (.lst (List.replicate k.toNat xs).flatten))
theorem len_rep {α:Type} (xs:List α) (k:Nat):(List.replicate k xs).flatten.length=k*xs.length:=by
 induction k with
 | zero=>simp
 | succ k ih=>rw [List.replicate_succ,List.flatten_cons,List.length_append,ih,Nat.succ_mul,Nat.add_comm]
theorem QD:ni X (binaryOp .Mult) ZL:=by
 intro pins s σ H x y v u Q I rx ry h;obtain ⟨l,k,xs,rfl,rfl,hH,h1,h2,hz,q⟩:=h;cases rx;obtain ⟨t,rfl⟩:=ry;obtain ⟨z,its,n,r,hl,e⟩:=I.Mr hH;have hlen:its.toArray.size*k.toNat<=sizeLine:=by rw [List.size_toArray,←hl];exact hz
 have hcap:¬its.toArray.size*k.toNat>(2 ^ 63 - 1) / 8:=by
  have:(sizeLine:Nat)<=(2 ^ 63 - 1) / 8:=by decide
  omega
 have hfit:¬(!Builtin.List.listFitsIndex k)=true:=by
  rw [fitsIndex_both h1 h2];exact Bool.false_ne_true
 have VG:¬Builtin.List.listTooLong (its.toArray.size*k.toNat)=true:=by
  rw [IK hlen];exact Bool.false_ne_true
 have hnew:List.foldl (fun x1 x2=>x1++x2) #[] (List.replicate (if its.toArray.isEmpty=true then 0 else k.toNat) its.toArray)=(List.replicate k.toNat its).flatten.toArray:=by
  have f0:∀m:Nat,List.foldl (fun x1 x2=>x1++x2) #[] (List.replicate m its.toArray)=(List.replicate m its).flatten.toArray:=fun m=>by
   have:=foldl_rep its m [];rw [List.nil_append] at this;exact this
  rw [f0];cases its with
  | nil=>simp
  | cons a r'=>rw [if_neg (by simp)]
 refine wpAny_binaryOp_repeat_ref (T:= "list") (U:= "int") (by decide) ⟨_,e,rfl⟩ (fun s'=>typeIs_int s' k t) noFill_list_mul F.fills_int_mul F.slot_int_rmul repeat_list F.slot_int_index.lookup
  (call_meets F.slot_int_rmul (typeIs_int s k t) F.entry_int_rmul (F.args_int_rmul_2 _ _) (int___rmul___int_list k t l its.toArray n)
    ⟨e,rfl,⟨_,e,rfl⟩,call_meets F.slot_list_mul ⟨_,e,rfl⟩ F.entry_list_mul (F.args_list_mul_2 _ _) (AutoListH.list___mul___list_int_3 l its.toArray n k t hfit hcap VG) ⟨e, ?_⟩⟩)
 rw [hnew];exact ⟨.ref _,_,I.Vc (t':=s.toks) (r.rep k.toNat) (by rw [len_rep,Nat.mul_comm];exact hz),rfl,q _ I.fresh⟩
end
section
variable {prog:Program} {w:World} {A:Around} {E:Value->Shared->Prop} {s:Shared}
end
section
variable {X:Cx}
end
end L2
namespace L2
open PySem PySem.Spec PyProof.Rows
section
variable {κ:Type} [DecidableEq κ]
def cG (kvs:List (κ×V)) (k:κ):Option V:=(kvs.find? fun kv=>decide (kv.1=k)).map (·.2)
def putK (kvs:List (κ×V)) (k:κ) (v:V):List (κ×V):=
 if (kvs.any fun kv=>decide (kv.1=k))=true then kvs.map (fun kv=>if kv.1=k then (kv.1,v) else kv) else kvs++[(k,v)]
theorem dh {p:κ×V} {r:List (κ×V)} {k:κ} (e:p.1=k):cG (p::r) k=some p.2:=by simp [cG,List.find?_cons,e]
theorem dj {p:κ×V} {r:List (κ×V)} {k:κ} (e:¬p.1=k):cG (p::r) k=cG r k:=by simp [cG,List.find?_cons,e]
theorem jy (k:κ):∀kvs:List (κ×V),(kvs.any fun kv=>decide (kv.1=k))=(cG kvs k).isSome
 | []=>rfl
 | p::r=>by
   rw [List.any_cons]
   by_cases e:p.1=k
   ·simp only [dh e,decide_eq_true e,Bool.true_or,Option.isSome_some]
   ·rw [dj e,decide_eq_false e,Bool.false_or];exact jy k r
theorem yc (k j:κ) (y:V):∀kvs:List (κ×V),cG (kvs.map fun kv=>if kv.1=k then (kv.1,y) else kv) j=(cG kvs j).map fun x=>if j=k then y else x
 | []=>rfl
 | p::r=>by
   have ih:=yc k j y r;rw [List.map_cons]
   by_cases h:p.1=k
   ·rw [if_pos h]
    by_cases e:p.1=j
    ·rw [dh (p:=(p.1,y)) e,dh e,Option.map_some,if_pos (e.symm.trans h)]
    ·rw [dj (p:=(p.1,y)) e,dj e,ih]
   ·rw [if_neg h]
    by_cases e:p.1=j
    ·rw [dh (p:=p) e,dh e,Option.map_some,if_neg (fun z=>h (e.trans z))]
    ·rw [dj (p:=p) e,dj e,ih]
theorem uI (k j:κ) (y:V):∀kvs:List (κ×V),cG kvs k=none->cG (kvs++[(k,y)]) j=if j=k then some y else cG kvs j
 | [],_=>by
   by_cases e:k=j
   ·rw [if_pos e.symm];exact dh (p:=(k,y)) e
   ·rw [if_neg (fun z=>e z.symm)];exact dj (p:=(k,y)) e
 | p::r,hn=>by
   rw [List.cons_append];have hk:¬p.1=k:=fun z=>by rw [dh z] at hn;cases hn
   rw [dj hk] at hn;have ih:=uI k j y r hn
   by_cases e:p.1=j
   ·rw [dh e,dh e,if_neg (fun z=>hk (e.trans z))]
   ·rw [dj e,dj e,ih]
theorem jd (kvs:List (κ×V)) (k j:κ) (y:V):cG (putK kvs k y) j=if j=k then some y else cG kvs j:=by
 unfold putK
 by_cases a:(kvs.any fun kv=>decide (kv.1=k))=true
 ·rw [if_pos a,yc]
  rw [jy] at a
  by_cases e:j=k
  ·obtain ⟨x,hx⟩:=Option.isSome_iff_exists.mp a
   rw [if_pos e,e,hx,Option.map_some,if_pos rfl]
  ·rw [if_neg e]
   cases cG kvs j with
   | none=>rfl
   | some x=>rw [Option.map_some,if_neg e]
 ·rw [if_neg a]
  refine uI k j y kvs ?_;rw [jy] at a;cases q:cG kvs k with
  | none=>rfl
  | some x=>rw [q] at a;exact (a rfl).elim
theorem dY (kvs:List (κ×V)) (k:κ) (v:V):(putK kvs k v).length<=kvs.length+1:=by
 unfold putK;split
 ·rw [List.length_map];omega
 ·rw [List.length_append,List.length_cons,List.length_nil];omega
theorem HD {kvs:List (κ×V)} {k:κ} (v:V) (h:cG kvs k=none):putK kvs k v=kvs++[(k,v)]:=by
 unfold putK;rw [jy,h];exact if_neg (by decide)
theorem m9.o_ {o:Option V} {u:Option Value} (r:m9 o u):o.isSome=u.isSome:=by
 cases o with
 | none=>cases u with
   | none=>rfl
   | some _=>exact (show False from r).elim
 | some _=>cases u with
   | none=>exact (show False from r).elim
   | some _=>rfl
theorem m9.getD {o:Option V} {u:Option Value} {d:V} {d':Value} (r:m9 o u) (rd:RelV d d'):RelV (o.getD d) (u.getD d'):=by
 cases o with
 | none=>cases u with
   | none=>exact rd
   | some _=>exact (show False from r).elim
 | some _=>cases u with
   | none=>exact (show False from r).elim
   | some _=>exact r
theorem KV.val {kvs:List (κ×V)} {vs:List (κ×Value)} (r:KV kvs vs) (k:κ):m9 (cG kvs k) (valueAt vs k):=by
 unfold KV at r
 induction r with
 | nil=>exact True.intro
 | @cons p q ps qs h t ih=>
   obtain ⟨h1,h2⟩:=h
   by_cases e:p.1=k
   ·have e':q.1=k:=h1.symm.trans e
    have b:valueAt (q::qs) k=some q.2:=by simp [valueAt,List.find?_cons,e']
    rw [dh e,b];exact h2
   ·have e':¬q.1=k:=fun z=>e (h1.trans z)
    have b:valueAt (q::qs) k=valueAt qs k:=by simp [valueAt,List.find?_cons,e']
    rw [dj e,b];exact ih
theorem KV.any {kvs:List (κ×V)} {vs:List (κ×Value)} (r:KV kvs vs) (k:κ):(kvs.any fun kv=>decide (kv.1=k))=vs.any fun kv=>decide (kv.1=k):=by
 unfold KV at r
 induction r with
 | nil=>rfl
 | cons h t ih=>rw [List.any_cons,List.any_cons,ih,h.1]
theorem KV.repl {kvs:List (κ×V)} {vs:List (κ×Value)} (r:KV kvs vs) (k:κ) {y:V} {u:Value} (ry:RelV y u):
 KV (kvs.map fun kv=>if kv.1=k then (kv.1,y) else kv) (vs.map fun kv=>if kv.1=k then (kv.1,u) else kv):=by
 unfold KV at r ⊢
 induction r with
 | nil=>exact .nil
 | @cons p q ps qs h t ih=>
   rw [List.map_cons,List.map_cons];refine .cons ?_ ih;obtain ⟨h1,h2⟩:=h
   by_cases e:p.1=k
   ·rw [if_pos e,if_pos (h1.symm.trans e)];exact ⟨h1,ry⟩
   ·rw [if_neg e,if_neg (fun z=>e (h1.trans z))];exact ⟨h1,h2⟩
theorem KV.put {kvs:List (κ×V)} {vs:List (κ×Value)} (r:KV kvs vs) (k:κ) {y:V} {u:Value} (ry:RelV y u):KV (putK kvs k y) (stored vs k u):=by
 unfold putK stored;rw [r.any k]
 by_cases e:(vs.any fun kv=>decide (kv.1=k))=true
 ·rw [if_pos e,if_pos e];exact r.repl k ry
 ·rw [if_neg e,if_neg e];exact Paired.snoc r ⟨rfl,ry⟩
theorem KV.length {kvs:List (κ×V)} {vs:List (κ×Value)} (r:KV kvs vs):kvs.length=vs.length:=Paired.length r
end
theorem yW {P:Program} {w:World} {k:Key} {u:Value} (r:RelV (kV k) u):(cF P w).is k u=true:=by
 cases k with
 | inl i=>obtain ⟨t,e⟩:=(show ∃t,u=Value.int i t from r);subst e;exact yK P w i t
 | inr x=>obtain ⟨t,e⟩:=(show ∃t,u=Value.str x t from r);subst e;exact yJ P w x t
theorem uT {P:Program} {w:World}:∀{ks:List Key} {us:List Value},Vals (ks.map kV) us->ItemsAre (cF P w) ks us
 | [],_,r=>by rw [List.map_nil] at r;cases r;exact .nil
 | k::ks,_,r=>by
   rw [List.map_cons] at r;cases r with
   | cons h t=>exact .cons (yW h) (uT t)
abbrev KT (H:Hp):List (List Key×V)->List (List Key×Addr×Value)->Prop:=Paired fun p q=>p.1=q.1/\H q.2.1=some (.tup (p.1.map kV))/\RelV p.2 q.2.2
theorem KT.val {H:Hp} {kvs:List (List Key×V)} {xs:List (List Key×Addr×Value)} (r:KT H kvs xs) (k:List Key):m9 (cG kvs k) ((atKey xs k).map (·.2)):=by
 induction r with
 | nil=>exact True.intro
 | @cons p q ps qs h t ih=>
   obtain ⟨h1,_,h2⟩:=h
   by_cases e:p.1=k
   ·have e':q.1=k:=h1.symm.trans e
    have b:atKey (q::qs) k=some q.2:=by simp [atKey,List.find?_cons,e']
    rw [dh e,b];exact h2
   ·have e':¬q.1=k:=fun z=>e (h1.trans z)
    have b:atKey (q::qs) k=atKey qs k:=by simp [atKey,List.find?_cons,e']
    rw [dj e,b];exact ih
theorem KT.repl {H:Hp} {kvs:List (List Key×V)} {xs:List (List Key×Addr×Value)} (r:KT H kvs xs) (k:List Key) {y:V} {u:Value} (ry:RelV y u):
 KT H (kvs.map fun kv=>if kv.1=k then (kv.1,y) else kv) (xs.map (putAt k u)):=by
 induction r with
 | nil=>exact .nil
 | @cons p q ps qs h t ih=>
   rw [List.map_cons,List.map_cons];refine .cons ?_ ih;obtain ⟨h1,h2,h3⟩:=h;unfold putAt
   by_cases e:p.1=k
   ·rw [if_pos e,if_pos (h1.symm.trans e)];exact ⟨h1,h2,ry⟩
   ·rw [if_neg e,if_neg (fun z=>e (h1.trans z))];exact ⟨h1,h2,h3⟩
theorem KT.put {H:Hp} {kvs:List (List Key×V)} {xs:List (List Key×Addr×Value)} (r:KT H kvs xs) (k:List Key) {b:Addr} {y:V} {u:Value} (hb:H b=some (.tup (k.map kV))) (ry:RelV y u):
 KT H (putK kvs k y) (storedH xs k b u):=by
 have e:(kvs.any fun kv=>decide (kv.1=k))=(atKey xs k).isSome:=by
  rw [jy,(r.val k).o_,Option.isSome_map]
 unfold putK storedH;rw [e]
 by_cases q:(atKey xs k).isSome=true
 ·rw [if_pos q,if_pos q];exact r.repl k ry
 ·rw [if_neg q,if_neg q];exact Paired.snoc r ⟨rfl,hb,ry⟩
theorem KT.keeps {H H':Hp} {kvs:List (List Key×V)} {xs:List (List Key×Addr×Value)} (r:KT H kvs xs) (ht:∀b ys,H b=some (.tup ys)->H' b=some (.tup ys)):KT H' kvs xs:=
 Paired.Va r fun _ _ z=>⟨z.1,ht _ _ z.2.1,z.2.2⟩
section
variable {P:Program} {w:World} {H:Hp} {h:Heap} {a:Addr}
theorem Oh {u:HO} (ok:j_ P w H h) (e:Rd H a u):bR P w H h a u:=e.ok ok
theorem u6 {kvs:List (Key×V)} (ok:j_ P w H h) (e:Rd H a (.dK kvs)):kvs.length<=sizeLine/\(a==sysModules)=false /\ ∃vs,KV kvs vs/\h.DictOf (cF P w) a vs:=
 show bR P w H h a (.dK kvs) from Oh ok e
theorem Wj {kvs:List (Key×V)} (ok:j_ P w H h) (e:H a=some (.dK kvs)):kvs.length<=sizeLine/\(a==sysModules)=false /\ ∃vs,KV kvs vs/\h.DictOf (cF P w) a vs:=u6 ok (.inl e)
theorem o9 {ks:List Key} (ok:j_ P w H h) (e:H a=some (.tup (ks.map kV))):(tupleKind (cF P w)).is h ks a:=by
 obtain ⟨_,its,r,o,h1,h2,n,h3⟩:=(show bR P w H h a (.tup (ks.map kV)) from ok a _ e);exact ⟨o,its.toArray,n,h1,h2,h3,by simpa using uT r⟩
theorem u5 {kvs:List (List Key×V)} (ok:j_ P w H h) (e:Rd H a (.dT kvs)):kvs.length<=sizeLine/\(a==sysModules)=false /\
 ∃xs,KT H kvs xs/\h.DictOfH (tupleKind (cF P w)) a xs:=by
 obtain ⟨z,y,xs,r,o,es,ep,h1,h2,h3,h4,h5⟩:=(show bR P w H h a (.dT kvs) from Oh ok e);refine ⟨z,y,xs,r,o,es,ep,h1,h2,h3,h4,fun x hx=> ?_,h5⟩
 have all:∀{l:List (List Key×V)} {m:List (List Key×Addr×Value)},KT H l m -> ∀x∈m,(tupleKind (cF P w)).is h x.1 x.2.1:=by
  intro l m q
  induction q with
  | nil=>intro x hx;exact nomatch hx
  | @cons p q ps qs hq t ih=>
    intro x hx;rcases List.mem_cons.mp hx with e|hx
    ·subst e
     exact o9 ok (by rw [←hq.1];exact hq.2.1)
    ·exact ih x hx
 exact all r x hx
theorem DG {kvs:List (List Key×V)} (ok:j_ P w H h) (e:H a=some (.dT kvs)):kvs.length<=sizeLine/\(a==sysModules)=false /\
 ∃xs,KT H kvs xs/\h.DictOfH (tupleKind (cF P w)) a xs:=u5 ok (.inl e)
end
def jk (H:Hp) (a:Addr) (y:V) (r:Option V):Prop:=
 (∃kvs k,Rd H a (.dK kvs)/\y=kV k/\r=cG kvs k) \/ ∃kvs k b,Rd H a (.dT kvs)/\y = .ref b/\H b=some (.tup (k.map kV))/\r=cG kvs k
def xO (H:Hp) (a:Addr) (y v:V) (H':Hp):Prop:=
 (∃kvs k,H a=some (.dK kvs)/\y=kV k/\kvs.length<sizeLine/\H'=upd H a (.dK (putK kvs k v))) \/
 ∃kvs k b,H a=some (.dT kvs)/\y = .ref b/\H b=some (.tup (k.map kV))/\kvs.length<sizeLine/\H'=upd H a (.dT (putK kvs k v))
theorem jk.k {H:Hp} {a:Addr} {kvs:List (Key×V)} {k:Key} (e:H a=some (.dK kvs)):jk H a (kV k) (cG kvs k):= .inl ⟨kvs,k,.inl e,rfl,rfl⟩
theorem jk.t {H:Hp} {a b:Addr} {kvs:List (List Key×V)} {k:List Key} (e:H a=some (.dT kvs)) (eb:H b=some (.tup (k.map kV))):jk H a (.ref b) (cG kvs k):= .inr ⟨kvs,k,b,.inl e,rfl,eb,rfl⟩
theorem xO.k {H:Hp} {a:Addr} {kvs:List (Key×V)} {k:Key} {v:V} (e:H a=some (.dK kvs)) (hl:kvs.length<sizeLine):xO H a (kV k) v (upd H a (.dK (putK kvs k v))):= .inl ⟨kvs,k,e,rfl,hl,rfl⟩
theorem xO.t {H:Hp} {a b:Addr} {kvs:List (List Key×V)} {k:List Key} {v:V} (e:H a=some (.dT kvs)) (eb:H b=some (.tup (k.map kV))) (hl:kvs.length<sizeLine):
 xO H a (.ref b) v (upd H a (.dT (putK kvs k v))):= .inr ⟨kvs,k,b,e,rfl,eb,hl,rfl⟩
section
variable {X:Cx} {pins:List (Addr×Obj)} {σ:St} {H:Hp} {s:Shared} {a:Addr} {y v:V} {u r:Value} {o:Option V} {A:Around} {E:Value->Shared->Prop}
theorem Inv.big (I:Inv X pins σ H s):sysModules<s.heap.objs.size:=by
 have h:mainGlobals<s.heap.objs.size:=(I.mod.glob.keeps I.bk).lt;exact Nat.lt_trans (by decide) h
theorem FT {Q:Value->Shared->Prop} (hu:A.units+1<cLine) (I:Inv X pins σ H s) (g:jk H a y (some v)) (ry:RelV y u) (h:∀w' s',Inv X pins σ H s'->RelV v w'->Q w' s'):
 wpAny (model X.prog X.w) A (getItem (.ref a) u) Q E s:=by
 rcases g with ⟨kvs,k,e,ey,l⟩|⟨kvs,k,b,e,ey,eb,l⟩
 ·subst ey
  obtain ⟨z,hd,vs,rel,dd⟩:=u6 I.hok e;obtain ⟨w',hw,rw'⟩:=m9.some_of (v:=v) (o:=valueAt vs k) (by rw [l];exact rel.val k);exact wpAny_getItem_of (yW ry) dd.mapOf hw (h w' _ (I.tok _) rw')
 ·subst ey
  cases (show u=Value.ref b from ry);obtain ⟨z,hd,xs,rel,dd⟩:=u5 I.hok e;obtain ⟨w',hw,rw'⟩:=m9.some_of (v:=v) (o:=(atKey xs k).map (·.2)) (by rw [l];exact rel.val k);obtain ⟨p,hp,hp2⟩:=Option.map_eq_some_iff.mp hw;refine wpAny_getItem_heap (tupleKind_room_in1 hu) (o9 I.hok eb) dd hp ?_;rw [hp2];exact h w' _ (I.tok _) rw'
theorem Nj {Q:Value->Shared->Prop} (hu:A.units+1<cLine) (I:Inv X pins σ H s) (g:jk H a y o) (ry:RelV y u) (h:∀s',Inv X pins σ H s'->Q (.bool (!o.isSome)) s'):
 wpAny (model X.prog X.w) A (compareOp .NotIn u (.ref a)) Q E s:=by
 rcases g with ⟨kvs,k,e,ey,l⟩|⟨kvs,k,b,e,ey,eb,l⟩
 ·subst ey
  obtain ⟨z,hd,vs,rel,dd⟩:=u6 I.hok e;refine wpAny_notIn_of (yW ry) hd dd.mapOf ?_;rw [←(rel.val k).o_,←l];exact h _ (I.tok _)
 ·subst ey
  cases (show u=Value.ref b from ry);obtain ⟨z,hd,xs,rel,dd⟩:=u5 I.hok e;refine wpAny_notIn_heap (tupleKind_room_in1 hu) (o9 I.hok eb) hd dd ?_;have q:=(rel.val k).o_;rw [Option.isSome_map] at q;rw [←q,←l];exact h _ (I.tok _)
theorem wQ {h':Heap} {t':Nat} {ob:HO} (I:Inv X pins σ H s) (mu:Xe (H a)) (hs:Heap.SameBut a s.heap h') (he:∃q,h'.get? a=some q) (new:bR X.prog X.w (upd H a ob) h' a ob):
 Inv X pins σ (upd H a ob) {s with heap:=h',toks:=t'}:=
 I.write (x:=a) (e:=a) mu (.inl rfl) (fun b q hb z=>(hs.2 b hb).trans z) he new
theorem RW {P:Program} {w:World} {H':Hp} {h':Heap} {kvs:List (Key×V)} {vs:List (Key×Value)} (z:kvs.length<=sizeLine) (hd:(a==sysModules)=false) (rel:KV kvs vs) (dd:h'.DictOf (cF P w) a vs):
 bR P w H' h' a (.dK kvs):=⟨z,hd,vs,rel,dd⟩
theorem FQ {H':Hp} {Q:Unit->Shared->Prop} (hu:A.units+1<cLine) (I:Inv X pins σ H s) (g:xO H a y v H') (ry:RelV y u) (rv:RelV v r) (h:∀s',Inv X pins σ H' s'->Q () s'):
 wpAny (model X.prog X.w) A (setItem (.ref a) u r) Q E s:=by
 rcases g with ⟨kvs,k,e,ey,l,eH⟩|⟨kvs,k,b,e,ey,eb,l,eH⟩
 ·subst ey eH
  obtain ⟨z,hd,vs,rel,dd⟩:=Wj I.hok e;have hz:vs.length<=sizeLine:=by rw [←rel.length];exact z
  have hl:(putK kvs k v).length<=sizeLine:=by have:=dY kvs k v;omega
  refine wpAny_setItem_pairs (hsz:=hz) (yW ry) dd fun h' O9 hs=>h _ ?_;have he:∃q,h'.get? a=some q:=let ⟨q,_,_,hq,_⟩:=O9;⟨q,hq⟩
  exact wQ I (by rw [e];exact True.intro) hs he (RW hl hd (rel.put k rv) O9)
 ·subst ey eH
  cases (show u=Value.ref b from ry);obtain ⟨z,hd,xs,rel,dd⟩:=DG I.hok e;have hz:xs.length<=sizeLine:=by rw [←Paired.length rel];exact z
  have hl:(putK kvs k v).length<=sizeLine:=by have:=dY kvs k v;omega
  refine wpAny_setItem_heap (hsz:=hz) (tupleKind_room_in1 hu) (o9 I.hok eb) dd fun h' O9 hs=>h _ ?_;obtain ⟨q,es,ep,hq,h2,h3,h4,_,h5⟩:=O9;refine wQ I (by rw [e];exact True.intro) hs ⟨q,hq⟩ ⟨hl,hd,_,(rel.put k eb rv).keeps fun c ys ec=> ?_,q,es,ep,hq,h2,h3,h4,h5⟩;rw [aN (fM ec e (fun z=>nomatch z))];exact ec
end
section
variable {X:Cx} {pins:List (Addr×Obj)} {σ:St} {H:Hp} {s:Shared} {a:Addr} {kvs:List (Key×V)} {k:Key} {u:Value} {A:Around} {E:Value->Shared->Prop}
end
def Xd (i:Expr):Prop:=∀ov iv,subscripted i false ov iv=operate [ov,iv] (getItem ov iv)
theorem Ld {prog:Program} {w:World} {A:Around} {E:Value->Shared->Prop} {s:Shared} {env:Env} {value slice:Expr} {pos:Pos} {T id:String} {Q:Value->Shared->Prop}
 (hl:typeLookup (.type T) "__getitem__" = pure (some (.builtin id))) (hs:Xd slice)
 (h:wpAny (model prog w) A (eval value env) (fun o s₁=>wpAny (model prog w) A (eval slice env) (fun i s₂=>s₂.TypeIs o T/\wpAny (model prog w) A (getItem o i) Q E s₂) E s₁) E s):
 wpAny (model prog w) A (eval (.Subscript value slice pos) env) Q E s:=by
 refine Subscript_ (wpAny_mono h (fun o s₁ h₁=>wpAny_mono h₁ (fun i s₂ h₂=> ?_) fun _ _ x=>x) fun _ _ x=>x);obtain ⟨hT,h₂⟩:=h₂;unfold subscriptTail;refine wpAny_bind ?_;rw [getitemInPython_of_ne hT.not_modules];refine wpAny_bind (wpAny_specialOf hT hl ?_)
 have fin:wpAny (model prog w) A (subscripted slice false o i) (fun r s₃=>wpAny (model prog w) A (letTemporaryGo value o r >>= fun _=>pure r) Q E s₃) E s₂:=by
  rw [hs o i];exact wpAny_operating (wpAny_mono h₂ (fun r s₃ h₃=>wpAny_bind (wpAny_letTemporaryGo (wpAny_pure h₃))) fun _ _ x=>x)
 first
  | exact wpAny_pure (wpAny_bind fin)
  | exact wpAny_bind (wpAny_pure (wpAny_bind fin))
  | exact wpAny_bind fin
theorem zG {X:Cx} {pins:List (Addr×Obj)} {σ:St} {H:Hp} {s:Shared} {a:Addr} {y:V} {o:Option V} (I:Inv X pins σ H s) (g:jk H a y o):s.TypeIs (.ref a) "dict" :=by
 rcases g with ⟨kvs,k,e,_,_⟩|⟨kvs,k,b,e,_,_,_⟩
 ·obtain ⟨_,_,vs,_,dd⟩:=u6 I.hok e
  exact dd.typeIs
 ·obtain ⟨_,_,xs,_,dd⟩:=u5 I.hok e
  exact dd.typeIs
def Ua (td ty:TE):TE:=fun σ H Q=>td σ H fun x H1=>ty σ H1 fun y H2=>∃a v,x = .ref a/\jk H2 a y (some v)/\Q v H2
def La (ty td:TE):TE:=fun σ H Q=>ty σ H fun y H1=>td σ H1 fun x H2=>∃a o,x = .ref a/\jk H2 a y o/\Q (.bl (!o.isSome)) H2
def Uj (td ty tv:TE):TS:=fun D σ H=>tv σ H fun v H1=>td σ H1 fun x H2=>ty σ H2 fun y H3=>∃a H4,x = .ref a/\xO H3 a y v H4/\D.nx σ H4
section
variable {X:Cx} {o i e value:Expr} {pos pos' tpos:Pos} {td ty tv:TE}
theorem jq (hu:X.A.units+1<cLine) (ho:PE X o td) (hi:PE X i ty) (hs:Xd i):PE X (.Subscript o i pos) (Ua td ty):=by
 intro pins s σ H Q I h;refine Ld PySem.F.slot_dict_getitem.lookup hs (cR (ho pins s σ H _ I h) fun u s1 ⟨x,H1,I1,rx,q1⟩=>cR (hi pins s1 σ H1 _ I1 q1) fun iv s2 ⟨y,H2,I2,ry,a,v,ex,g,q2⟩=> ?_);subst ex;obtain rfl:u=Value.ref a:=rx;exact ⟨zG I2 g,FT hu I2 g ry fun w' s3 I3 rw'=>⟨v,H2,I3,rw',q2⟩⟩
theorem uM (hu:X.A.units+1<cLine) (hi:PE X i ty) (ho:PE X o td):PC X .NotIn i o (La ty td):=by
 intro pins s σ H Q I h;refine cR (hi pins s σ H _ I h) fun iv s1 ⟨y,H1,I1,ry,q1⟩=>cR (ho pins s1 σ H1 _ I1 q1) fun u s2 ⟨x,H2,I2,rx,a,ov,ex,g,q2⟩=> ?_;subst ex;obtain rfl:u=Value.ref a:=rx;exact Nj hu I2 g ry fun s3 I3=>⟨.bl (!ov.isSome),H2,I3,rfl,q2⟩
theorem vY (hu:X.A.units+1<cLine) (ho:PE X o td) (hi:PE X i ty) (hv:PE X value tv) (hs:swapsWith value (some (.Subscript o i pos')) pos.line X.env=pure false):
 PS X (.Assign [.Subscript o i pos'] value pos) (Uj td ty tv):=by
 intro pins s σ H D I h;refine wpAny_Assign_Subscript (cR (hv pins s σ H _ I h) fun r s1 ⟨v,H1,I1,rv,q1⟩=>cR (ho pins s1 σ H1 _ I1 q1) fun u s2 ⟨x,H2,I2,rx,q2⟩=>cR (hi pins s2 σ H2 _ I2 q2) fun iv s3 ⟨y,H3,I3,ry,a,H4,ex,g,q3⟩=> ?_) hs;subst ex;obtain rfl:u=Value.ref a:=rx;exact FQ hu I3 g ry rv fun s4 I4=>⟨σ,H4,I4,q3⟩
end
theorem JX {P:Program} {w:World} {H:Hp} (h:Heap) (hb:sysModules<h.objs.size):bR P w H (h.push {cls:= .type "dict",data:= .dict #[]}) h.objs.size (.dK []):=
 ⟨Nat.zero_le _,beq_eq_false_iff_ne.mpr (Ne.symm (Nat.ne_of_lt hb)),[],.nil,Heap.DictOf.new h⟩
theorem JW {P:Program} {w:World} {H:Hp} (h:Heap) (hb:sysModules<h.objs.size):bR P w H (h.push {cls:= .type "dict",data:= .dict #[]}) h.objs.size (.dT []):=
 ⟨Nat.zero_le _,beq_eq_false_iff_ne.mpr (Ne.symm (Nat.ne_of_lt hb)),[],.nil,_, #[],0,Heap.get?_push_size _ rfl,⟨rfl,rfl,rfl⟩,rfl,rfl,List.nodup_nil⟩
def Qf:TE:=fun _ H Q=>∀p,H p=none->Q (.ref p) (upd H p (.dK []))
def Qe:TE:=fun _ H Q=>∀p,H p=none->Q (.ref p) (upd H p (.dT []))
section
variable {X:Cx} {pos:Pos}
theorem Ii:PE X (.Dict [] [] pos) Qf:=fun pins s σ H Q I h=>
 wpAny_Dict_empty ⟨.ref s.heap.objs.size,_,I.laid (a:=s.heap.objs.size) (o:= .dK []) (t':=s.toks) (fun _ _ q=>Heap.get?_push_of_some _ q) (Nat.le_refl _) (JX s.heap I.big),rfl,h _ (I.hok.fresh (Nat.le_refl _))⟩
theorem rO:PE X (.Dict [] [] pos) Qe:=fun pins s σ H Q I h=>
 wpAny_Dict_empty ⟨.ref s.heap.objs.size,_,I.laid (a:=s.heap.objs.size) (o:= .dT []) (t':=s.toks) (fun _ _ q=>Heap.get?_push_of_some _ q) (Nat.le_refl _) (JW s.heap I.big),rfl,h _ (I.hok.fresh (Nat.le_refl _))⟩
end
structure M2 (X:Cx) (o:Expr) (m:Str) (apos:Pos) (e f:Expr) (cpos:Pos):Prop where
 base:attributeBase o m X.env (eval o X.env)=eval o X.env
 few:((backTo cpos (starEach [e,f] X.env)).all (fun x=> !x.1)&&(backToKw cpos (keywordEach [] X.env)).all (fun x=>x.1.isSome)
  && decide (([e,f]:List Expr).length+([]:List Keyword).length+(if ([]:List Keyword).isEmpty then 0 else 1)<30))=true
 line:(apos.endLine==cpos.line)=true
 trees:backTo cpos (starEach [e,f] X.env)=[(false,eval e X.env),(false,eval f X.env)]
def IsD (H:Hp) (a:Addr):Prop:=(∃kvs,Rd H a (.dK kvs)) \/ ∃kvs,Rd H a (.dT kvs)
theorem JB {X:Cx} {pins:List (Addr×Obj)} {σ:St} {H:Hp} {s:Shared} {a:Addr} (I:Inv X pins σ H s) (d:IsD H a):
 s.TypeIs (.ref a) "dict" /\ (∀b,Value.ref a = .ref b -> ∃ob,s.heap.get? b=some ob/\ob.dict=none)/\(a==sysModules)=false:=by
 rcases d with ⟨kvs,e⟩|⟨kvs,e⟩
 ·obtain ⟨_,hd,vs,_,dd⟩:=u6 I.hok e
  refine ⟨dd.typeIs,fun b q=> ?_,hd⟩;cases q;obtain ⟨ob,_,_,h1,h2,_⟩:=dd;exact ⟨ob,h1,h2.2.1⟩
 ·obtain ⟨_,hd,xs,_,dd⟩:=u5 I.hok e
  refine ⟨dd.typeIs,fun b q=> ?_,hd⟩;cases q;obtain ⟨ob,_,_,h1,h2,_⟩:=dd;exact ⟨ob,h1,h2.2.1⟩
section
variable {X:Cx} {pins:List (Addr×Obj)} {σ:St} {H:Hp} {s:Shared} {a:Addr} {y d:V} {u r:Value} {o:Option V} {A:Around} {E:Value->Shared->Prop}
theorem RZ {Q:Value->Shared->Prop} (hu:A.units+1<cLine) (I:Inv X pins σ H s) (g:jk H a y o) (ry:RelV y u) (rd:RelV d r) (h:∀w' s',Inv X pins σ H s'->RelV (o.getD d) w'->Q w' s'):
 wpAny (model X.prog X.w) A (call (.builtin "dict.get") [.ref a,u,r]) Q E s:=by
 rcases g with ⟨kvs,k,e,ey,l⟩|⟨kvs,k,b,e,ey,eb,l⟩
 ·subst ey
  obtain ⟨z,hd,vs,rel,dd⟩:=u6 I.hok e;refine call_meetsIn PySem.F.slot_dict_get dd.typeIs PySem.F.entry_dict_get (PySem.F.args_dict_get_3 _ _ _) (meets_dict_get_default (cF X.prog X.w) a (yW ry) hd r) ⟨_,dd.mapOf,h _ _ (I.tok _) ?_⟩;rw [l];exact (rel.val k).getD rd
 ·subst ey
  cases (show u=Value.ref b from ry);obtain ⟨z,hd,xs,rel,dd⟩:=u5 I.hok e;refine call_meetsIn PySem.F.slot_dict_get dd.typeIs PySem.F.entry_dict_get (PySem.F.args_dict_get_3 _ _ _) (meetsH_dict_get_default (tupleKind (cF X.prog X.w)) a b hd r) ⟨tupleKind_room_in1 hu,k,xs,o9 I.hok eb,dd,h _ _ (I.tok _) ?_⟩;rw [l];exact (rel.val k).getD rd
end
def Qg (td ty tx:TE):TE:=fun σ H Q=>td σ H fun x H1=>∃a,x = .ref a/\IsD H1 a/\ty σ H1 fun y H2=>tx σ H2 fun z H3=>∃o,jk H3 a y o/\Q (o.getD z) H3
section
variable {X:Cx} {o e f:Expr} {apos cpos:Pos} {td ty tx:TE}
theorem yE (hu:X.A.units+1<cLine) (ho:PE X o td) (he:PE X e ty) (hf:PE X f tx) (m:M2 X o "get" apos e f cpos):PE X (.Call (.Attribute o "get" apos) [e,f] [] cpos) (Qg td ty tx):=by
 intro pins s σ H Q I h;refine wpAny_Call_method m.base m.few m.line PySem.F.plainAttrs_dict PySem.F.slot_dict_get PySem.F.type_dict_get (cR (ho pins s σ H _ I h) fun u s1 ⟨x,H1,I1,rx,a,ex,d,q1⟩=> ?_);subst ex;obtain rfl:u=Value.ref a:=rx;obtain ⟨t1,t2,_⟩:=JB I1 d;refine ⟨t1,t2, ?_⟩;rw [m.trees]
 refine Calls.callWith_builtin rfl (Calls.evalArgs_plain (Calls.spliced_cons (cR (he pins s1 σ H1 _ I1 q1) fun iv s2 ⟨y,H2,I2,ry,q2⟩=>
  Calls.spliced_cons (cR (hf pins s2 σ H2 _ I2 q2) fun fv s3 ⟨z,H3,I3,rz,ov,g,q3⟩=>Calls.spliced_nil ?_))))
 exact RZ hu I3 g ry rz fun w' s4 I4 rw'=>⟨_,H3,I4,rw',q3⟩
end
section
variable {X:Cx} {pins:List (Addr×Obj)} {σ:St} {H:Hp} {s:Shared} {a:Addr} {kvs:List (Key×V)} {A:Around} {E:Value->Shared->Prop}
end
section
variable {X:Cx} {pins:List (Addr×Obj)} {σ:St} {H:Hp} {s:Shared} {a:Addr} {y:V} {u:Value} {A:Around} {E:Value->Shared->Prop}
end
end L2
namespace Att
open PySem PySem.W PySem.Calls PyProof.Rows
theorem qp {P:Params} {h:Heap}:∀(ns:List Int) (vs:List Value),WellAll P h vs (ns.map WData.int)->IntsAre vs ns:=by
 intro ns
 induction ns with
 | nil=>
   intro vs w;rw [List.map_nil] at w;cases w;exact .nil
 | cons n ns ih=>
   intro vs w;rw [List.map_cons] at w;cases w with
   | cons a b=>
     cases a;exact .cons _ _ (ih _ b)
theorem El {l:OpenLaw} {n:Nat} (hn:l.most=some n) {P:Params} {h:Heap} {args:List WData} {vals:List Value}
 (hpre:l.row.toRowW.claim.pre args=true) (hwl:WellAll P h vals args):
 ∃a vs ns,vals=[Value.ref a]/\args=[WData.list (ns.map WData.int)]/\h.get? a=some {cls:= .type "list",data:= .seq vs.toArray}/\IntsAre vs ns/\ns.length<=n:=by
 have hsh:WShape.hasAll [] args [.list .int]=true:=(pre_splitW hpre).1;have hc:l.pre.holds [] {args:=args}=true:=(pre_splitW hpre).2;obtain ⟨d,r,rfl,h1,h2⟩:=hasAllW_cons hsh;obtain rfl:=hasAllW_nil h2;obtain ⟨xs,rfl,h3⟩:=hasW_list h1;obtain ⟨ns,rfl⟩:=items_int h3
 have hlen:ns.length<=n:=by
  unfold OpenLaw.pre at hc
  have h4:(WTm.not (.lt (.lit (.int (n:Int))) (.len (.arg 0)))).holds [] {args:=[.list (ns.map .int)]}=true:=by
   have h4:=(holds_andW hc).1;rw [hn] at h4;exact h4
  have h5:=condW_of h4 (w_not (w_lt w_lit (w_len_list (w_arg rfl))));rw [List.length_map] at h5;refine Nat.le_of_not_lt fun q=> ?_;have q':(n:Int)<((ns.length:Nat):Int):=by omega
  first
   | (rw [decide_eq_true q'] at h5;exact absurd h5 (by decide))
   | (simp at h5;omega)
 cases hwl with
 | cons w1 w2=>
   cases w2;cases w1 with
   | list ho hall=>exact ⟨_,_,ns,rfl,rfl,ho,qp ns _ hall,hlen⟩
theorem Ew (l:OpenLaw) (args:List WData):l.row.toRowW.claim.post args (.bool true) args=true:=
 postW_of (r:=l.row.toRowW) (X:=(true==true))
  (show WShape.has [] (.bool true) .bool=true by first |rfl|decide|simp [WShape.has,WShape.arms,WShape.armsAll])
  (show (WTm.eq .res (.lit (.bool true))).value [] {args:=args,res:=some (.bool true),after:=args}=some (.bool (true==true)) from w_eq_bool (w_res rfl) w_lit) rfl
theorem pY {l:OpenLaw} {n:Nat} {q:Program} {loose:List Str} {XP:(Str->Option Value)->Heap->Prop} {YP:World->Heap->Prop} {d:DefRec}
 (hn:l.most=some n) (hdf:d.params.defaults=[])
 (call:∀(w:World) (s₀ s₁:Shared) (mg mb:Str->Option Value) (fa:Addr) (o:Obj) (pm cd doc:Value) (a:Addr) (vs:List Value) (ns:List Int),
   Ground q loose [] XP w s₀ mg mb s₁.heap->YP w s₁.heap ->
   s₁.heap.get? fa=some o->o.data = .func (docDef d.name d.params d.body d.scope pm cd doc)->s₁.heap.CodeRec cd d.name->mg d.name=some (.ref fa) ->
   s₁.heap.get? a=some {cls:= .type "list",data:= .seq vs.toArray}->IntsAre vs ns->ns.length<=n->s₁.gens = #[] ->
   codeAny (model l.prog w) callerA (.call (.ref fa) ⟨[.ref a],[]⟩) (fun r s'=>r = .ok (.ret (.bool true))/\OldK s₁.heap s'.heap/\s'.os=s₁.os/\AllBare s'.gens) s₁):
 WalkO q loose XP YP l.row.toRowW d [] (fun f vs=>PySem.call f vs):=by
 intro w s₀ s₁ mg mb G Y fa o pm cd doc dV kV ho hd hcd hD hmg hg args vals as hpre hlay hrd hwl hlo;obtain rfl:dV = .none:=Dflts.none hD hdf;obtain rfl:kV = .none:=Dflts.noKw hD;obtain ⟨a,vs,ns,rfl,rfl,hobj,hints,hlen⟩:=El hn hpre hwl;refine enter_call (codeAny_mono (call w s₀ s₁ mg mb fa o pm cd doc a vs ns G Y ho (fd_plain hd) hcd hmg hobj hints hlen hg) fun r s' hq=> ?_);obtain ⟨rfl,h2,h3,h4⟩:=hq;exact ⟨.inl ⟨.bool true,.bool true,[],rfl,fun _=>rfl,.bool true,Ew l _,fun _=>⟨List.Pairwise.nil,fun _ hm=>(nomatch hm)⟩⟩,h2,h3,h4⟩
section
variable {prog:Program} {w:World} {A:Around} {E:Value->Shared->Prop} {s:Shared} {K:Frag}
def ledger (h:Heap) (L d:Addr):List (Addr×Obj):=(List.range h.objs.size).filterMap fun a=>if a=L\/a=d then none else (h.get? a).map fun o=>(a,o)
end
end Att
namespace L2
open PySem PySem.Spec PyProof.Rows
theorem uH {vs:List Value} {ns:List Int} (h:IntsAre vs ns):Vals (ns.map V.int) vs:=by
 induction h with
 | nil=>exact .nil
 | cons n t h ih=>exact .cons ⟨t,rfl⟩ ih
def Only (H:Hp):Prop:=∀b,H b=none \/ ∃o xs,H b=some (.xT o (.lst xs))
theorem Jk {P:Program} {w:World} {K:PySem.W.Frag} {mg mb:Str->Option Value} {CX:Gp} {k:Nat} {fa a:Addr} {fd:FuncData} {x:Str} {sp:Sp} {s₁:Shared} {vs:List Value} {ns:List Int}
 (KX:K.In s₁.heap) (hns:s₁.heap.Ns mainGlobals mg) (hb:s₁.heap.Ns builtinsNs mb) (hbb:∀x:Str,x ≠ "__name__" -> mb x=bootBuiltins x) (hlim:s₁.heap.NoLimit) (hg:s₁.gens = #[])
 (ha:s₁.heap.get? a=some {cls:= .type "list",data:= .seq vs.toArray}) (hi:IntsAre vs ns) (hl:ns.length<=sizeLine) (hr:cU k callerA)
 (F:∀base:Heap,K.In base->base.Ns mainGlobals mg->cT P w K mg base CX k fa fd [x] sp) (hbind:∀(s:Shared) (u:Value),BindsTo s fd ⟨[u],[]⟩ [(x,u)])
 (hsp:∀H:Hp,Only H->aV K H a (ns.map V.int)->sp [.ref a] H (fun v _=>v = .bl true) fun _ _ _=>False)
 (RK:∀H e s',CX [] H s₁ (fun _ _ _=>False) e s'->False):
 codeAny (model P w) callerA (.call (.ref fa) ⟨[.ref a],[]⟩) (fun r s'=>r = .ok (.ret (.bool true))/\OldK s₁.heap s'.heap/\s'.os=s₁.os/\AllBare s'.gens) s₁:=by
 have rv:=uH hi;have lenV:=hi.length
 have core:∀H:Hp,Only H->aV K H a (ns.map V.int)->j_ P w H s₁.heap->(∀b,H b≠none->b=a)->(H a≠none->K.lookup a=none) ->
  codeAny (model P w) callerA (.call (.ref fa) ⟨[.ref a],[]⟩) (fun r s'=>r = .ok (.ret (.bool true))/\OldK s₁.heap s'.heap/\s'.os=s₁.os/\AllBare s'.gens) s₁:=by
  intro H hO hS hok hA hK;have lQ:∀{b:Addr} {o:Obj},s₁.heap.get? b=some o->H b=none->(m5 s₁.heap H).get? b=some o:=fun e n=>zu e n
  have Q7:∀{b:Addr} {o:Obj} {es:Array DictEntry} {ep:Nat},s₁.heap.get? b=some o->o.data = .dict es ep->H b=none:=fun {b o es ep} e d=>by
   cases q:H b with
   | none=>rfl
   | some u=>
     have e':b=a:=hA b (by rw [q];simp);subst e';rw [ha] at e;cases e;have d':Data.seq vs.toArray _=Data.dict es ep:=d;cases d'
  have Mj:∀{b:Addr} {m:Str->Option Value},s₁.heap.Ns b m->(m5 s₁.heap H).Ns b m:=fun {b m} ⟨o,es,ep,e,d,r⟩=>⟨o,es,ep,lQ e (Q7 e d),d,r⟩
  have VN:K.In (m5 s₁.heap H):=fun b o e=>lQ (KX b o e) (by
   cases q:H b with
   | none=>rfl
   | some u=>
     have e':b=a:=hA b (by rw [q];simp);subst e';rw [hK (by rw [q];simp)] at e;cases e)
  have hM:Mod K mg (m5 s₁.heap H):=⟨VN,Mj hns,⟨mb,Mj hb,hbb⟩,let ⟨mc,h1,h2⟩:=hlim;⟨mc,Mj h1,h2⟩⟩;have e0:xM P w K mg (m5 s₁.heap H) callerA [] s₁ H:=⟨rfl,hM,fun b o e=>CG e,Nat.le_of_eq (uY _ _),trivial,fun b hb=>absurd (show b∈([]:List Addr) from hb) (by simp),hok,.of_eq hg⟩;refine codeAny_mono ((F _ VN (Mj hns)).run callerA [] s₁ H ⟨[.ref a],[]⟩ [.ref a] [.ref a] _ _ hr e0 (hbind s₁ (.ref a)) (.cons rfl .nil) (hsp H hO hS)) fun r s' h=> ?_;cases r with
  | error e=>exact (RK H e s' h).elim
  | ok fl=>
    cases fl with
    | next=>exact False.elim h
    | brk=>exact False.elim h
    | cont=>exact False.elim h
    | ret u=>
      obtain ⟨v,H',os,bare,un,hok',r',q⟩:=h;have q':v = .bl true:=q;subst q';obtain rfl:u=Value.bool true:=r';refine ⟨rfl,OldK.of_keep fun b o e=> ?_,os,bare⟩;cases q:H b with
      | none=>exact un.keep b o e q (by intro z;exact absurd (show b∈([]:List Addr) from z) (by simp)) (by simp)
      | some u=>
        rcases hO b with z|⟨ob,xs,z⟩
        ·rw [q] at z;cases z
        ·have z2:=un.sJ b ob _ z
         obtain ⟨e1,_⟩:=hok b _ z;obtain ⟨e2,_⟩:=hok' b _ z2;rw [e] at e1;cases e1;exact e2
 cases hk:K.lookup a with
 | some o=>
   have e:=KX a o hk;rw [ha] at e;cases e;refine core (fun _=>none) (fun _=> .inl rfl) (.inr ⟨_,vs.toArray,_,hk,rfl,rfl,rfl,by rw [List.size_toArray,lenV];exact hl,by simpa using rv⟩) (fun b u z=>by have z':(none:Option HO)=some u:=z;cases z') (fun b z=>absurd rfl z) fun z=>absurd rfl z
 | none=>
   refine core (fun b=>if b=a then some (.xT {cls:= .type "list",data:= .seq vs.toArray} (.lst (ns.map V.int))) else none) (fun b=> ?_) (.inl (.inr ⟨{cls:= .type "list",data:= .seq vs.toArray},if_pos rfl⟩)) (fun b u z=> ?_) (fun b z=> ?_) fun _=>hk
   ·by_cases hb:b=a
    ·exact .inr ⟨_,_,if_pos hb⟩
    ·exact .inl (if_neg hb)
   ·by_cases hb:b=a
    ·have z':=(if_pos hb).symm.trans z
     cases z';subst hb;exact ⟨ha,by rw [List.length_map];exact hl,vs,_,rv,ha⟩
    ·have z':=(if_neg hb).symm.trans z
     cases z'
   ·by_cases hb:b=a
    ·exact hb
    ·exact absurd (if_neg hb) z
end L2
namespace L2
open PySem PySem.Spec PyProof.Rows
abbrev KOf {K:PySem.W.Frag} {h:Heap} (_:K.In h):PySem.W.Frag:=K
theorem Xm {l:PySem.W.OpenLaw} {n k:Nat} {q:Program} {loose:List Str} {XP:(Str->Option Value)->Heap->Prop} {YP:World->Heap->Prop} {d:DefRec} {K:Params->PySem.W.Frag} {CX:World->Gp} {sp:World->Sp} {x:Str}
 (hn:l.most=some n) (hn2:n<=sizeLine) (hdf:d.params.defaults=[]) (hr:cU k callerA)
 (hY:∀(w:World) (h:Heap),YP w h->(K w.params).In h)
 (F:∀(w:World) (mg:Str->Option Value) (fa:Addr) (h:Heap),(K w.params).In h->h.Ns mainGlobals mg->mg d.name=some (.ref fa) ->
   ∃fd:FuncData,(∀(s:Shared) (u:Value),BindsTo s fd ⟨[u],[]⟩ [(x,u)]) /\
    ∀base:Heap,(K w.params).In base->base.Ns mainGlobals mg->cT l.prog w (K w.params) mg base (CX w) k fa fd [x] (sp w))
 (hsp:∀(w:World) (H:Hp) (a:Addr) (ns:List Int),ns.length<=n->Only H->aV (K w.params) H a (ns.map V.int)->sp w [.ref a] H (fun v _=>v = .bl true) fun _ _ _=>False)
 (RK:∀(w:World) (H:Hp) (s:Shared) (e:Value) (s':Shared),CX w [] H s (fun _ _ _=>False) e s'->False):
 PySem.W.WalkO q loose XP YP l.row.toRowW d [] (fun f vs=>PySem.call f vs):=by
 refine Att.pY hn hdf fun w s₀ s₁ mg mb fa o pm cd doc a vs ns G Y ho hd hcd hmg hobj hints hlen hg=> ?_;have KX:=hY w _ Y;obtain ⟨fd,hb,hF⟩:=F w mg fa _ KX G.T.g hmg;exact Jk KX G.T.g G.T.b G.T.builtins G.T.nolimit hg hobj hints (Nat.le_trans hlen hn2) hr hF hb (fun H hO hS=>hsp w H a ns hlen hO hS) fun H e s'=>RK w H s₁ e s'
end L2
namespace L2
open PySem PySem.Spec PyProof.Rows
def inClass (s:Stmt) (j:Nat):Stmt:=match s with
 | .ClassDef _ _ _ body _ _ _ _ _ _ _=>body.getD j (.Pass ⟨0,0,0,0⟩)
 | _=> .Pass ⟨0,0,0,0⟩
def aH (s:Stmt):Arguments:=match s with
 | .FunctionDef _ a _ _ _ _ _ _ _ _=>a
 | _=>{posonlyargs:=[],args:=[],vararg:=none,kwonlyargs:=[],kw_defaults:=[],kwarg:=none,defaults:=[]}
def aF (s:Stmt):List Stmt:=match s with
 | .FunctionDef _ _ b _ _ _ _ _ _ _=>b
 | _=>[]
def ao (s:Stmt):Scope:=match s with
 | .FunctionDef _ _ _ _ _ _ sc _ _ _=>sc
 | _=>{kind:= .function,names:=[],isGenerator:=false,isCoroutine:=false}
abbrev jJ:Gp:=fun _ _ _ _ _ _=>False
abbrev E0:XK:=fun _ _ _=>False
theorem Uz {X:Cx}:Passes jJ X E0:=fun _ _ _ _ _ _ _ h=>h.elim
structure lW (K:PySem.W.Frag) (x qual:Str) (st:Stmt) (f:Addr) (fd:FuncData):Prop where
 ex:∃(oc:Value) (od:Option Addr) (kV doc pm:Value) (an:Option Addr) (cdv ct:Value) (osl:Array (Option Value)),
  fd=PySem.W.fnOf x qual (aH st) (aF st) (ao st) .none kV doc pm an cdv ct/\K.lookup f=some ⟨oc,od,.func fd,osl⟩/\PySem.W.codeIn K cdv qual=true
 kp:PySem.W.keepIn K (.ref f)=true
section
variable {P:Program} {w:World} {K:PySem.W.Frag} {mg:Str->Option Value} {base:Heap}
theorem lW.ok {x qual:Str} {st:Stmt} {f:Addr} {fd:FuncData} {N ps:List Str} {k:Nat} {sp:Sp} (F:lW K x qual st f fd) (S:bh N ps (ao st)) (len:∀vs H Q E,sp vs H Q E->vs.length=ps.length)
 (hbody:∀(cdv:Value) (A:Around) (outer:List Env) (s:Shared) (H:Hp) (vs:List V) (Q:VK) (E:XK),cU k (A.deeper (envOfC qual (ao st) s.heap.objs.size f cdv))->sp vs H Q E ->
   ∃t,DX (wR jJ P w K mg base N qual (ao st) f cdv A outer s H E).Q5 (aF st) t/\t {nx:=fun _ H'=>Q .non H',rt:=Q} (start N vs) H):cT P w K mg base jJ (k+1) f fd ps sp:=by
 obtain ⟨oc,od,kV,doc,pm,an,cdv,ct,osl,rfl,lk,hcd⟩:=F.ex;refine O5 lk hcd S len fun A outer s H vs Q E hr hsp=> ?_;obtain ⟨t,h,q⟩:=hbody cdv A outer s H vs Q E hr hsp;exact ⟨t,h.Q5,q⟩
theorem lW.binds {x qual:Str} {st:Stmt} {f:Addr} {fd:FuncData} {ps:List Str} (F:lW K x qual st f fd)
 (h:∀(kV doc pm:Value) (an:Option Addr) (cdv ct:Value) (us:List Value),us.length=ps.length->bindArgs (PySem.W.fnOf x qual (aH st) (aF st) (ao st) .none kV doc pm an cdv ct) ⟨us,[]⟩=pure (ps.zip us)):Binds K fd ps []:=by
 obtain ⟨oc,od,kV,doc,pm,an,cdv,ct,osl,rfl,lk,hcd⟩:=F.ex;exact .all (h kV doc pm an cdv ct)
theorem bU {x qual:Str} {st:Stmt} {f:Addr} {oc:Value} {od an:Option Addr} {osl:Array (Option Value)} {kV doc pm cdv ct:Value} (l:K.lookup f=some ⟨oc,od,.func (PySem.W.fnOf x qual (aH st) (aF st) (ao st) .none kV doc pm an cdv ct),osl⟩)
 (c:PySem.W.codeIn K cdv qual=true) (k:PySem.W.keepIn K (.ref f)=true):lW K x qual st f (PySem.W.fnOf x qual (aH st) (aF st) (ao st) .none kV doc pm an cdv ct):=⟨⟨oc,od,kV,doc,pm,an,cdv,ct,osl,rfl,l,c⟩,k⟩
end
theorem mH {A:Around} {k:Nat} (hr:cU k A):A.units+1<cLine:=Nat.lt_of_le_of_lt (Nat.add_le_add_left (by decide:1<=64) _) hr.units
theorem Ej {n:Nat} (h:n<=1000):n<sizeLine:=Nat.lt_of_le_of_lt h (by decide)
section
variable {X:Cx}
theorem pv (i:Nat) {x:Str} {pos:Pos} (hN:X.N[i]? = some x:=by rfl) (hv:Vis X.env.scope x:=by first |exact Or.inl rfl|exact Or.inr (Or.inl rfl)|exact Or.inr (Or.inr rfl)) (hd:(x==("__debug__" :Str))=false:=by decide)
 (hcd:(x==("__classdict__" :Str))=false:=by decide):PE X (.Name x pos) (jm i):=Qy hN hv hd hcd
end
theorem eX {A B:Prop} (h:B):if false=true then A else B:=by
 rw [if_neg Bool.false_ne_true];exact h
theorem iW {A B:Prop} (h:A):if true=true then A else B:=by
 rw [if_pos rfl];exact h
theorem iY {c A B:Prop} [Decidable c] (h1:c->A) (h2:¬c->B):if c then A else B:=by
 by_cases h:c
 ·rw [if_pos h]
  exact h1 h
 ·rw [if_neg h]
  exact h2 h
theorem yZ {c A B:Prop} [Decidable c] (hc:c) (h:B):if (!decide c)=true then A else B:=by
 rw [decide_eq_true hc];exact eX h
def Same (H H':Hp):Prop:=∀b o,H b=some o->H' b=some o
theorem Same.refl (H:Hp):Same H H:=fun _ _ h=>h
theorem Same.trans {H H1 H2:Hp} (a:Same H H1) (b:Same H1 H2):Same H H2:=fun c o h=>b c o (a c o h)
theorem Same.free {H H':Hp} (e:Same H H') {l:Addr} (h:H' l=Option.none):H l=Option.none:=by
 cases q:H l with
 | none=>rfl
 | some o=>
   rw [e l o q] at h;cases h
theorem Same.seq {K:PySem.W.Frag} {H H':Hp} {a:Addr} {xs:List V} (e:Same H H') (h:aV K H a xs):aV K H' a xs:=by
 rcases h with (h|⟨o,h⟩)|h
 ·exact .inl (.inl (e _ _ h))
 ·exact .inl (.inr ⟨o,e _ _ h⟩)
 ·exact .inr h
section
variable {κ:Type} [DecidableEq κ]
theorem K6 {kvs:List (κ×V)} {k:κ} {v:V} (h:cG kvs k=some v):k∈kvs.map (·.1):=by
 have q:(kvs.any fun kv=>decide (kv.1=k))=true:=by
  rw [jy,h]
  all_goals rfl
 obtain ⟨p,hp,e⟩:=List.any_eq_true.mp q;exact List.mem_map.mpr ⟨p,hp,of_decide_eq_true e⟩
end
end L2
set_option Elab.async false
set_option linter.all false
set_option maxRecDepth 100000
set_option maxHeartbeats 4000000
namespace L2
open PySem PySem.Spec PyProof.Rows
theorem uP {a n:Addr} (h:a<n): @LT.lt Nat _ a n:=h
def lE (env:Env):List (Str×NameKind)->List (Str×Addr)->List (Str×Addr)
 | [],acc=>acc
 | (n,k)::r,acc=>if k == .free then lE env r ((n,(env.cells.lookup n).getD 0)::acc) else lE env r acc
theorem Bo {env:Env} {scope:Scope} (h:∀y∈scope.names,y.2 = .free->(env.cells.lookup y.1).isSome=true):closureFor scope env=pure (lE env scope.names []):=by
 have go:∀(ns:List (Str×NameKind)) (acc:List (Str×Addr)),(∀y∈ns,y.2 = .free->(env.cells.lookup y.1).isSome=true) ->
  (forIn ns acc (fun x cs=>match x with |(name,kind)=>if (kind == .free)=true then do let c ←cellOf env name;pure (ForInStep.yield ((name,c)::cs)) else pure (ForInStep.yield cs)):Sem (List (Str×Addr)))=pure (lE env ns acc):=by
  intro ns
  induction ns with
  | nil=>intro acc _;rfl
  | cons y r ih=>
    intro acc hy;obtain ⟨n,k⟩:=y;rw [List.forIn_cons]
    by_cases hk:k = .free
    ·subst hk
     have hs:=hy (n,.free) List.mem_cons_self rfl;obtain ⟨c,hc⟩:=Option.isSome_iff_exists.mp hs;have e:cellOf env n=pure c:=by unfold cellOf;rw [hc]
     show _=pure (lE env r ((n,(env.cells.lookup n).getD 0)::acc));rw [←ih _ fun y hm=>hy y (List.mem_cons_of_mem _ hm)];simp only [beq_self_eq_true,if_true,e,pure_bind,hc,Option.getD_some]
    ·have hb:(k==NameKind.free)=false:=by simpa using hk
     have hc:lE env ((n,k)::r) acc=lE env r acc:=by
      show (if (k==NameKind.free)=true then _ else _)=_;rw [if_neg (by rw [hb];decide)]
     rw [hc,←ih _ fun y hm=>hy y (List.mem_cons_of_mem _ hm)];simp only [hb,Bool.false_eq_true,if_false,pure_bind]
 have q:=go scope.names [] h;unfold closureFor;show (forIn scope.names [] _ >>= fun r=>pure r)=_;rw [bind_pure];exact q
theorem iB {env:Env}:∀(ns:List (Str×NameKind)) (acc:List (Str×Addr)) (x:Str),(∀y∈ns,y.2 = .free->(env.cells.lookup y.1).isSome=true) ->
 (lE env ns acc).lookup x=if (x,NameKind.free)∈ns then env.cells.lookup x else acc.lookup x
 | [],acc,x,_=>by simp [lE]
 | (n,k)::r,acc,x,h=>by
   have hr:∀y∈r,y.2 = .free->(env.cells.lookup y.1).isSome=true:=fun y hm=>h y (List.mem_cons_of_mem _ hm)
   by_cases hk:k = .free
   ·subst hk
    show (lE env r ((n,(env.cells.lookup n).getD 0)::acc)).lookup x=_;rw [iB r _ x hr];obtain ⟨c,hc⟩:=Option.isSome_iff_exists.mp (h (n,.free) List.mem_cons_self rfl);have hc:env.cells.lookup n=some c:=hc
    by_cases hm:(x,NameKind.free)∈r
    ·rw [if_pos hm,if_pos (List.mem_cons_of_mem _ hm)]
    ·rw [if_neg hm]
     by_cases e:x=n
     ·subst e
      rw [if_pos List.mem_cons_self,List.lookup_cons,hc];simp
     ·rw [if_neg (fun z=>(List.mem_cons.mp z).elim (fun q=>e (congrArg Prod.fst q)) hm),List.lookup_cons]
      have:(x==n)=false:=by simpa using e
      rw [this]
   ·have hb:(k==NameKind.free)=false:=by simpa using hk
    have hc:lE env ((n,k)::r) acc=lE env r acc:=by
     show (if (k==NameKind.free)=true then _ else _)=_;rw [if_neg (by rw [hb];decide)]
    rw [hc,iB r acc x hr]
    have:((x,NameKind.free)∈(n,k)::r)↔(x,NameKind.free)∈r:=by
     constructor
     ·intro z
      rcases List.mem_cons.mp z with q|q
      ·exact absurd (congrArg Prod.snd q).symm hk
      ·exact q
     ·exact List.mem_cons_of_mem _
    simp only [this]
theorem jf (env:Env):∀(ns:List (Str×NameKind)) (x:Str),
 (ns.map fun (n,k)=>if (k == .free&&env.scope.kind == .function&&env.kindOf n==some .cell) then (n,NameKind.cell) else (n,k)).lookup x =
   (ns.lookup x).map fun k=>if (k == .free&&env.scope.kind == .function&&env.kindOf x==some .cell)=true then NameKind.cell else k
 | [],x=>rfl
 | (n,k)::r,x=>by
   show List.lookup x ((if (k==NameKind.free&&env.scope.kind == .function&&env.kindOf n==some .cell)=true then (n,NameKind.cell) else (n,k))::_)=_;cases hx:x==n with
   | true=>
     have e:x=n:=by simpa using hx
     subst e
     by_cases hc:(k==NameKind.free&&env.scope.kind == .function&&env.kindOf x==some .cell)=true
     ·rw [if_pos hc];simp only [List.lookup_cons,hx,Option.map_some,if_pos hc]
     ·rw [if_neg hc];simp only [List.lookup_cons,hx,Option.map_some,if_neg hc]
   | false=>
     have ih:=jf env r x
     by_cases hc:(k==NameKind.free&&env.scope.kind == .function&&env.kindOf n==some .cell)=true
     ·rw [if_pos hc];simp only [List.lookup_cons,hx];exact ih
     ·rw [if_neg hc];simp only [List.lookup_cons,hx];exact ih
structure aR (N own:List Str) (caps:List Nat) (XN:List Str) (outer scope:Scope):Prop where
 kind:scope.kind = .function
 IW:∀y∈scope.names,y.2 ≠ .cell
 names:∀y∈scope.names,y.2 = .local->scope.names.lookup y.1=some .local
 free:∀y∈scope.names,y.2 = .free->outer.names.lookup y.1=some .cell\/outer.names.lookup y.1=some .free
 nd:N.Nodup
 len:N.length=own.length+caps.length
 cap:∀(j:Nat),j<caps.length->N[own.length+j]? = XN[caps.getD j 0]? /\ ∃x,N[own.length+j]? = some x/\(x,NameKind.free)∈scope.names/\scope.names.lookup x=some .free
def st0 (own:List Str) (caps:List Nat) (σ:St):St:=own.map (fun _=>none)++caps.map (fun i=>(σ[i]?).join)
def dH (X:Cx) (scope:Scope) (C:Addr) (N:List Str) (s:Shared) (H:Hp) (fp:List Addr):Cx:=
 {X with N:=N,s₀:=s,H₀:=H,env:=compEnvC scope (lE X.env scope.names []) C X.env,outer:=X.stack,ex:=fp,fn:=fun _=>false,pn:=[],xe:=fun _ _=>False}
section
variable {X:Cx} {pins:List (Addr×Obj)} {σ:St} {H:Hp} {s:Shared} {scope:Scope} {N own:List Str} {caps:List Nat} {fp:List Addr} {C:Nat}
theorem aR.J8 (S:aR N own caps X.N X.env.scope scope) (ok:X.Ok):∀y∈scope.names,y.2 = .free->(X.env.cells.lookup y.1).isSome=true:=fun y hy hf=>by
 obtain ⟨c,e⟩:=ok.has y.1 (S.free y hy hf);rw [e];rfl
theorem aR.csub (S:aR N own caps X.N X.env.scope scope) (ok:X.Ok) {x:Str} {c:Addr} (h:(lE X.env scope.names []).lookup x=some c):X.env.cells.lookup x=some c:=by
 rw [iB _ _ _ (S.J8 ok)] at h;split at h
 ·exact h
 ·simp at h
theorem aR.Ji {S:aR N own caps X.N X.env.scope scope} {x:Str} (h:(relabel scope X.env).names.lookup x=some .cell\/(relabel scope X.env).names.lookup x=some .free):(x,NameKind.free)∈scope.names:=by
 have e:=jf X.env scope.names x;have e':(relabel scope X.env).names.lookup x=(scope.names.lookup x).map fun k=>if (k == .free&&X.env.scope.kind == .function&&X.env.kindOf x==some .cell)=true then NameKind.cell else k:=e;rw [e'] at h;cases q:scope.names.lookup x with
 | none=>rw [q] at h;simp at h
 | some k=>
   have hm:=PySem.mem_of_lookup q
   by_cases hk:k = .free
   ·subst hk;exact hm
   ·rw [q] at h
    have hb:(k==NameKind.free)=false:=by simpa using hk
    simp only [Option.map_some,hb,Bool.false_and,Bool.false_eq_true,if_false] at h;rcases h with h|h
    ·exact absurd (Option.some.inj h) (S.IW _ hm)
    ·exact absurd (Option.some.inj h) hk
theorem Inv.comp {h1:Heap} {D:Nat} (I:Inv X pins σ H s) (S:aR N own caps X.N X.env.scope scope) (hfp:∀b∈fp,dO X pins H b) (hfo:∀b∈fp,∃o,s.heap.get? b=some o)
 (hD:D=s.heap.objs.size) (hC:C=s.heap.objs.size+1) (old:∀b o,s.heap.get? b=some o->h1.get? b=some o) (hns:h1.Ns C (fun _=>none)) (hl:h1.get? D=some {cls:= .type "list",data:= .seq #[]}) {t:Nat}:
 Inv (dH X scope C N s H fp) [] (st0 own caps σ) (upd H D (.lst [])) {s with heap:=h1,toks:=t}:=by
 have some':=S.J8 I.ok;have sub:∀{x c},(lE X.env scope.names []).lookup x=some c->X.env.cells.lookup x=some c:=fun h=>S.csub I.ok h;have freshD:H D=none:=I.hok.fresh (by rw [hD];exact Nat.le_refl _);have RN:H C=none:=I.hok.fresh (by rw [hC];exact Nat.le_succ _)
 have R3:∀x c,X.env.cells.lookup x=some c->c<s.heap.objs.size:=fun x c e=>by
  obtain ⟨v,z⟩:=I.cell x c e;exact z.lt
 have acr:∀b∈fp,b<s.heap.objs.size:=fun b hb=>by
  obtain ⟨o,e⟩:=hfo b hb;exact Heap.lt_size e
 have DC:D≠C:=by omega
 refine ⟨⟨I.ok.mod,S.kind,I.ok.glob,I.ok.blt,by show s.heap.objs.size<=C;omega,fun x y c e1 e2=>I.ok.inj x y c (sub e1) (sub e2),fun x h=> ?_,fun x c h=>(by cases h),I.ok.hd,I.ok.frames,Or.inl rfl,fun b hb=>⟨?_,fun x c e=> ?_⟩,I.bs,Nat.le_trans I.ok.Nr I.sz,fun b o e hb=> ?_,fun b hb z=> ?_,I.stack,I.Ci⟩,
  rfl,I.bare,Un.laid old (by show s.heap.objs.size<=D;omega) freshD,⟨_,hns,fun j x v e1 e2 e3=> ?_⟩,fun x c e=> ?_, ?_,fun x c e=> ?_,fun p hp=> ?_,I.hok.laid old (by omega) ?_, ?_⟩
 ·have hm:=aR.Ji (S:=S) (X:=X) h
  obtain ⟨c,e⟩:=Option.isSome_iff_exists.mp (some' _ hm rfl);exact ⟨c,by show (lE X.env scope.names []).lookup x=_;rw [iB _ _ _ some',if_pos hm];exact e⟩
 ·exact Nat.ne_of_lt (show @LT.lt Nat _ b C by have:=uP (acr b hb);omega)
 ·exact (hfp b hb).2.2.2.2.1 x c (sub e)
 ·rcases (hfp b hb).2.2.2.1 with z|z
  ·exact I.ok.IV b o e z
  ·exact absurd (Nat.lt_of_lt_of_le (Heap.lt_size e) (Nat.le_trans I.ok.Nr z)) (Nat.lt_irrefl _)
 ·rcases List.mem_cons.mp (I.vJ b z) with q|q
  ·exact (hfp b hb).2.1 q
  ·exact (hfp b hb).2.2.1 q
 ·have e1:N[j]? = some x:=e1
  have hj:own.length<=j:=by
   by_cases q:own.length<=j
   ·exact q
   ·exfalso
    unfold st0 at e2;rw [List.getElem?_append_left (by simp;omega),List.getElem?_map] at e2;cases r:own[j]? with
    | none=>rw [r] at e2;cases e2
    | some a=>rw [r] at e2;cases e2
  have hjl:j<N.length:=(List.getElem?_eq_some_iff.mp e1).1;have hjc:j - own.length<caps.length:=by have:=S.len;omega
  obtain ⟨c1,x',c2,c3,c4⟩:=S.cap (j - own.length) hjc;rw [show own.length+(j - own.length)=j by omega] at c1 c2;rw [e1] at c2;cases c2
  have e2':(σ[caps.getD (j - own.length) 0]?).join=some v:=by
   unfold st0 at e2;rw [List.getElem?_append_right (by simp;omega),List.getElem?_map,List.length_map] at e2;rw [List.getD_eq_getElem?_getD];cases r:caps[j - own.length]? with
   | none=>rw [r] at e2;cases e2
   | some a=>rw [r] at e2;exact Option.some.inj e2
  have acw:σ[caps.getD (j - own.length) 0]? = some (some v):=by
   cases r:σ[caps.getD (j - own.length) 0]? with
   | none=>rw [r] at e2';cases e2'
   | some a=>rw [r] at e2';exact congrArg Option.some e2'
  have kx:X.env.kindOf x=some .cell\/X.env.kindOf x=some .free:=S.free _ c3 rfl;obtain ⟨m,hn,hl'⟩:=I.loc;obtain ⟨u,r,l⟩:=hl' _ x v (by rw [←c1];exact e1) acw (by rcases kx with z|z;exact .inr (.inl z);exact .inr (.inr z));refine ⟨u,r,.inr ⟨?_, ?_⟩⟩
  ·show (relabel scope X.env).names.lookup x=some .cell\/(relabel scope X.env).names.lookup x=some .free
   have e:(relabel scope X.env).names.lookup x=(scope.names.lookup x).map fun k=>if (k == .free&&X.env.scope.kind == .function&&X.env.kindOf x==some .cell)=true then NameKind.cell else k:=jf X.env scope.names x;rw [e,c4,Option.map_some];split
   ·exact .inl rfl
   ·exact .inr rfl
  ·rcases l with ⟨hk,_⟩|⟨_,c,hc,z⟩
   ·rcases kx with q|q<;>rw [hk] at q<;>cases q
   ·refine ⟨c, ?_, ?_⟩
    ·show (lE X.env scope.names []).lookup x=_
     rw [iB _ _ _ some',if_pos c3];exact hc
    ·obtain ⟨o,ho,hd⟩:=z
     exact ⟨o,old c o ho,hd⟩
 ·obtain ⟨v,o,ho,hd⟩:=I.cell x c (sub e)
  exact ⟨v,o,old c o ho,hd⟩
 ·show upd H D (.lst []) C=none
  rw [aN DC.symm];exact RN
 ·show upd H D (.lst []) c=none
  rw [aN (Nat.ne_of_lt (by have:=uP (R3 x c (sub e));omega))];exact I.mJ x c (sub e)
 ·cases hp
 ·exact ⟨Nat.zero_le _,[],0,.nil,hl⟩
 ·show (own.map (fun _=>none)++caps.map _).length=N.length
  rw [List.length_append,List.length_map,List.length_map,S.len]
theorem Inv.GQ {gA:List (Addr×Obj)} {σ':St} {H':Hp} {s':Shared} {h':Heap} (I:Inv X pins σ H s) (hfp:∀b∈fp,dO X pins H b) (hC:s.heap.objs.size<=C) (J:Inv (dH X scope C N s H fp) gA σ' H' s') (hs:Heap.SameBut C s'.heap h'):
 Inv X pins σ H' {s' with heap:=h'}:=by
 have nC:∀b o,s.heap.get? b=some o->b≠C:=fun b o e=>Nat.ne_of_lt (by have:=uP (Heap.lt_size e);omega);have u:=J.base;have frC:H' C=none:=J.free;refine I.call' (ch:=fp) (s':={s' with heap:=h'}) J.os ⟨fun b o e n hb hx=> ?_,fun b o e n hb hx=> ?_,u.free,fun b o e hx=> ?_,u.tups,u.sJ,u.uo⟩ (fun a o e=>(J.hok a o e).stay (fun b v hb q=> ?_) (fun _ q=>q) fun _ _ q=>q) J.bare fun b hb=> ?_
 ·exact (hs.2 b (nC b o e)).trans (u.keep b o e n hb hx)
 ·obtain ⟨sl,q⟩:=u.slot b o e n hb hx
  exact ⟨sl,(hs.2 b (nC b o e)).trans q⟩
 ·obtain ⟨o',q⟩:=u.there b o e hx
  exact ⟨o',(hs.2 b (nC b o e)).trans q⟩
 ·refine (hs.2 b ?_).trans q
  intro z;subst z;rcases hb with z|z
  ·subst z;rw [frC] at e;cases e
  ·rw [frC] at z;cases z
 ·exact ⟨(hfp b hb).2.2.2.1,(hfp b hb).2.1,(hfp b hb).2.2.2.2.1,(hfp b hb).2.2.2.2.2⟩
end
section
variable {prog:Program} {w:World} {A:Around} {R:Result->Shared->Prop} {s:Shared}
theorem wU {elt target iter:Expr} {ifs:List Expr} {scope:Scope} {pos:Pos} {it acc:Value} {env:Env} (I:Nat->Shared->Prop)
 (turn:∀n s,I n s->wpAny (model prog w) A (pyNext it) (fun r s1=>match r with
   | none=>R (.ok .next) s1
   | some v=>wpAny (model prog w) A (letOwnedTupleGo target it v) (fun _ s1'=>wpAny (model prog w) A (assign target env v) (fun _ s2=>
      wpAny (model prog w) A (forIn ifs true fun c r=>if r=true then do let ok ←isTrue c env (eval c env);pure (ForInStep.yield ok) else pure (ForInStep.yield r)) (fun ok s3=>
       if ok=true then wpAny (model prog w) A (eval elt env) (fun x s4=>
        wpAny (model prog w) A (call (.builtin "list.append") [acc,x]) (fun _ s5=>∃m,m<n/\I m s5) (fun _ _=>False) s4) (fun _ _=>False) s3
       else ∃m,m<n/\I m s3) (fun _ _=>False) s2) (fun _ _=>False) s1') (fun _ _=>False) s1) (fun _ _=>False) s)
 (n:Nat) (h:I n s):
 codeAny (model prog w) A (.compLoop (.ListComp elt [⟨target,iter,ifs,0⟩] scope pos) 0 it acc env) R s:=by
 refine codeAny_loop rfl I (fun n s hI=> ?_) n h;show wpAny _ A ((compTurn (.ListComp elt [⟨target,iter,ifs,0⟩] scope pos) 0 it acc env).onRaise (fun x=>do noteFrame x env;theTreesLotGoes x)) _ _ s;refine wpAny_noted ?_;rw [compTurn_list];refine wpAny_bind (wpAny_standAt (wpAny_bind (wpAny_mono (turn n s hI) (fun r s1 h1=> ?_) fun _ _ h'=>h'.elim)));cases r with
 | none=>exact wpAny_pure h1
 | some v=>
   refine wpAny_bind (wpAny_mono h1 (fun _ s1' h1'=> ?_) fun _ _ h'=>h'.elim);refine wpAny_bind (wpAny_mono h1' (fun _ s2 h2=>wpAny_bind (wpAny_mono h2 (fun ok s3 h3=> ?_) fun _ _ h'=>h'.elim)) fun _ _ h'=>h'.elim);cases ok with
   | false=>exact wpAny_pure ⟨rfl,h3⟩
   | true=>
     exact wpAny_bind (wpAny_bind (wpAny_mono h3 (fun x s4 h4=>wpAny_bind (wpAny_mono h4 (fun _ s5 h5=>wpAny_pure (wpAny_pure ⟨rfl,h5⟩)) fun _ _ h'=>h'.elim)) fun _ _ h'=>h'.elim))
end
def Xa (X:Cx) (ifs:List Expr) (t:TT):Prop:=
 ∀(pins:List (Addr×Obj)) (s:Shared) (σ:St) (H:Hp) (Q:Bool->Hp->Prop),Inv X pins σ H s->t σ H Q ->
  wpAny (model X.prog X.w) X.A (forIn ifs true fun c r=>if r=true then do let ok ←isTrue c X.env (eval c X.env);pure (ForInStep.yield ok) else pure (ForInStep.yield r)) (TP X pins σ Q) X.xe s
def Y9:TT:=fun _ H Q=>Q true H
theorem iU {X:Cx}:Xa X [] Y9:=fun _ _ _ H _ I h=>wpAny_tests_nil ⟨H,I,h⟩
theorem jT {X:Cx} {c:Expr} {t:TT} (h:PT X c t):Xa X [c] t:=fun pins s σ H Q I q=>wpAny_tests_one (h pins s σ H Q I q)
def p8 (J:It) (g:TG) (tc:TT) (te:TE) (Q:VK) (D:Addr) (σ0:St) (H1:Hp):Prop:=
 ∃W:Nat->Nat->St->Hp->Prop,(∃m,W 0 m σ0 (upd H1 D (.lst []))) /\ ∀i m σ H,W i m σ H ->
  (J.stop i H/\Q (.ref D) H)\/(J.go i H /\ ∃N:St->Hp->Prop,(∀σ' H',N σ' H' -> ∃m',m'<m/\W (i+1) m' σ' H') /\ ∀x H',J.Pq i H x H'->g x σ H' fun σ2 H2=>tc σ2 H2 fun b H3=>
    if b=true then te σ2 H3 fun y H4=>∃acc,H4 D=some (.lst acc)/\acc.length<sizeLine/\N σ2 (upd H4 D (.lst (acc++[y]))) else N σ2 H3)
def G6 (own:List Str) (caps:List Nat) (wi:TI) (g:TG) (tc:TT) (te:TE):TE:=fun σ H Q=>wi σ H fun J H1=>∀D,H1 D=none->p8 J g tc te Q D (st0 own caps σ) H1
section
variable {X:Cx} {elt tg iter:Expr} {ifs:List Expr} {scope:Scope} {pos:Pos} {N own:List Str} {caps:List Nat} {wi:TI} {g:TG} {tc:TT} {te:TE}
theorem zH {use:Option (Value->Sem Unit)} {Qv:Value->Shared->Prop} {pins:List (Addr×Obj)} {σ:St} {H:Hp} {s:Shared} {Q:VK} (hc:X.calm=true) (S:aR N own caps X.N X.env.scope scope)
 (hg:∀C s H fp,PG (dH X scope C N s H fp) tg g) (hcs:∀C s H fp,Xa (dH X scope C N s H fp) ifs tc) (he:∀C s H fp,PE (dH X scope C N s H fp) elt te)
 (hi:PI X tg iter wi) (hs:∀x,foldedSetIterable iter X.env x=pure x)
 (I:Inv X pins σ H s) (h:G6 own caps wi g tc te σ H Q)
 (fin:∀(D C:Addr) (H':Hp) (s':Shared),(∃m,s'.heap.Ns C m)->Inv X pins σ H' s'->(∀h',Heap.SameBut C s'.heap h'->Inv X pins σ H' {s' with heap:=h'})->dO X pins H' C->Q (.ref D) H' ->
   compPost (model X.prog X.w) X.A X.xe use Qv (.ref D) C (.ok .next) s'):
 wpAny (model X.prog X.w) X.A (comprehension (.ListComp elt [⟨tg,iter,ifs,0⟩] scope pos) scope X.env (firstIterPos [⟨tg,iter,ifs,0⟩] pos) (newList []) false (eval iter X.env) use) Qv X.xe s:=by
 refine wpAny_comprehension_free (use:=use) rfl hs (Bo (S.J8 I.ok)) S.kind S.names (cR (hi pins s σ H _ I h) fun xv s1 h1=>cR h1 fun itv s2 h2=> ?_);obtain ⟨it,fp,tn,J,H2,e,I2,T,st2,f2,q2⟩:=h2;subst e;refine wpAny_newList ?_;refine wpAny_newFunctionEnv S.IW (by intro y hy;simp at hy) (fun h1 VD hsb1=> ?_) S.kind;dsimp only at VD hsb1 ⊢;have hD:H2 s2.heap.objs.size=none:=I2.hok.fresh (Nat.le_refl _);have hsz:(s2.heap.push {cls:= .type "list",data:= .seq ([]:List Value).toArray}).objs.size=s2.heap.objs.size+1:=Heap.size_push ..
 have old:∀b o,s2.heap.get? b=some o->h1.get? b=some o:=fun b o e=>by
  refine hsb1.extBut b o (Nat.ne_of_lt (by have:=uP (Heap.lt_size e);rw [hsz];omega)) (Heap.get?_push_of_some _ (Heap.get?_push_of_some _ e))
 have hl:h1.get? s2.heap.objs.size=some {cls:= .type "list",data:= .seq #[]}:=
  hsb1.extBut _ _ (Nat.ne_of_lt (by rw [hsz];omega)) (Heap.get?_push_of_some _ (Heap.get?_push_size _ rfl))
 have hfo:∀b∈fp,∃o,s2.heap.get? b=some o:=fun b hb=>let ⟨o,e,_⟩:=T.obj _ _ st2 b hb;⟨o,e⟩
 have I4:=Inv.comp (C:=(s2.heap.push {cls:= .type "list",data:= .seq ([]:List Value).toArray}).objs.size) (t:=s2.toks+([]:List (Str×Value)).length) I2 S f2 hfo rfl hsz old VD hl;obtain ⟨W,⟨m0,w0⟩,turn⟩:=q2 _ hD;generalize hCe:(s2.heap.push {cls:= .type "list",data:= .seq ([]:List Value).toArray}).objs.size=C at *;generalize hDe:s2.heap.objs.size=D at *;have hDC:D≠C:=by omega
 have loop:∀s3:Shared,s3={s2 with heap:=h1,toks:=s2.toks+([]:List (Str×Value)).length} ->
  codeAny (model X.prog X.w) X.A (.compLoop (.ListComp elt [⟨tg,iter,ifs,0⟩] scope pos) 0 (.ref it) (.ref D) (dH X scope C N s2 H2 fp).env) (compPost (model X.prog X.w) X.A X.xe use Qv (.ref D) C) s3:=by
  rintro s3 rfl
  have xT:∀b∈fp,(upd H2 D (.lst [])) b=none:=fun b hb=>by
   obtain ⟨o,e⟩:=hfo b hb;rw [aN (Nat.ne_of_lt (by have:=uP (Heap.lt_size e);omega))];exact (f2 b hb).1
  have stat:∀{H':Hp},(∀b∈fp,H' b=none) -> ∀b∈fp,dO (dH X scope C N s2 H2 fp) [] H' b:=fun hn b hb=>by
   obtain ⟨o,e⟩:=hfo b hb;have hlt:=uP (Heap.lt_size e);refine ⟨hn b hb, ?_,fun z=> ?_,.inl hb,fun x c e'=>(f2 b hb).2.2.2.2.1 x c (S.csub I2.ok e'),fun p hp=>(by cases hp)⟩
   ·exact Nat.ne_of_lt (show @LT.lt Nat _ b C by omega)
   ·rcases List.mem_cons.mp (I2.vJ b z) with q|q
    ·exact (f2 b hb).2.1 q
    ·exact (f2 b hb).2.2.1 q
  refine wU (fun n s'=>∃i σ' H',Inv (dH X scope C N s2 H2 fp) [] σ' H' s'/\tn i s'.heap/\(∀b∈fp,H' b=none)/\W i n σ' H') ?_ m0
   ⟨0,_,_,I4,T.keep _ _ _ st2 fun b _ o e=>old b o e,xT,w0⟩
  rintro n s3 ⟨i,σ3,H3,I3,st3,V2,w3⟩;rcases turn i n σ3 H3 w3 with ⟨stop,qn⟩|⟨go,Nx,hNx,step⟩
  ·refine cR (T.done (dH X scope C N s2 H2 fp) rfl rfl rfl hc i [] s3 σ3 H3 _ I3 (stat V2) st3 stop) fun r s4 ⟨hr,J4⟩=> ?_
   subst hr;obtain ⟨m4,hn4,_⟩:=J4.loc;exact fin D C H3 s4 ⟨m4,hn4⟩ (I2.GQ f2 (by omega) J4 (Heap.SameBut.refl _ _)) (fun h' hs'=>I2.GQ f2 (by omega) J4 hs') (I2.pC (show s2.heap.objs.size<=C by omega) J4.free) qn
  ·refine cR (T.item (dH X scope C N s2 H2 fp) rfl rfl rfl hc i [] s3 σ3 H3 _ I3 (stat V2) st3 go) fun r s4 ⟨u,hr,h4⟩=> ?_
   subst hr;refine cR h4 fun _ s5 ⟨x,H5,I5,r5,y5,xQ,O2⟩=> ?_;have I5':=I5.pinned (stat O2) (T.obj _ _ xQ);refine cR (hg C s2 H2 fp _ s5 σ3 H5 x u _ I5' r5 (step x H5 y5)) fun _ s6 ⟨σ6,H6,I6,q6⟩=> ?_;refine cR (hcs C s2 H2 fp _ s6 σ6 H6 _ I6 q6) fun ok s7 ⟨H7,I7,q7⟩=> ?_
   have again:∀{σ8:St} {H8:Hp} {s8:Shared},Inv (dH X scope C N s2 H2 fp) ([]++rN fp s5.heap) σ8 H8 s8->Nx σ8 H8 -> ∃m,m<n /\ ∃i σ' H',Inv (dH X scope C N s2 H2 fp) [] σ' H' s8/\tn i s8.heap/\(∀b∈fp,H' b=none)/\W i m σ' H':=fun {σ8 H8 s8} I8 n8=>by
    obtain ⟨m',hm,w8⟩:=hNx _ _ n8;refine ⟨m',hm,i+1,σ8,H8,I8.je,T.keep _ _ _ xQ fun b hb o e=>(I8.pin (b,o) (List.mem_append_right _ (List.mem_append_right _ (jZ hb e)))).1,fun b hb=> ?_,w8⟩;obtain ⟨o,e,d⟩:=T.obj _ _ xQ b hb;exact (I8.pin (b,o) (List.mem_append_right _ (List.mem_append_right _ (jZ hb e)))).2.1
   cases ok with
   | false=>
     rw [if_neg (by decide)] at q7;exact again I7 q7
   | true=>
     rw [if_pos rfl] at q7;refine cR (he C s2 H2 fp _ s7 σ6 H7 _ I7 q7) fun y s8 ⟨yv,H8,I8,r8,acc,ha,hlen,q8⟩=> ?_;exact cR (uQ _ s8 σ6 H8 (.ref D) [yv] (.ref D) [y] (fun v H9=>Nx σ6 H9) I8 rfl (.cons r8 .nil) ⟨D,acc,yv,rfl,rfl,ha,hlen,q8⟩) fun _ s9 ⟨_,H9,I9,_,q9⟩=>again I9 q9
 exact codeAny_compStart_list (loop _ rfl) (T.self _ 0 _ _ _ (T.keep _ _ _ st2 fun b _ o e=>old b o e) (loop _ rfl))
theorem iV (hc:X.calm=true) (S:aR N own caps X.N X.env.scope scope) (hi:PI X tg iter wi)
 (hg:∀C s H fp,PG (dH X scope C N s H fp) tg g) (hcs:∀C s H fp,Xa (dH X scope C N s H fp) ifs tc) (he:∀C s H fp,PE (dH X scope C N s H fp) elt te)
 (hs:∀x,foldedSetIterable iter X.env x=pure x:=by intro _;rfl):PE X (.ListComp elt [⟨tg,iter,ifs,0⟩] scope pos) (G6 own caps wi g tc te):=by
 intro pins s σ H Q I h;rw [eval_ListComp];refine zH (use:=none) hc S hg hcs he hi hs I h ?_;intro D C H' s' hn I' hk _ q;obtain ⟨m,hn⟩:=hn;exact ⟨m,hn,fun h' hs'=>⟨.ref D,H',hk h' hs',rfl,q⟩⟩
theorem jU {i:Nat} {x:Str} {px sp:Pos} (hc:X.calm=true) (hN:X.N.Nodup) (hx:X.N[i]? = some x) (hl:Loc X.env.scope x) (S:aR N own caps X.N X.env.scope scope) (hi:PI X tg iter wi)
 (hg:∀C s H fp,PG (dH X scope C N s H fp) tg g) (hcs:∀C s H fp,Xa (dH X scope C N s H fp) ifs tc) (he:∀C s H fp,PE (dH X scope C N s H fp) elt te)
 (hsw:swapsWith (.ListComp elt [⟨tg,iter,ifs,0⟩] scope pos) (some (.Name x px)) sp.line X.env=pure true:=by rfl)
 (hs:∀x,foldedSetIterable iter X.env x=pure x:=by intro _;rfl) (hf:X.fn x=true\/X.env.scope.names.lookup x=some .local:=by first |exact .inl rfl|exact .inr rfl|assumption):
 PS X (.Assign [.Name x px] (.ListComp elt [⟨tg,iter,ifs,0⟩] scope pos) sp) (Eh (G6 own caps wi g tc te) (j9 i)):=by
 intro pins s σ H D I h;rw [exec_Assign_Name_used _ _ _ _ hsw];refine wpAny_bind (wpAny_standAt (wpAny_bind ?_));show wpAny _ X.A (do let _ ←comprehension (.ListComp elt [⟨tg,iter,ifs,0⟩] scope pos) scope X.env (firstIterPos [⟨tg,iter,ifs,0⟩] pos) (newList []) false (eval iter X.env) (some (assign (.Name x px) X.env))) _ _ s;refine wpAny_bind (wpAny_mono (zH (use:=some (assign (.Name x px) X.env)) (Qv:=fun _ s'=>SP X pins D .next s') hc S hg hcs he hi hs I h ?_) (fun _ s' hq=>wpAny_pure (wpAny_pure hq)) fun _ _ e=>e);intro E C H' s' hn I' hk fC q;obtain ⟨m,hn⟩:=hn;obtain ⟨f0,f1,f2,f3,f4,f5⟩:=fC;show wpAny _ X.A (assign (.Name x px) X.env (.ref E)) _ _ _;refine wpAny_assign_Name (uJ I' hN hx hl (v:= .ref E) rfl (fun s2 I2 k=> ?_) hf);refine ⟨m, ?_,fun h' hs'=> ?_⟩
 ·obtain ⟨o,es,ep,ho,r⟩:=hn
  obtain ⟨a,ks,ka⟩:=k
  have hCa:C≠a:=fun z=>by
   rcases ka with q'|q'
   ·exact f1 (z.trans q')
   ·exact f4 x a q' z.symm
  exact ⟨o,es,ep,(ks.2 C hCa).trans ho,r⟩
 ·exact ⟨_,H',I2.turned (t':=s2.toks) (fun b o hb e=>(hs'.2 b hb).trans e) f0 f1 f3 f4 f5,q⟩
end
def J_ (N own:List Str) (caps:List Nat) (XN:List Str) (outer scope:Scope):Bool:=
 decide (scope.kind = .function)&&scope.names.all (fun y=>decide (y.2 ≠ .cell))&&scope.names.all (fun y=>decide (y.2 ≠ .local)||decide (scope.names.lookup y.1=some .local)) &&
 scope.names.all (fun y=>decide (y.2 ≠ .free)||decide (outer.names.lookup y.1=some .cell)||decide (outer.names.lookup y.1=some .free))&&decide N.Nodup&&decide (N.length=own.length+caps.length) &&
 (List.range caps.length).all (fun j=>match N[own.length+j]? with |some x=>decide (XN[caps.getD j 0]? = some x)&&decide ((x,NameKind.free)∈scope.names)&&decide (scope.names.lookup x=some .free)|none=>false)
theorem aR.of {N own:List Str} {caps:List Nat} {XN:List Str} {outer scope:Scope} (h:J_ N own caps XN outer scope=true):aR N own caps XN outer scope:=by
 unfold J_ at h;simp only [Bool.and_eq_true,decide_eq_true_eq,List.all_eq_true,Bool.or_eq_true] at h;obtain ⟨⟨⟨⟨⟨⟨h1,h2⟩,h3⟩,h4⟩,h5⟩,h6⟩,h7⟩:=h;refine ⟨h1,h2,fun y hy e=> ?_,fun y hy e=> ?_,h5,h6,fun j hj=> ?_⟩
 ·rcases h3 y hy with z|z
  ·exact absurd e z
  ·exact z
 ·rcases h4 y hy with (z|z)|z
  ·exact absurd e z
  ·exact .inl z
  ·exact .inr z
 ·have q:=h7 j (List.mem_range.mpr hj)
  cases e:N[own.length+j]? with
  | none=>rw [e] at q;cases q
  | some x=>
    rw [e] at q;simp only [Bool.and_eq_true,decide_eq_true_eq] at q;exact ⟨q.1.1.symm,x,rfl,q.1.2,q.2⟩
end L2
set_option Elab.async false
set_option linter.all false
set_option maxRecDepth 100000
set_option maxHeartbeats 4000000
namespace L2
open PySem PySem.Spec PyProof.Rows
mutual
def Dat (H:Hp):V->PyData->Prop
 | v,.none=>v = .non
 | v,.bool b=>v = .bl b
 | v,.int i=>v = .int i
 | v,.str x=>v = .str x
 | v,.list ds=>∃a vs,v = .ref a/\H a=some (.lst vs)/\aC H vs ds
 | v,.tuple ds=>∃a vs,v = .ref a/\H a=some (.tup vs)/\aC H vs ds
 | _,.dict _=>False
def aC (H:Hp):List V->List PyData->Prop
 | [],[]=>True
 | v::vs,d::ds=>Dat H v d/\aC H vs ds
 | [],_::_=>False
 | _::_,[]=>False
end
section
variable {H H':Hp}
theorem aC.length:∀{vs:List V} {ds:List PyData},aC H vs ds->vs.length=ds.length
 | [],[],_=>rfl
 | _::_,_::_,h=>by simp only [aC] at h;simp [aC.length h.2]
 | [],_::_,h=>by simp only [aC] at h
 | _::_,[],h=>by simp only [aC] at h
theorem aC.get:∀{vs:List V} {ds:List PyData} {i:Nat} {v:V},aC H vs ds->vs[i]? = some v -> ∃d,ds[i]? = some d/\Dat H v d
 | _::_,_::_,0,_,h,e=>by simp only [aC] at h;simp at e;subst e;exact ⟨_,rfl,h.1⟩
 | _::_,_::_,i+1,_,h,e=>by simp only [aC] at h;simp at e;obtain ⟨d,q,r⟩:=aC.get h.2 e;exact ⟨d,by simpa using q,r⟩
 | [],[],_,_,_,e=>by simp at e
 | [],_::_,_,_,h,_=>by simp only [aC] at h
 | _::_,[],_,_,h,_=>by simp only [aC] at h
theorem aC.getD:∀{vs:List V} {ds:List PyData} {i:Nat} {d:PyData},aC H vs ds->ds[i]? = some d -> ∃v,vs[i]? = some v/\Dat H v d
 | _::_,_::_,0,_,h,e=>by simp only [aC] at h;simp at e;subst e;exact ⟨_,rfl,h.1⟩
 | _::_,_::_,i+1,_,h,e=>by simp only [aC] at h;simp at e;obtain ⟨d,q,r⟩:=aC.getD h.2 e;exact ⟨d,by simpa using q,r⟩
 | [],[],_,_,_,e=>by simp at e
 | [],_::_,_,_,h,_=>by simp only [aC] at h
 | _::_,[],_,_,h,_=>by simp only [aC] at h
theorem aC.append:∀{vs ws:List V} {ds es:List PyData},aC H vs ds->aC H ws es->aC H (vs++ws) (ds++es)
 | [],_,[],_,_,g=>g
 | _::_,_,_::_,_,h,g=>by simp only [aC,List.cons_append] at h ⊢;exact ⟨h.1,aC.append h.2 g⟩
 | [],_,_::_,_,h,_=>by simp only [aC] at h
 | _::_,_,[],_,h,_=>by simp only [aC] at h
theorem aC.take:∀{vs:List V} {ds:List PyData} (n:Nat),aC H vs ds->aC H (vs.take n) (ds.take n)
 | _,_,0,_=>by simp only [List.take_zero,aC]
 | [],[],_+1,_=>by simp only [List.take_nil,aC]
 | _::_,_::_,n+1,h=>by simp only [aC,List.take_succ_cons] at h ⊢;exact ⟨h.1,aC.take n h.2⟩
 | [],_::_,_+1,h=>by simp only [aC] at h
 | _::_,[],_+1,h=>by simp only [aC] at h
theorem aC.drop:∀{vs:List V} {ds:List PyData} (n:Nat),aC H vs ds->aC H (vs.drop n) (ds.drop n)
 | _,_,0,h=>by simpa using h
 | [],[],_+1,_=>by simp only [List.drop_nil,aC]
 | _::_,_::_,n+1,h=>by simp only [aC,List.drop_succ_cons] at h ⊢;exact aC.drop n h.2
 | [],_::_,_+1,h=>by simp only [aC] at h
 | _::_,[],_+1,h=>by simp only [aC] at h
mutual
theorem Dat.mono (hl:∀a xs,H a=some (HO.lst xs)->H' a=some (HO.lst xs)) (ht:∀a xs,H a=some (HO.tup xs)->H' a=some (HO.tup xs)):∀(d:PyData) {v:V},Dat H v d->Dat H' v d
 | .none,_,h=>by simp only [Dat] at h ⊢;exact h
 | .bool _,_,h=>by simp only [Dat] at h ⊢;exact h
 | .int _,_,h=>by simp only [Dat] at h ⊢;exact h
 | .str _,_,h=>by simp only [Dat] at h ⊢;exact h
 | .list ds,_,h=>by simp only [Dat] at h ⊢;obtain ⟨a,vs,e,q,r⟩:=h;exact ⟨a,vs,e,hl _ _ q,aC.mono hl ht ds r⟩
 | .tuple ds,_,h=>by simp only [Dat] at h ⊢;obtain ⟨a,vs,e,q,r⟩:=h;exact ⟨a,vs,e,ht _ _ q,aC.mono hl ht ds r⟩
 | .dict _,_,h=>by simp only [Dat] at h
theorem aC.mono (hl:∀a xs,H a=some (HO.lst xs)->H' a=some (HO.lst xs)) (ht:∀a xs,H a=some (HO.tup xs)->H' a=some (HO.tup xs)):∀(ds:List PyData) {vs:List V},aC H vs ds->aC H' vs ds
 | [],[],_=>by simp only [aC]
 | d::ds,v::vs,h=>by simp only [aC] at h ⊢;exact ⟨Dat.mono hl ht d h.1,aC.mono hl ht ds h.2⟩
 | _::_,[],h=>by simp only [aC] at h
 | [],_::_,h=>by simp only [aC] at h
end
mutual
def Dn:PyData->Bool
 | .tuple ds=>zq ds
 | .list _ | .dict _=>false
 | .none | .bool _ | .int _ | .str _=>true
def zq:List PyData->Bool
 | []=>true
 | d::ds=>Dn d&&zq ds
end
mutual
theorem Dat.keep (ht:∀a xs,H a=some (HO.tup xs)->H' a=some (HO.tup xs)):∀(d:PyData) {v:V},Dn d=true->Dat H v d->Dat H' v d
 | .none,_,_,h=>by simp only [Dat] at h ⊢;exact h
 | .bool _,_,_,h=>by simp only [Dat] at h ⊢;exact h
 | .int _,_,_,h=>by simp only [Dat] at h ⊢;exact h
 | .str _,_,_,h=>by simp only [Dat] at h ⊢;exact h
 | .list ds,_,i,h=>by simp only [Dn] at i;cases i
 | .tuple ds,_,i,h=>by simp only [Dat] at h ⊢;simp only [Dn] at i;obtain ⟨a,vs,e,q,r⟩:=h;exact ⟨a,vs,e,ht _ _ q,aC.keep ht ds i r⟩
 | .dict _,_,_,h=>by simp only [Dat] at h
theorem aC.keep (ht:∀a xs,H a=some (HO.tup xs)->H' a=some (HO.tup xs)):∀(ds:List PyData) {vs:List V},zq ds=true->aC H vs ds->aC H' vs ds
 | [],[],_,_=>by simp only [aC]
 | d::ds,v::vs,i,h=>by simp only [aC] at h ⊢;simp only [zq,Bool.and_eq_true] at i;exact ⟨Dat.keep ht d i.1 h.1,aC.keep ht ds i.2 h.2⟩
 | _::_,[],_,h=>by simp only [aC] at h
 | [],_::_,_,h=>by simp only [aC] at h
end
theorem aQ {α:Type} (f:α->PyData) (h:∀x,Dn (f x)=true):∀l:List α,zq (l.map f)=true
 | []=>rfl
 | a::l=>by simp only [List.map_cons,zq,h a,aQ f h l,Bool.and_self]
end
section
variable {X:Cx} {pins:List (Addr×Obj)} {σ:St} {H:Hp} {s:Shared}
mutual
theorem Inv.reads (I:Inv X pins σ H s):∀(d:PyData) {v:V} {u:Value},Dat H v d->RelV v u -> ∃as,Reads s.heap u d as
 | .none,v,u,h,r=>by
   simp only [Dat] at h;subst h;cases (show u=Value.none from r);exact ⟨_,.none⟩
 | .bool b,v,u,h,r=>by
   simp only [Dat] at h;subst h;cases (show u=Value.bool b from r);exact ⟨_,.bool b⟩
 | .int i,v,u,h,r=>by
   simp only [Dat] at h;subst h;obtain ⟨t,q⟩:=(show ∃t,u=Value.int i t from r);cases q;exact ⟨_,.int i t⟩
 | .str x,v,u,h,r=>by
   simp only [Dat] at h;subst h;obtain ⟨t,q⟩:=(show ∃t,u=Value.str x t from r);cases q;exact ⟨_,.str x t⟩
 | .list ds,v,u,h,r=>by
   simp only [Dat] at h;obtain ⟨a,vs,rfl,q,g⟩:=h;cases (show u=Value.ref a from r);obtain ⟨its,rv,p,hz⟩:=I.list (aV.of q);obtain ⟨o,ho,hc,n,hd⟩:=p.isList;obtain ⟨as,ra⟩:=Inv.readsAll I ds g rv;exact ⟨_,.list ho hc hd (by simpa using ra)⟩
 | .tuple ds,v,u,h,r=>by
   simp only [Dat] at h;obtain ⟨a,vs,rfl,q,g⟩:=h;cases (show u=Value.ref a from r);obtain ⟨its,rv,p,hz⟩:=I.tuple (bZ.of q);obtain ⟨o,ho,hc,n,hd⟩:=p;obtain ⟨as,ra⟩:=Inv.readsAll I ds g rv;exact ⟨_,.tuple ho hc hd (by simpa using ra)⟩
 | .dict _,_,_,h,_=>by simp only [Dat] at h
theorem Inv.readsAll (I:Inv X pins σ H s):∀(ds:List PyData) {vs:List V} {us:List Value},aC H vs ds->Vals vs us -> ∃as,ReadsAll s.heap us ds as
 | [],[],_,_,.nil=>⟨_,.nil⟩
 | d::ds,v::vs,_,h,.cons r rs=>by
   simp only [aC] at h;obtain ⟨as,ra⟩:=Inv.reads I d h.1 r;obtain ⟨bs,rb⟩:=Inv.readsAll I ds h.2 rs;exact ⟨_,.cons ra rb⟩
 | _::_,[],_,h,_=>by simp only [aC] at h
 | [],_::_,_,h,_=>by simp only [aC] at h
end
def Lr (neg:Bool):R2:=fun x y H Q=>∃d e,Dat H x d/\Dat H y e/\SeqAt.shaped d=true/\SeqAt.shaped e=true/\Q (.bl (if neg then !PyData.eqv d e else PyData.eqv d e)) H
theorem QH (hu:X.A.units+64<cLine):ni X (compareOp .Eq) (Lr false):=by
 intro pins s σ H x y v u Q I rx ry h;obtain ⟨d,e,h1,h2,s1,s2,q⟩:=h;obtain ⟨as,ra⟩:=I.reads d h1 rx;obtain ⟨bs,rb⟩:=I.reads e h2 ry;exact SeqAt.compareEq_shaped ra rb s1 s2 hu ⟨.bl _,H,I,rfl,q⟩
theorem QG (hu:X.A.units+64<cLine):ni X (compareOp .NotEq) (Lr true):=by
 intro pins s σ H x y v u Q I rx ry h;obtain ⟨d,e,h1,h2,s1,s2,q⟩:=h;obtain ⟨as,ra⟩:=I.reads d h1 rx;obtain ⟨bs,rb⟩:=I.reads e h2 ry;exact SeqAt.compareNe_shaped ra rb s1 s2 hu ⟨.bl _,H,I,rfl,q⟩
theorem Ka {c:Value} {cv:V} (rc:RelV cv c):fO X (.builtin "isinstance") (fun xs H Q=>∃x t b,xs=[x,cv]/\oF X.K H x t/\PySem.W.kitOne X.K t c=some b/\Q (.bl b) H):=by
 intro pins s σ H xs us Q I r h;obtain ⟨x,t,b,rfl,ty,e,q⟩:=h;obtain ⟨u,w',rfl,r1,r2⟩:=vals2 r
 have:w'=c:=by
  cases cv with
  | non=>exact (show w'=Value.none from r2).trans (show c=Value.none from rc).symm
  | bl b=>exact (show w'=Value.bool b from r2).trans (show c=Value.bool b from rc).symm
  | ref a=>exact (show w'=Value.ref a from r2).trans (show c=Value.ref a from rc).symm
  | ty n=>exact (show w'=Value.type n from r2).trans (show c=Value.type n from rc).symm
  | int i=>obtain ⟨t1,rfl⟩:=(show ∃t,c=Value.int i t from rc);unfold PySem.W.kitOne at e;exact absurd e (by cases ty<;>simp [PySem.W.kitCls])
  | str i=>obtain ⟨t1,rfl⟩:=(show ∃t,c=Value.str i t from rc);unfold PySem.W.kitOne at e;exact absurd e (by cases ty<;>simp [PySem.W.kitCls])
  | z9 i=>obtain ⟨t1,rfl⟩:=(show ∃t,c=Value.bytes i t from rc);unfold PySem.W.kitOne at e;exact absurd e (by cases ty<;>simp [PySem.W.kitCls])
  | flt i=>obtain ⟨t1,rfl⟩:=(show ∃t,c=Value.float i t from rc);unfold PySem.W.kitOne at e;exact absurd e (by cases ty<;>simp [PySem.W.kitCls])
 subst this;exact Fy I r1 ty e fun tk=>⟨.bl b,H,I.tok _,rfl,q⟩
end
section
variable {prog:Program} {w:World} {A:Around}
theorem mO (hh:A.handled=none) (it a:Addr) (hne:it≠a) (its:List Value):Walks prog w A it [it,a] [it] its.length (fun i v=>its[i]? = some v) (fun i h=>h.IsListIter it a i/\h.IsList a its.toArray) where
 sub:=by simp
 frame:=fun i h h' ⟨s1,o,ho,hc⟩ k=>⟨s1.at fun o e=>k it (by simp) o e,o,k a (by simp) o ho,hc⟩
 item:=fun i s Q E hi ⟨s1,s2⟩ hQ=>wpAny_pyNext_list_item s1 s2 (x:=its[i]) (by simp [hi]) fun h' st' sb=>
  hQ _ h' s.toks (by simp [hi]) ⟨st',s2.extBut sb.extBut hne.symm⟩ fun b o hb e=>(sb.2 b (by simpa using hb)).trans e
 done:=fun s Q E ⟨s1,s2⟩ hQ=>wpAny_pyNext_list_end hh s1 s2 (by simp) fun h' eb=>hQ h' s.toks fun b o hb e=>eb b o (by simpa using hb) e
 self:=fun i s Q E ⟨s1,_⟩ hQ=>wpAny_pyIter_listiter s1 hQ
end
section
variable {X:Cx}
theorem uw (bs:List Bool):(List.range bs.length).all (fun i=>(bs[i]?).getD false)=bs.all id:=by
 rw [Bool.eq_iff_iff,List.all_eq_true,List.all_eq_true];constructor
 ·intro h b hb
  obtain ⟨i,hi,rfl⟩:=List.getElem_of_mem hb;have:=h i (by simpa using hi);simpa [hi] using this
 ·intro h i hi
  have hi':i<bs.length:=by simpa using hi
  simpa [hi'] using h bs[i] (List.getElem_mem hi')
theorem ur (bs:List Bool):(List.range bs.length).any (fun i=>(bs[i]?).getD false)=bs.any id:=by
 rw [Bool.eq_iff_iff,List.any_eq_true,List.any_eq_true];constructor
 ·rintro ⟨i,hi,h⟩
  have hi':i<bs.length:=by simpa using hi
  exact ⟨bs[i],List.getElem_mem hi',by simpa [hi'] using h⟩
 ·rintro ⟨b,hb,h⟩
  obtain ⟨i,hi,rfl⟩:=List.getElem_of_mem hb;exact ⟨i,by simpa using hi,by simpa [hi] using h⟩
theorem qU {bs:List Bool}:∀{us:List Value},Vals (bs.map V.bl) us->us=bs.map Value.bool:=by
 induction bs with
 | nil=>intro us r;cases r;rfl
 | cons b bs ih=>
   intro us r;cases r with
   | cons r rs=>cases (show _=Value.bool b from r);rw [ih rs];rfl
theorem tO (hc:X.calm=true):fO X (.builtin "all") (fun xs H Q=>∃(p:Addr) (bs:List Bool),xs=[.ref p]/\aV X.K H p (bs.map V.bl)/\Q (.bl (bs.all id)) H):=by
 intro pins s σ H xs us Q I r h;obtain ⟨p,bs,rfl,hq,q⟩:=h;obtain ⟨u,rfl,rx⟩:=vals1 r;cases rx;obtain ⟨its,rv,pl,hz⟩:=I.list hq;have e:=qU rv;have hlen:its.length=bs.length:=by rw [e,List.length_map]
 refine call_all_walk (wpAny_pyIter_list pl.isList ⟨s.heap.objs.size,[s.heap.objs.size,p],[s.heap.objs.size],its.length,_,_,fun i=>(bs[i]?).getD false,rfl,
  mO (show X.A.in1.handled=none from I.ok.hd hc) s.heap.objs.size p ?_ its,⟨⟨_,Heap.get?_push_size _ rfl,rfl,rfl⟩, ?_⟩, ?_, ?_⟩)
 ·intro z
  obtain ⟨o,ho,_⟩:=pl.isList;have:=Heap.lt_size ho;rw [←z] at this;exact Nat.lt_irrefl _ this
 ·obtain ⟨o,ho,hcl⟩:=pl.isList
  exact ⟨o,Heap.get?_push_of_some _ ho,hcl⟩
 ·intro i v s1 Q1 E1 hP hQ
  rw [e,List.getElem?_map] at hP;cases r:bs[i]? with
  | none=>rw [r] at hP;cases hP
  | some b=>
    rw [r] at hP;cases hP;simp only [r,Option.getD_some] at hQ;exact wpAny_truthy_bool hQ
 ·intro h' tk k
  rw [hlen,uw];have f:=I.pC (H':=H) (b:=s.heap.objs.size) (Nat.le_refl _) (I.hok.fresh (Nat.le_refl _));have I2:Inv X pins σ H {s with heap:=h',toks:=tk}:=I.turned (h':=h') (t':=tk) (it:=s.heap.objs.size) (fun b o hb e=>k b o (by simpa using hb) (Heap.get?_push_of_some _ e)) f.1 f.2.1 f.2.2.2.1 f.2.2.2.2.1 f.2.2.2.2.2;exact ⟨.bl _,H,I2,rfl,q⟩
theorem tM (hc:X.calm=true):fO X (.builtin "any") (fun xs H Q=>∃(p:Addr) (bs:List Bool),xs=[.ref p]/\aV X.K H p (bs.map V.bl)/\Q (.bl (bs.any id)) H):=by
 intro pins s σ H xs us Q I r h;obtain ⟨p,bs,rfl,hq,q⟩:=h;obtain ⟨u,rfl,rx⟩:=vals1 r;cases rx;obtain ⟨its,rv,pl,hz⟩:=I.list hq;have e:=qU rv;have hlen:its.length=bs.length:=by rw [e,List.length_map]
 refine call_any_walk (wpAny_pyIter_list pl.isList ⟨s.heap.objs.size,[s.heap.objs.size,p],[s.heap.objs.size],its.length,_,_,fun i=>(bs[i]?).getD false,rfl,
  mO (show X.A.in1.handled=none from I.ok.hd hc) s.heap.objs.size p ?_ its,⟨⟨_,Heap.get?_push_size _ rfl,rfl,rfl⟩, ?_⟩, ?_, ?_⟩)
 ·intro z
  obtain ⟨o,ho,_⟩:=pl.isList;have:=Heap.lt_size ho;rw [←z] at this;exact Nat.lt_irrefl _ this
 ·obtain ⟨o,ho,hcl⟩:=pl.isList
  exact ⟨o,Heap.get?_push_of_some _ ho,hcl⟩
 ·intro i v s1 Q1 E1 hP hQ
  rw [e,List.getElem?_map] at hP;cases r:bs[i]? with
  | none=>rw [r] at hP;cases hP
  | some b=>
    rw [r] at hP;cases hP;simp only [r,Option.getD_some] at hQ;exact wpAny_truthy_bool hQ
 ·intro h' tk k
  rw [hlen,ur];have f:=I.pC (H':=H) (b:=s.heap.objs.size) (Nat.le_refl _) (I.hok.fresh (Nat.le_refl _));have I2:Inv X pins σ H {s with heap:=h',toks:=tk}:=I.turned (h':=h') (t':=tk) (it:=s.heap.objs.size) (fun b o hb e=>k b o (by simpa using hb) (Heap.get?_push_of_some _ e)) f.1 f.2.1 f.2.2.2.1 f.2.2.2.2.1 f.2.2.2.2.2;exact ⟨.bl _,H,I2,rfl,q⟩
end
end L2
set_option Elab.async false
set_option linter.all false
set_option maxRecDepth 100000
set_option maxHeartbeats 4000000
namespace L2
open PySem PySem.Spec PyProof.Rows
def FnAt (P:Program) (w:World) (K:PySem.W.Frag) (mg:Str->Option Value) (base:Heap) (k:Nat) (x:Str) (ps:List Str) (sp:Sp):Prop:=
 ∃f fd,cT P w K mg base jJ k f fd ps sp/\mg x=some (.ref f)/\PySem.W.keepIn K (.ref f)=true/\Binds K fd ps []
section
variable {X:Cx} {k j:Nat} {x:Str} {ps:List Str} {sp:Sp} {e:Expr} {es:List Expr} {t:TA} {p pos:Pos}
theorem bw (F:FnAt X.prog X.w X.K X.mg X.base k x ps sp) (hr:cU k X.A) (hg:Gl X x) (ha:PA X (e::es) t) (hd:(x==("__debug__" :Str))=false:=by decide)
 (he:starEach (e::es) X.env=(false,eval e X.env)::starEach es X.env:=by rfl) (hpl:(backTo pos (starEach es X.env)).any (·.1)=false:=by rfl):
 PE X (.Call (.Name x p) (e::es) [] pos) (yg sp [] E0 t):=by
 obtain ⟨f,fd,G,hm,hk,hb⟩:=F;exact LK G hr hg hm hk hb .nil Uz ha (hdb:=hd) (he:=he) (hpl:=hpl)
end
theorem Kf:bootBuiltins "abs" = some (.builtin "abs"):=by kernel_rfl
theorem tQ:bootBuiltins "all" = some (.builtin "all"):=by kernel_rfl
theorem R8:bootBuiltins "any" = some (.builtin "any"):=by kernel_rfl
theorem eY:bootBuiltins "len" = some (.builtin "len"):=by kernel_rfl
theorem Bs:bootBuiltins "min" = some (.builtin "min"):=by kernel_rfl
theorem pH:bootBuiltins "sorted" = some (.builtin "sorted"):=by kernel_rfl
theorem eZ:bootBuiltins "isinstance" = some (.builtin "isinstance"):=by kernel_rfl
theorem Ke:bootBuiltins "int" = some (.type "int"):=by kernel_rfl
theorem Nq:bootBuiltins "bool" = some (.type "bool"):=by kernel_rfl
theorem qQ:bootBuiltins "list" = some (.type "list"):=by kernel_rfl
theorem Kd:bootBuiltins "tuple" = some (.type "tuple"):=by kernel_rfl
section
variable {X:Cx}
theorem L_:ni X (binaryOp .Mult) (rI IntMulOk fun i j=> .int (i*j)):=UW fun _ _ _ _ _ _ _ hc q=>mul_int q hc
end
def Kp (r:Addr) (H H':Hp):Prop:=∀b o,H b=some o->b≠r->H' b=some o
theorem Kp.of_same {r:Addr} {H H':Hp} (h:Same H H'):Kp r H H':=fun b o e _=>h b o e
theorem Kp.trans {r:Addr} {H H1 H2:Hp} (a:Kp r H H1) (b:Kp r H1 H2):Kp r H H2:=fun c o h n=>b c o (a c o h n) n
theorem Kp.refl (r:Addr) (H:Hp):Kp r H H:=fun _ _ h _=>h
theorem Kp.set {r:Addr} {H:Hp} {o:HO}:Kp r H (upd H r o):=fun b u e n=>by rw [aN n];exact e
theorem aB {H:Hp} {p:Addr} {o:HO} (h:H p=none):Same H (upd H p o):=fun b u e=>by rw [aN (aD e h)];exact e
theorem Same.tups {H H':Hp} (e:Same H H'):∀a xs,H a=some (HO.tup xs)->H' a=some (HO.tup xs):=fun a xs h=>e _ _ h
theorem Same.sqL {K:PySem.W.Frag} {H H':Hp} (e:Same H H'):∀a xs,aV K H a xs->aV K H' a xs:=fun a xs h=>e.seq h
theorem Kp.tups {H H':Hp} {r:Addr} {ys:List V} (e:Kp r H H') (hr:H r=some (.lst ys)):∀a xs,H a=some (HO.tup xs)->H' a=some (HO.tup xs):=fun a xs h=>e _ _ h (fM h hr (by intro z;cases z))
theorem Kp.tups' {H H':Hp} {r:Addr} {kvs:List (Key×V)} (e:Kp r H H') (hr:H r=some (.dK kvs)):∀a xs,H a=some (HO.tup xs)->H' a=some (HO.tup xs):=fun a xs h=>e _ _ h (fM h hr (by intro z;cases z))
end L2
namespace L2
open PySem PySem.Spec PyProof.Rows
section
variable {X:Cx} {K:PySem.W.Frag}
theorem aO (h:X.K=K):Xg X (Qt K):=by subst h;exact Mz
theorem aJ (h:X.K=K):Xg X (yw K):=by subst h;exact Rr
theorem jB (h:X.K=K):W_ X (Um K):=by subst h;exact Lh
theorem g_ (h:X.K=K):W_ X (Ul K):=by subst h;exact Ql
def Ut (K:PySem.W.Frag):List V->Hp->VK->Prop:=fun xs H Q=>∃(p:Addr) (ys:List V),xs=[.ref p]/\(aV K H p ys\/bZ K H p ys)/\Q (.int ys.length) H
theorem bf (h:X.K=K):fO X (.builtin "len") (Ut K):=by subst h;exact wW
def Lp (K:PySem.W.Frag):List V->Hp->VK->Prop:=fun xs H Q=>∃(p:Addr) (ys:List V),xs=[.ref p]/\(aV K H p ys\/bZ K H p ys) /\ ∀l,H l=none->Q (.ref l) (upd H l (.lst ys))
theorem mK (h:X.K=K):fO X (.type "list") (Lp K):=by subst h;exact wV
def Uv (K:PySem.W.Frag):List V->Hp->VK->Prop:=fun xs H Q=>∃(p:Addr) (bs:List Bool),xs=[.ref p]/\aV K H p (bs.map V.bl)/\Q (.bl (bs.all id)) H
def Uu (K:PySem.W.Frag):List V->Hp->VK->Prop:=fun xs H Q=>∃(p:Addr) (bs:List Bool),xs=[.ref p]/\aV K H p (bs.map V.bl)/\Q (.bl (bs.any id)) H
theorem dz (h:X.K=K) (hc:X.calm=true):fO X (.builtin "all") (Uv K):=by subst h;exact tO hc
theorem qu (h:X.K=K) (hc:X.calm=true):fO X (.builtin "any") (Uu K):=by subst h;exact tM hc
theorem qL (h:X.K=K) (hu:X.A.units+64<cLine):ni X (compareOp .Eq) (Lr false):=by subst h;exact QH hu
theorem LR (h:X.K=K) (hu:X.A.units+64<cLine):ni X (compareOp .NotEq) (Lr true):=by subst h;exact QG hu
theorem bQ {tg l:Expr} {tl:TE} (h:X.K=K) (hl:PE X l tl):PI X tg l (Ow K tl):=by subst h;exact Lz hl
theorem Ly {tg l:Expr} {tl:TE} (h:X.K=K) (hl:PE X l tl):PI X tg l (Vo K tl):=by subst h;exact Qw hl
def ZP (K:PySem.W.Frag) (c:Value) (cv:V):List V->Hp->VK->Prop:=fun xs H Q=>∃x t b,xs=[x,cv]/\oF K H x t/\PySem.W.kitOne K t c=some b/\Q (.bl b) H
theorem jH {c:Value} {cv:V} (h:X.K=K) (rc:RelV cv c):fO X (.builtin "isinstance") (ZP K c cv):=by subst h;exact Ka rc
theorem gQ {o e:Expr} {to:TE} {t:TA} {apos cpos:Pos} (h:X.K=K) (ho:PE X o to) (ha:PA X [e] t)
 (hbase:attributeBase o "append" X.env (eval o X.env)=eval o X.env:=by rfl)
 (hfew:((backTo cpos (starEach [e] X.env)).all (fun x=> !x.1)&&(backToKw cpos (keywordEach [] X.env)).all (fun x=>x.1.isSome)
   && decide (([e]:List Expr).length+([]:List Keyword).length+(if ([]:List Keyword).isEmpty then 0 else 1)<30))=true:=by rfl)
 (hline:(apos.endLine==cpos.line)=true:=by rfl) (hs:starEach [e] X.env=(false,eval e X.env)::starEach [] X.env:=by rfl) (hplain:(backTo cpos (starEach [] X.env)).any (·.1)=false:=by rfl):
 PE X (.Call (.Attribute o "append" apos) [e] [] cpos) (Ub K "list" vW to t):=by
 subst h;exact Ol PySem.F.plainAttrs_list PySem.F.slot_list_append PySem.F.type_list_append uQ ho ha hbase hfew hline hs hplain
end
end L2
namespace L2
open PySem
section
variable {K:PySem.W.Frag} {a D:Addr} {xs:List V} {g:TG} {tc:TT} {te:TE} {Q:VK} {σ0:St} {H1:Hp}
theorem vg (Pv:Nat->St->Hp->Prop) (h0:Pv 0 σ0 (upd H1 D (.lst []))) (hl:∀i σ H,i<=xs.length->Pv i σ H->aV K H a xs)
 (hs:∀i x σ H,xs[i]? = some x->Pv i σ H->g x σ H fun σ2 H2=>tc σ2 H2 fun b H3=>
   if b=true then te σ2 H3 fun y H4=>∃acc,H4 D=some (.lst acc)/\acc.length<sizeLine/\Pv (i+1) σ2 (upd H4 D (.lst (acc++[y]))) else Pv (i+1) σ2 H3)
 (hd:∀σ H,Pv xs.length σ H->Q (.ref D) H):p8 (Pn K a) g tc te Q D σ0 H1:=by
 refine ⟨fun i m σ H=>m=xs.length - i/\i<=xs.length/\Pv i σ H,⟨xs.length,by simp,Nat.zero_le _,h0⟩, ?_⟩;rintro i m σ H ⟨rfl,hi,p⟩;have q:=hl i σ H hi p
 by_cases hlt:i<xs.length
 ·refine .inr ⟨⟨xs,xs[i],q,by simp [hlt]⟩,Pv (i+1),fun σ' H' p'=>⟨xs.length - (i+1),by omega,rfl,hlt,p'⟩,fun x H' y=> ?_⟩
  obtain ⟨e,y⟩:=y;subst e;exact hs i x σ _ (y xs q) p
 ·have e:i=xs.length:=by omega
  subst e;exact .inl ⟨⟨xs,q,Nat.le_refl _⟩,hd σ H p⟩
theorem J9 (Pv:Nat->St->Hp->Prop) (h0:Pv 0 σ0 (upd H1 D (.lst []))) (hl:∀i σ H,i<=xs.length->Pv i σ H->bZ K H a xs)
 (hs:∀i x σ H,xs[i]? = some x->Pv i σ H->g x σ H fun σ2 H2=>tc σ2 H2 fun b H3=>
   if b=true then te σ2 H3 fun y H4=>∃acc,H4 D=some (.lst acc)/\acc.length<sizeLine/\Pv (i+1) σ2 (upd H4 D (.lst (acc++[y]))) else Pv (i+1) σ2 H3)
 (hd:∀σ H,Pv xs.length σ H->Q (.ref D) H):p8 (YD K a) g tc te Q D σ0 H1:=by
 refine ⟨fun i m σ H=>m=xs.length - i/\i<=xs.length/\Pv i σ H,⟨xs.length,by simp,Nat.zero_le _,h0⟩, ?_⟩;rintro i m σ H ⟨rfl,hi,p⟩;have q:=hl i σ H hi p
 by_cases hlt:i<xs.length
 ·refine .inr ⟨⟨xs,xs[i],q,by simp [hlt]⟩,Pv (i+1),fun σ' H' p'=>⟨xs.length - (i+1),by omega,rfl,hlt,p'⟩,fun x H' y=> ?_⟩
  obtain ⟨e,y⟩:=y;subst e;exact hs i x σ _ (y xs q) p
 ·have e:i=xs.length:=by omega
  subst e;exact .inl ⟨⟨xs,q,Nat.le_refl _⟩,hd σ H p⟩
theorem Bl {lo:Int} {n:Nat} (Pv:Nat->St->Hp->Prop) (h0:Pv 0 σ0 (upd H1 D (.lst [])))
 (hs:∀i σ H,i<n->Pv i σ H->g (.int (lo+i)) σ H fun σ2 H2=>tc σ2 H2 fun b H3=>
   if b=true then te σ2 H3 fun y H4=>∃acc,H4 D=some (.lst acc)/\acc.length<sizeLine/\Pv (i+1) σ2 (upd H4 D (.lst (acc++[y]))) else Pv (i+1) σ2 H3)
 (hd:∀σ H,Pv n σ H->Q (.ref D) H):p8 (Pk lo n) g tc te Q D σ0 H1:=by
 refine ⟨fun i m σ H=>m=n - i/\i<=n/\Pv i σ H,⟨n,by simp,Nat.zero_le _,h0⟩, ?_⟩;rintro i m σ H ⟨rfl,hi,p⟩
 by_cases hlt:i<n
 ·refine .inr ⟨hlt,Pv (i+1),fun σ' H' p'=>⟨n - (i+1),by omega,rfl,hlt,p'⟩,fun x H' y=> ?_⟩
  obtain ⟨e,y⟩:=y;subst e y;exact hs i σ _ hlt p
 ·have e:i=n:=by omega
  subst e;exact .inl ⟨Nat.le_refl _,hd σ H p⟩
end
end L2
set_option Elab.async false
set_option linter.all false
set_option maxRecDepth 100000
set_option maxHeartbeats 4000000
namespace L2
open PySem PySem.Spec PyProof.Rows
section
variable {α:Type} (f:α->PyData)
theorem tK:∀(l:List α),(∀x∈l,(f x).canLay0=true)->PyData.canLayAll0 (l.map f)=true
 | [],_=>rfl
 | a::l,h=>by
   show (PyData.canLay0 (f a)&&PyData.canLayAll0 (l.map f))=true;rw [h a List.mem_cons_self,tK l fun x hx=>h x (List.mem_cons_of_mem _ hx)];rfl
theorem ou (k:Nat):∀(l:List α),(∀x∈l,(f x).depth<=k)->PyData.depthAll (l.map f)<=k
 | [],_=>Nat.zero_le _
 | a::l,h=>by
   show max (PyData.depth (f a)) (PyData.depthAll (l.map f))<=k;exact Nat.max_le.mpr ⟨h a List.mem_cons_self,ou k l fun x hx=>h x (List.mem_cons_of_mem _ hx)⟩
theorem pR {l:List α} (k:Nat) (hk:k<64) (h1:∀x∈l,(f x).canLay0=true) (h2:∀x∈l,(f x).depth<=k):SeqAt.shaped (.list (l.map f))=true:=by
 unfold SeqAt.shaped;have e1:PyData.canLay0 (.list (l.map f))=true:=tK f l h1
 have e2:PyData.depth (.list (l.map f))<=64:=by
  show PyData.depthAll (l.map f)+1<=64;have:=ou f k l h2;omega
 rw [e1,decide_eq_true e2];rfl
theorem sV [DecidableEq α] (h:∀x y,PyData.eqv (f x) (f y)=decide (x=y)):∀(l m:List α),PyData.eqvAll (l.map f) (m.map f)=decide (l=m)
 | [],[]=>rfl
 | [],_::_=>by simp only [List.map_nil,List.map_cons,PyData.eqvAll];exact (decide_eq_false (by intro z;cases z)).symm
 | _::_,[]=>by simp only [List.map_nil,List.map_cons,PyData.eqvAll];exact (decide_eq_false (by intro z;cases z)).symm
 | a::l,b::m=>by
   simp only [List.map_cons,PyData.eqvAll];rw [h a b,sV h l m]
   by_cases e1:a=b
   ·subst e1
    by_cases e2:l=m
    ·subst e2;simp
    ·simp [e2]
   ·simp [e1]
theorem sU [DecidableEq α] (h:∀x y,PyData.eqv (f x) (f y)=decide (x=y)) (l m:List α):PyData.eqv (.list (l.map f)) (.list (m.map f))=decide (l=m):=by
 simp only [PyData.eqv];exact sV f h l m
end
theorem jD {H:Hp} {a:Addr} {vs:List V} {ds:List PyData} (h:H a=some (.lst vs)) (d:aC H vs ds):Dat H (.ref a) (.list ds):=by
 simp only [Dat];exact ⟨a,vs,rfl,h,d⟩
theorem zf (K:PySem.W.Frag):PySem.W.kitOne K (.type "int") (.type "int")=some true:=rfl
theorem wF (K:PySem.W.Frag):PySem.W.kitOne K (.type "int") (.type "bool")=some false:=by kernel_rfl
theorem mG (K:PySem.W.Frag):PySem.W.kitOne K (.type "list") (.type "list")=some true:=rfl
theorem ql (K:PySem.W.Frag):PySem.W.kitOne K (.type "tuple") (.type "tuple")=some true:=rfl
end L2
namespace L2
open PySem
theorem oA (xs:List V) (k:Nat):gq xs none (some (k:Int))=xs.take k:=by
 unfold gq;rw [HT.rF,HT.vR,List.drop_zero,Nat.sub_zero]
 by_cases h:k<=xs.length
 ·rw [Nat.min_eq_left h]
 ·rw [Nat.min_eq_right (by omega),List.take_of_length_le (Nat.le_refl _),List.take_of_length_le (by omega)]
theorem tE (xs:List V) (k:Nat):gq xs (some (k:Int)) none=xs.drop k:=by
 unfold gq;rw [HT.rF,HT.vR]
 by_cases h:k<=xs.length
 ·rw [Nat.min_eq_left h,List.take_of_length_le (by rw [List.length_drop];exact Nat.le_refl _)]
 ·rw [Nat.min_eq_right (by omega),Nat.sub_self,List.take_zero,List.drop_of_length_le (by omega)]
end L2
set_option Elab.async false
set_option linter.all false
set_option maxRecDepth 100000
set_option maxHeartbeats 4000000
namespace PySem.W
open PySem PySem.Spec PySem.Calls PyProof.Rows
section
variable {prog:Program} {w:World} {A:Around} {E:Value->Shared->Prop} {s:Shared} {K:Frag} {x D:Addr} {ox:Obj} {odo:Option Obj} {name:Str}
end
end PySem.W
set_option Elab.async false
set_option linter.all false
set_option maxRecDepth 100000
set_option maxHeartbeats 4000000
namespace L2
open PySem PySem.Spec PyProof.Rows
section
variable {M:Model} {A:Around} {E:Value->Shared->Prop} {s:Shared} {base:Heap} {env:Env} {outer:List Env} {L e:Addr}
end
section
variable {X:Cx} {pins:List (Addr×Obj)} {σ:St} {H:Hp} {s:Shared} {e:Addr}
end
end L2
set_option Elab.async false
set_option linter.all false
set_option maxRecDepth 100000
set_option maxHeartbeats 4000000
namespace L2
open PySem PySem.Spec PyProof.Rows
section
variable {X:Cx} {k:Nat} {x:Str} {ps:List Str} {sp:Sp} {e:Expr} {es:List Expr} {t:TA} {p pos:Pos} {E:St->XK}
end
section
variable {P:Program} {w:World} {K:PySem.W.Frag} {mg:Str->Option Value} {base:Heap}
end
section
variable {X:Cx} {E:St->XK} {x:Str} {C:Addr} {B newId initId:String} {bmB:List Value} {e0:Expr} {rest:List Expr} {ta:TA} {np cpos pos:Pos}
end
section
variable {X:Cx} {pins:List (Addr×Obj)} {σ:St} {H:Hp} {s:Shared}
end
section
variable {M:Model} {A:Around} {Er:Value->Shared->Prop} {s:Shared} {K:PySem.W.Frag} {e C D:Addr}
end
end L2
set_option Elab.async false
set_option linter.all false
set_option maxRecDepth 100000
set_option maxHeartbeats 4000000
namespace L2
open PySem PySem.Spec PyProof.Rows
section
variable {X:Cx} {pins:List (Addr×Obj)} {σ:St} {H:Hp} {s:Shared}
end
section
variable {X:Cx} {body suite:List Stmt} {b0:Stmt} {n cn:Str} {i:Nat} {Dc:Addr} {tb:(St->XK)->TS} {th:TS} {cp hpos pos:Pos}
end
section
variable {X:Cx} {K:PySem.W.Frag}
theorem Ea {cs:List Addr}:∀{us:List Value},Vals (cs.map V.ref) us->us=cs.map Value.ref:=by
 induction cs with
 | nil=>intro us r;cases r;rfl
 | cons c cs ih=>
   intro us r;cases r with
   | cons r rs=>cases (show _=Value.ref c from r);rw [ih rs];rfl
end
end L2
set_option Elab.async false
set_option linter.all false
set_option maxRecDepth 100000
set_option maxHeartbeats 4000000
namespace L2
open PySem PySem.Spec PyProof.Rows
section
variable {X:Cx} {K:PySem.W.Frag}
end
end L2
namespace L2
open PySem
end L2
set_option Elab.async false
set_option linter.all false
set_option maxRecDepth 100000
set_option maxHeartbeats 4000000
namespace L2
open PySem PySem.Spec PyProof.Rows
section
variable {X:Cx} {pins:List (Addr×Obj)} {σ:St} {H:Hp} {s:Shared} {h':Heap}
theorem Inv.qG {t':Nat} {fp:List Addr} (I:Inv X pins σ H s) (hf:∀b∈fp,dO X pins H b) (k:∀b o,b∉fp->s.heap.get? b=some o->h'.get? b=some o):Inv X pins σ H {s with heap:=h',toks:=t'}:=by
 have Q9:∀b u,H b=some u->b∉fp:=fun b u e z=>by rw [(hf b z).1] at e;cases e
 refine I.step (g':=s.gens) (d':=s.drawn) (ch:=fp) (fun b hb=> ?_) (fun b o _ _ hc e _=>k b o hc e) (fun b o _ _ hc e _=>⟨o.slots,k b o hc e⟩) (fun _ _ _ _ n=>n)
  (fun b o hc e=>⟨o,k b o hc e⟩) (fun _ _ e=>e) (fun _ _ _ e=>e) (fun b ps e=>⟨#[],by rw [e];simp⟩) (fun m hm=> ?_) (fun b u e=> ?_) I.bare
 ·obtain ⟨f0,f1,f2,f3,f4,f5⟩:=hf b hb
  exact ⟨f3,f1,f4,f5⟩
 ·obtain ⟨o,es,ep,ho,r⟩:=hm
  exact ⟨o,es,ep,k _ o (fun z=>(hf _ z).2.1 rfl) ho,r⟩
 ·refine (I.hok b u e).stay (fun c v hc q=>k c v ?_ q) (fun _ q=>q) fun _ _ q=>q
  rcases hc with z|z
  ·rw [z];exact Q9 b u e
  ·exact Q9 c _ z
theorem dO.upd {b p:Addr} {o:HO} (h:dO X pins H b) (n:b≠p):dO X pins (upd H p o) b:=by
 obtain ⟨f0,r⟩:=h;exact ⟨by rw [aN n];exact f0,r⟩
theorem zy {h:Heap} {o u:Obj} {b:Addr} (ho:o.isFreed=false) (e:(h.push o).get? b=some u):(b=h.objs.size/\u=o)\/h.get? b=some u:=by
 by_cases hb:b=h.objs.size
 ·subst hb
  rw [Heap.get?_push_size _ ho] at e;exact .inl ⟨rfl,(Option.some.inj e).symm⟩
 ·refine .inr ?_
  have lt:=Heap.lt_size e
  have Gq:b<h.objs.size:=by
   have:(h.push o).objs.size=h.objs.size+1:=by simp [Heap.push]
   rw [this] at lt;exact Nat.lt_of_le_of_ne (Nat.le_of_lt_succ lt) hb
  have:(h.push o).get? b=h.get? b:=by
   simp only [Heap.get?,Heap.push];rw [Array.getElem?_push_lt Gq,Array.getElem?_eq_getElem Gq]
  rw [←this];exact e
end
def Ite (K:PySem.W.Frag) (l:Addr):It:=
 ⟨fun i H=>∃xs x,aV K H l xs/\xs[i]? = some x,fun i H x H'=>∃(p:Addr) (y:V),x = .ref p/\H p=none/\(∀xs,aV K H l xs->xs[i]? = some y)/\H'=upd H p (.tup [.int i,y]),fun i H=>∃xs,aV K H l xs/\xs.length<=i⟩
theorem Ed {P:Program} {w:World} {K:PySem.W.Frag} {elts:List Expr} {x1:Nat} {pos:Pos} (l e it:Addr) (hne:e≠it):Turn P w K (.Tuple elts x1 pos) (Ite K l) [e,it] e (fun i h=>(∃old,IsEnum h e it i old)/\h.IsListIter it l i) where
 mem:=by simp
 obj:=fun i h st b hb=>by
  obtain ⟨⟨old,he⟩,o,ho,c,d⟩:=st;have hb':b=e\/b=it:=by simpa using hb
  rcases hb' with rfl|rfl
  ·exact ⟨_,he,fun v z=>by cases z⟩
  ·exact ⟨o,ho,fun v z=>by rw [d] at z;cases z⟩
 keep:=fun i h h' st k=>by
  obtain ⟨⟨old,he⟩,o,ho,c,d⟩:=st;exact ⟨⟨old,k e (by simp) _ he⟩,o,k it (by simp) _ ho,c,d⟩
 item:=by
  intro X hP hw hK hc i pins s σ H E I hf st hg;subst hP hw hK;obtain ⟨xs,x,hq,hx⟩:=hg;obtain ⟨its,rv,p,hz⟩:=I.list hq;obtain ⟨u,hu,ru⟩:=rv.get hx;obtain ⟨⟨old,he⟩,hi⟩:=st;have elt:=Heap.lt_size he;have ilt:it<s.heap.objs.size:=by obtain ⟨o,ho,_⟩:=id hi;exact Heap.lt_size ho
  refine wpAny_pyNext_enum_item he hi p.isList (x:=u) (by simpa using hu) hne fun h' hout hit htup hsz hk=> ?_;refine ⟨_,rfl, ?_⟩;refine wpAny_letOwnedTupleGo_enum hout fun h2 he2 sb=> ?_;have hfr:H s.heap.objs.size=none:=I.hok.fresh (Nat.le_refl _)
  have I0:Inv X pins σ (upd H s.heap.objs.size (.tup [.int i,x])) {s with heap:=s.heap.push {cls:= .type "tuple",data:= .seq #[.int i s.toks,u]}}:=
   I.laid (t':=s.toks) (fun b u e=>Heap.get?_push_of_some _ e) (Nat.le_refl _) ⟨by show 2<=sizeLine;decide,[.int i s.toks,u],.cons ⟨_,rfl⟩ (.cons ru .nil),⟨_,Heap.get?_push_size _ rfl,rfl,_,rfl⟩⟩
  have ne1:e≠s.heap.objs.size:=Nat.ne_of_lt elt;have ne2:it≠s.heap.objs.size:=Nat.ne_of_lt ilt
  have OJ:∀b∈[e,it],dO X pins (upd H s.heap.objs.size (.tup [.int i,x])) b:=fun b hb=>by
   have hb':b=e\/b=it:=by simpa using hb
   rcases hb' with rfl|rfl
   ·exact (hf _ (by simp)).upd ne1
   ·exact (hf _ (by simp)).upd ne2
  have I1:=I0.qG (h':=h2) (t':=s.toks+1) OJ (fun b o hb eb=>by
   have b1:b≠e:=fun z=>hb (by simp [z]);have b2:b≠it:=fun z=>hb (by simp [z]);rw [sb.2 b b1];rcases zy rfl eb with ⟨rfl,rfl⟩|eb
   ·exact htup
   ·exact hk b o b1 b2 eb)
  refine ⟨.ref s.heap.objs.size,_,I1,rfl,⟨s.heap.objs.size,x,rfl,hfr,fun ys hy=>by rw [I.nT hy hq];exact hx,rfl⟩,⟨⟨u,he2⟩, ?_⟩,fun b hb=>(OJ b hb).1⟩;obtain ⟨o,ho,c,d⟩:=hit;exact ⟨o,(sb.2 it (Ne.symm hne)).trans ho,c,d⟩
 done:=by
  intro X hP hw hK hc i pins s σ H E I hf st hg;subst hP hw hK;obtain ⟨xs,hq,hx⟩:=hg;obtain ⟨its,rv,p,hz⟩:=I.list hq;obtain ⟨⟨old,he⟩,hi⟩:=st;have hl:=rv.length;exact wpAny_pyNext_enum_end (I.ok.hd hc) he hi p.isList (by simp;omega) fun h' eb=>⟨rfl,I.qG (t':=s.toks) hf (fun b o hb e=>eb b o (fun z=>hb (by simp [z])) e)⟩
 self:=fun _ _ _ _ _ st h=>by
  obtain ⟨⟨old,he⟩,_⟩:=st;exact wpAny_pyIter_enum he h
section
variable {X:Cx}
def Vp (K:PySem.W.Frag) (ta:TA):TI:=fun σ H R=>ta σ H fun vs H1=>∃l xs,vs=[.ref l]/\aV K H1 l xs/\R (Ite K l) H1
theorem wX:bootBuiltins "enumerate" = some (.type "enumerate"):=by kernel_rfl
theorem Ia {K:PySem.W.Frag} {a:Expr} {ta:TA} {p pos:Pos} {elts:List Expr} {x1:Nat} {tpos:Pos} (hK:X.K=K) (hg:Gl X "enumerate") (hm:X.mg "enumerate" = none) (ha:PA X [a] ta) (hs:starEach [a] X.env=[(false,eval a X.env)]:=by rfl):PI X (.Tuple elts x1 tpos) (.Call (.Name "enumerate" p) [a] [] pos) (Vp K ta):=by
 subst hK;intro pins s σ H R I h;refine Call_ (lu I hg hm wX (PyProof.Rows.callWith_type1 (cR (ha pos pins s σ H _ I h) fun us s1 ⟨vs,H1,I1,r1,q1⟩=> ?_) hs rfl));obtain ⟨l,xs,e,hq,q⟩:=q1;subst e;cases r1 with
 | cons r rr=>
   cases rr;cases r;obtain ⟨its,rv,pl,hz⟩:=I1.list hq;refine call_enumerate_list pl.isList fun h' hE hI hsz hk=> ?_;refine wpAny_pyIter_enum hE ?_;have I2:Inv X pins σ H1 {s1 with heap:=h'}:=I1.kept (t':=s1.toks) hk;refine ⟨s1.heap.objs.size+1,[s1.heap.objs.size+1,s1.heap.objs.size],_,_,H1,rfl,I2,Ed l _ _ (by simp),⟨⟨_,hE⟩,hI⟩,fun b hb=> ?_,q⟩;have hb':b=s1.heap.objs.size+1\/b=s1.heap.objs.size:=by simpa using hb
   rcases hb' with rfl|rfl
   ·exact I1.pC (Nat.le_succ _) (I1.hok.fresh (Nat.le_succ _))
   ·exact I1.pC (Nat.le_refl _) (I1.hok.fresh (Nat.le_refl _))
end
def Xh (K:PySem.W.Frag) (l1 l2:Addr):It:=
 ⟨fun i H=>∃xs ys x y,aV K H l1 xs/\aV K H l2 ys/\xs[i]? = some x/\ys[i]? = some y,
  fun i H x H'=>∃(p:Addr) (y z:V),x = .ref p/\H p=none/\(∀xs,aV K H l1 xs->xs[i]? = some y)/\(∀ys,aV K H l2 ys->ys[i]? = some z)/\H'=upd H p (.tup [y,z]),
  fun i H=>∃xs ys,aV K H l1 xs/\aV K H l2 ys/\(xs.length<=i\/ys.length<=i)⟩
theorem GR {P:Program} {w:World} {K:PySem.W.Frag} {elts:List Expr} {x1:Nat} {pos:Pos} (z TI TO i1 i2 l1 l2:Addr) (ap:ZipApart z TI TO i1 i2 l1 l2):Turn P w K (.Tuple elts x1 pos) (Xh K l1 l2) [z,TI,TO,i1,i2] z
 (fun i h=>IsZip h z TI TO .none/\IsPair h TI (.ref i1) (.ref i2)/\(∃a b,IsPair h TO a b)/\h.IsListIter i1 l1 i/\h.IsListIter i2 l2 i) where
 mem:=by simp
 obj:=fun i h st b hb=>by
  obtain ⟨hz,hTI,⟨a,c,hTO⟩,⟨o1,h1,c1,d1⟩,⟨o2,h2,c2,d2⟩⟩:=st;have hb':b=z\/b=TI\/b=TO\/b=i1\/b=i2:=by simpa using hb
  rcases hb' with rfl|rfl|rfl|rfl|rfl
  ·exact ⟨_,hz,fun v z=>by cases z⟩
  ·exact ⟨_,hTI,fun v z=>by cases z⟩
  ·exact ⟨_,hTO,fun v z=>by cases z⟩
  ·exact ⟨_,h1,fun v z=>by rw [d1] at z;cases z⟩
  ·exact ⟨_,h2,fun v z=>by rw [d2] at z;cases z⟩
 keep:=fun i h h' st k=>by
  obtain ⟨hz,hTI,⟨a,c,hTO⟩,⟨o1,h1,c1,d1⟩,⟨o2,h2,c2,d2⟩⟩:=st;exact ⟨k z (by simp) _ hz,k TI (by simp) _ hTI,⟨a,c,k TO (by simp) _ hTO⟩,⟨o1,k i1 (by simp) _ h1,c1,d1⟩,⟨o2,k i2 (by simp) _ h2,c2,d2⟩⟩
 item:=by
  intro X hP hw hK hc i pins s σ H E I hf st hg;subst hP hw hK;obtain ⟨xs,ys,x,y,hq1,hq2,hx,hy⟩:=hg;obtain ⟨Vl,Xw,p1,hz1⟩:=I.list hq1;obtain ⟨its2,Xv,p2,hz2⟩:=I.list hq2;obtain ⟨u1,hu1,ru1⟩:=Xw.get hx;obtain ⟨u2,hu2,ru2⟩:=Xv.get hy;obtain ⟨hz,hTI,⟨a,c,hTO⟩,hi1,hi2⟩:=st;have zlt:=Heap.lt_size hz;have adY:=Heap.lt_size hTI;have adX:=Heap.lt_size hTO;have abW:i1<s.heap.objs.size:=by obtain ⟨o,ho,_⟩:=id hi1;exact Heap.lt_size ho
  have abV:i2<s.heap.objs.size:=by obtain ⟨o,ho,_⟩:=id hi2;exact Heap.lt_size ho
  refine wpAny_pyNext_zip_item ap hz hTI hTO hi1 hi2 p1.isList p2.isList (x:=u1) (y:=u2) (by simpa using hu1) (by simpa using hu2) fun h' hz' acj ace hi2' hnew hsz hk=> ?_;refine ⟨_,rfl, ?_⟩;refine wpAny_letOwnedTupleGo_zip hz' fun h2 abY sb=> ?_;have hfr:H s.heap.objs.size=none:=I.hok.fresh (Nat.le_refl _)
  have I0:Inv X pins σ (upd H s.heap.objs.size (.tup [x,y])) {s with heap:=s.heap.push {cls:= .type "tuple",data:= .seq #[u1,u2]}}:=
   I.laid (t':=s.toks) (fun b u e=>Heap.get?_push_of_some _ e) (Nat.le_refl _) ⟨by show 2<=sizeLine;decide,[u1,u2],.cons ru1 (.cons ru2 .nil),⟨_,Heap.get?_push_size _ rfl,rfl,_,rfl⟩⟩
  have OJ:∀b∈[z,TI,TO,i1,i2],dO X pins (upd H s.heap.objs.size (.tup [x,y])) b:=fun b hb=>by
   refine (hf b hb).upd ?_;have hb':b=z\/b=TI\/b=TO\/b=i1\/b=i2:=by simpa using hb
   rcases hb' with rfl|rfl|rfl|rfl|rfl
   ·exact Nat.ne_of_lt zlt
   ·exact Nat.ne_of_lt adY
   ·exact Nat.ne_of_lt adX
   ·exact Nat.ne_of_lt abW
   ·exact Nat.ne_of_lt abV
  have I1:=I0.qG (h':=h2) (t':=s.toks) OJ (fun b o hb eb=>by
   have b1:b≠z:=fun e=>hb (by simp [e]);have b2:b≠TO:=fun e=>hb (by simp [e]);have b3:b≠i1:=fun e=>hb (by simp [e]);have b4:b≠i2:=fun e=>hb (by simp [e]);rw [sb.2 b b1];rcases zy rfl eb with ⟨rfl,rfl⟩|eb
   ·exact hnew
   ·exact hk b o b1 b2 b3 b4 eb)
  refine ⟨.ref s.heap.objs.size,_,I1,rfl,⟨s.heap.objs.size,x,y,rfl,hfr,fun ys hy=>by rw [I.nT hy hq1];exact hx,fun ys' hy'=>by rw [I.nT hy' hq2];exact hy,rfl⟩, ?_,fun b hb=>(OJ b hb).1⟩;obtain ⟨o1,ho1,c1,d1⟩:=ace;obtain ⟨o2,ho2,c2,d2⟩:=hi2';exact ⟨abY,(sb.2 TI ap.TIz).trans (hk TI _ ap.TIz ap.TITO ap.TIi1 ap.TIi2 hTI),⟨_,_,(sb.2 TO ap.TOz).trans acj⟩,⟨o1,(sb.2 i1 ap.i1z).trans ho1,c1,d1⟩,⟨o2,(sb.2 i2 ap.i2z).trans ho2,c2,d2⟩⟩
 done:=by
  intro X hP hw hK hc i pins s σ H E I hf st hg;subst hP hw hK;obtain ⟨xs,ys,hq1,hq2,hx⟩:=hg;obtain ⟨Vl,Xw,p1,hz1⟩:=I.list hq1;obtain ⟨its2,Xv,p2,hz2⟩:=I.list hq2;obtain ⟨hz,hTI,⟨a,c,hTO⟩,hi1,hi2⟩:=st;have hl1:=Xw.length;have hl2:=Xv.length;refine wpAny_pyNext_zip_end (I.ok.hd hc) ap hz hTI hTO hi1 hi2 p1.isList p2.isList ?_ fun h' eb=>⟨rfl,I.qG (t':=s.toks) hf (fun b o hb e=>eb b o (fun z=>hb (by simp [z])) (fun z=>hb (by simp [z])) (fun z=>hb (by simp [z])) (fun z=>hb (by simp [z])) e)⟩;rcases hx with hx|hx
  ·exact .inl (by simp;omega)
  ·exact .inr (by simp;omega)
 self:=fun _ _ _ _ _ st h=>wpAny_pyIter_zip st.1 h
section
variable {X:Cx}
def abU (K:PySem.W.Frag) (ta:TA):TI:=fun σ H R=>ta σ H fun vs H1=>∃l1 l2 xs ys,vs=[.ref l1,.ref l2]/\aV K H1 l1 xs/\aV K H1 l2 ys/\R (Xh K l1 l2) H1
theorem Lx {K:PySem.W.Frag} {a b:Expr} {ta:TA} {p pos:Pos} {elts:List Expr} {x1:Nat} {tpos:Pos} (hK:X.K=K) (hg:Gl X "zip") (hm:X.mg "zip" = none) (ha:PA X [a,b] ta) (hs:starEach [a,b] X.env=[(false,eval a X.env),(false,eval b X.env)]:=by rfl) (hs2:starEach [b] X.env=[(false,eval b X.env)]:=by rfl):PI X (.Tuple elts x1 tpos) (.Call (.Name "zip" p) [a,b] [] pos) (abU K ta):=by
 subst hK;intro pins s σ H R I h;refine Call_ (lu I hg hm boot_zip (PyProof.Rows.callWith_type1 (cR (ha pos pins s σ H _ I h) fun us s1 ⟨vs,H1,I1,r1,q1⟩=> ?_) (by rw [hs,hs2]) (by rw [hs2];rfl)));obtain ⟨l1,l2,xs,ys,e,hq1,hq2,q⟩:=q1;subst e;cases r1 with
 | cons r rr=>
   cases rr with
   | cons r' rr=>
     cases rr;cases r;cases r';obtain ⟨Vl,Xw,nH,hz1⟩:=I1.list hq1;obtain ⟨its2,Xv,mU,hz2⟩:=I1.list hq2;have Rh:l1<s1.heap.objs.size:=by obtain ⟨o,ho,_⟩:=nH.isList;exact Heap.lt_size ho
     have Gq:l2<s1.heap.objs.size:=by obtain ⟨o,ho,_⟩:=mU.isList;exact Heap.lt_size ho
     refine call_zip_2 nH.isList mU.isList fun h' hZ hTI hTO hi1 hi2 hsz hk=> ?_;refine wpAny_pyIter_zip hZ ?_;have I2:Inv X pins σ H1 {s1 with heap:=h'}:=I1.kept (t':=s1.toks) hk;refine ⟨s1.heap.objs.size+4,[s1.heap.objs.size+4,s1.heap.objs.size+2,s1.heap.objs.size+3,s1.heap.objs.size,s1.heap.objs.size+1],_,_,H1,rfl,I2,GR _ _ _ _ _ l1 l2 (zipApart_new Rh Gq),⟨hZ,hTI,⟨_,_,hTO⟩,hi1,hi2⟩,fun b hb=> ?_,q⟩
     have hb':s1.heap.objs.size<=b:=by
      have:b=s1.heap.objs.size+4\/b=s1.heap.objs.size+2\/b=s1.heap.objs.size+3\/b=s1.heap.objs.size\/b=s1.heap.objs.size+1:=by simpa using hb
      rcases this with rfl|rfl|rfl|rfl|rfl
      ·exact Nat.le_add_right _ _
      ·exact Nat.le_add_right _ _
      ·exact Nat.le_add_right _ _
      ·exact Nat.le_refl _
      ·exact Nat.le_add_right _ _
     exact I1.pC hb' (I1.hok.fresh hb')
end
end L2
set_option Elab.async false
set_option linter.all false
set_option maxRecDepth 100000
set_option maxHeartbeats 4000000
namespace L2
open PySem PySem.Spec PyProof.Rows
section
variable {K:PySem.W.Frag} {a l1 l2 D:Addr} {xs ys:List V} {g:TG} {tc:TT} {te:TE} {Q:VK} {σ0:St} {H1:Hp}
end
section
variable {K:PySem.W.Frag} {a l1 l2:Addr} {xs ys:List V} {g:TG} {tb:TS} {D:Ends} {σ:St} {H:Hp}
theorem JR (Pv:Nat->St->Hp->Prop) (h0:Pv 0 σ H) (hl:∀i σ H,i<=xs.length->Pv i σ H->aV K H a xs)
 (hs:∀i x σ H p,xs[i]? = some x->Pv i σ H->H p=none->g (.ref p) σ (upd H p (.tup [.int i,x])) fun σ2 H2=>tb {D with nx:=Pv (i+1),ct:=Pv (i+1),bk:=D.nx} σ2 H2) (hd:∀σ H,Pv xs.length σ H->D.nx σ H):
 ∃W:Nat->Nat->St->Hp->Prop,(∃m,W 0 m σ H) /\ ∀i m σ H,W i m σ H ->
  ((Ite K a).stop i H/\D.nx σ H)\/((Ite K a).go i H /\ ∃N:St->Hp->Prop,(∀σ' H',N σ' H' -> ∃m',m'<m/\W (i+1) m' σ' H') /\ ∀x H',(Ite K a).Pq i H x H'->g x σ H' fun σ2 H2=>tb {D with nx:=N,ct:=N,bk:=D.nx} σ2 H2):=by
 refine ⟨fun i m σ H=>m=xs.length - i/\i<=xs.length/\Pv i σ H,⟨xs.length,by simp,Nat.zero_le _,h0⟩, ?_⟩;rintro i m σ H ⟨rfl,hi,p⟩;have q:=hl i σ H hi p
 by_cases hlt:i<xs.length
 ·refine .inr ⟨⟨xs,xs[i],q,by simp [hlt]⟩,Pv (i+1),fun σ' H' p'=>⟨xs.length - (i+1),by omega,rfl,hlt,p'⟩,fun x H' y=> ?_⟩
  obtain ⟨t,z,rfl,ht,hz,rfl⟩:=y;exact hs i z σ _ t (hz xs q) p ht
 ·have e:i=xs.length:=by omega
  subst e;exact .inl ⟨⟨xs,q,Nat.le_refl _⟩,hd σ H p⟩
end
section
variable {X:Cx}
theorem wk {K:PySem.W.Frag} {T name id:String} {r:V->List V->Hp->VK->Prop} {o e:Expr} {es:List Expr} {to:TE} {t:TA} {apos cpos:Pos} (h:X.K=K) (pa:PlainAttrs T) (slot:Slot T name id) (hty:typeOf (.builtin id)=pure (.type "method_descriptor")) (hm:MtR X id r) (ho:PE X o to) (ha:PA X (e::es) t)
 (hbase:attributeBase o name X.env (eval o X.env)=eval o X.env:=by rfl)
 (hfew:((backTo cpos (starEach (e::es) X.env)).all (fun x=> !x.1)&&(backToKw cpos (keywordEach [] X.env)).all (fun x=>x.1.isSome)
   && decide ((e::es).length+([]:List Keyword).length+(if ([]:List Keyword).isEmpty then 0 else 1)<30))=true:=by rfl)
 (hline:(apos.endLine==cpos.line)=true:=by rfl) (hs:starEach (e::es) X.env=(false,eval e X.env)::starEach es X.env:=by rfl) (hplain:(backTo cpos (starEach es X.env)).any (·.1)=false:=by rfl):
 PE X (.Call (.Attribute o name apos) (e::es) [] cpos) (Ub K T r to t):=by
 subst h;exact Ol pa slot hty hm ho ha hbase hfew hline hs hplain
theorem v9 {K:PySem.W.Frag} {es:List Expr} {k:Nat} {t:Ph} {n:Nat} {pos:Pos} (hK:X.K=K) (hc:X.calm=true) (h:Xc X es t)
 (hn:(assignEach es X.env).length=n:=by rfl) (hst:(assignEach es X.env).findIdx? (·.1)=none:=by rfl):PG X (.Tuple es k pos) (VR K n t):=by subst hK;exact Qx hc h hn hst
end
end L2
set_option Elab.async false
set_option linter.all false
set_option maxRecDepth 100000
set_option maxHeartbeats 4000000
namespace L2
open PySem
section
variable {K:PySem.W.Frag} {a D:Addr} {xs:List V} {tc:TT} {te:TE} {Q:VK} {rest:St} {H1:Hp}
theorem iu {α:Type} (f:Nat->Option α) (n:Nat):(List.range (n+1)).filterMap f=(List.range n).filterMap f++(f n).toList:=by
 rw [List.range_succ,List.filterMap_append];cases h:f n<;>simp [h]
theorem wO {α:Type} (f:Nat->Option α) (n:Nat):((List.range n).filterMap f).length<=n:=by
 have:=List.length_filterMap_le f (List.range n);simpa using this
theorem Same.newly {H H1:Hp} {D:Addr} {o:HO} (h:Same H H1) (n:H D=none):Same H (upd H1 D o):=fun b u e=>by rw [aN (aD e n)];exact h b u e
theorem jE (f:Nat->Option V) (hD:H1 D=none) (hq:aV K H1 a xs) (hx:xs.length<=100000)
 (hs:∀i x H (G:Hp->Prop) (F:VK),xs[i]? = some x->Same H1 H->(∀H',Same H H'->f i=none->G H')->(∀y H',Same H H'->f i=some y->F y H')->tc (some x::rest) H fun b H3=>if b=true then te (some x::rest) H3 F else G H3)
 (hd:∀H,Same H1 H->H D=some (.lst ((List.range xs.length).filterMap f))->Q (.ref D) H):p8 (Pn K a) (j9 0) tc te Q D (none::rest) H1:=by
 refine vg (K:=K) (xs:=xs) (fun i σ H=>(∃v,σ=v::rest)/\Same H1 H/\H D=some (.lst ((List.range i).filterMap f))) ⟨⟨none,rfl⟩,aB hD,ak⟩ (fun i σ H _ ⟨_,sm,_⟩=>sm.sqL _ _ hq) ?_ (fun σ H ⟨_,sm,e⟩=>hd H sm e);rintro i x σ H hi ⟨⟨v,rfl⟩,sm,e⟩;have hil:i<xs.length:=(List.getElem?_eq_some_iff.mp hi).1;refine hs i x H _ _ hi sm (fun H3 s3 ef=>⟨⟨_,rfl⟩,sm.trans s3,by rw [s3 _ _ e,iu,ef];simp⟩) (fun y H4 s4 ef=> ?_);refine ⟨_,s4 _ _ e, ?_,⟨_,rfl⟩,(sm.trans s4).newly hD, ?_⟩
 ·have:=wO f i
  rw [sizeLine_eq];omega
 ·rw [ak,iu,ef];rfl
theorem FW (f:Nat->Option V) (hD:H1 D=none) (hq:H1 a=some (.tup xs)) (hx:xs.length<=100000)
 (hs:∀i x H (G:Hp->Prop) (F:VK),xs[i]? = some x->Same H1 H->(∀H',Same H H'->f i=none->G H')->(∀y H',Same H H'->f i=some y->F y H')->tc (some x::rest) H fun b H3=>if b=true then te (some x::rest) H3 F else G H3)
 (hd:∀H,Same H1 H->H D=some (.lst ((List.range xs.length).filterMap f))->Q (.ref D) H):p8 (YD K a) (j9 0) tc te Q D (none::rest) H1:=by
 refine J9 (K:=K) (xs:=xs) (fun i σ H=>(∃v,σ=v::rest)/\Same H1 H/\H D=some (.lst ((List.range i).filterMap f))) ⟨⟨none,rfl⟩,aB hD,ak⟩ (fun i σ H _ ⟨_,sm,_⟩=>bZ.of (sm.tups _ _ hq)) ?_ (fun σ H ⟨_,sm,e⟩=>hd H sm e);rintro i x σ H hi ⟨⟨v,rfl⟩,sm,e⟩;have hil:i<xs.length:=(List.getElem?_eq_some_iff.mp hi).1;refine hs i x H _ _ hi sm (fun H3 s3 ef=>⟨⟨_,rfl⟩,sm.trans s3,by rw [s3 _ _ e,iu,ef];simp⟩) (fun y H4 s4 ef=> ?_);refine ⟨_,s4 _ _ e, ?_,⟨_,rfl⟩,(sm.trans s4).newly hD, ?_⟩
 ·have:=wO f i
  rw [sizeLine_eq];omega
 ·rw [ak,iu,ef];rfl
theorem vf {n:Nat} (f:Nat->Option V) (hD:H1 D=none) (hx:n<=100000)
 (hs:∀i H (G:Hp->Prop) (F:VK),i<n->Same H1 H->(∀H',Same H H'->f i=none->G H')->(∀y H',Same H H'->f i=some y->F y H')->tc (some (.int (0+i))::rest) H fun b H3=>if b=true then te (some (.int (0+i))::rest) H3 F else G H3)
 (hd:∀H,Same H1 H->H D=some (.lst ((List.range n).filterMap f))->Q (.ref D) H):p8 (Pk 0 n) (j9 0) tc te Q D (none::rest) H1:=by
 refine Bl (lo:=0) (n:=n) (fun i σ H=>(∃v,σ=v::rest)/\Same H1 H/\H D=some (.lst ((List.range i).filterMap f))) ⟨⟨none,rfl⟩,aB hD,ak⟩ ?_ (fun σ H ⟨_,sm,e⟩=>hd H sm e);rintro i σ H hi ⟨⟨v,rfl⟩,sm,e⟩;refine hs i H _ _ hi sm (fun H3 s3 ef=>⟨⟨_,rfl⟩,sm.trans s3,by rw [s3 _ _ e,iu,ef];simp⟩) (fun y H4 s4 ef=> ?_);refine ⟨_,s4 _ _ e, ?_,⟨_,rfl⟩,(sm.trans s4).newly hD, ?_⟩
 ·have:=wO f i
  rw [sizeLine_eq];omega
 ·rw [ak,iu,ef];rfl
theorem zB {α β:Type} {f g:α->Option β}:∀(l:List α) (_:True) (h:∀x∈l,f x=g x),l.filterMap f=l.filterMap g
 | [],_,_=>rfl
 | x::l,_,h=>by
   rw [List.filterMap_cons,List.filterMap_cons,h x (by simp),zB l trivial fun y hy=>h y (by simp [hy])]
theorem snocInd {α:Type} {P:List α->Prop} (h0:P []) (hs:∀xs x,P xs->P (xs++[x])) (xs:List α):P xs:=by
 rw [←List.reverse_reverse xs]
 induction xs.reverse with
 | nil=>exact h0
 | cons x l ih=>rw [List.reverse_cons];exact hs _ _ ih
theorem wM {α β:Type} (xs:List α) (g:α->β):(List.range xs.length).filterMap (fun i=>(xs[i]?).map g)=xs.map g:=by
 refine snocInd (P:=fun xs=>(List.range xs.length).filterMap (fun i=>(xs[i]?).map g)=xs.map g) rfl (fun xs x ih=> ?_) xs
 ·show (List.range (xs++[x]).length).filterMap (fun i=>((xs++[x])[i]?).map g)=(xs++[x]).map g
  rw [List.length_append,List.length_singleton,iu,List.map_append];congr 1
  ·rw [←ih]
   refine zB _ trivial fun i hi=> ?_;have:i<xs.length:=by simpa using hi
   rw [List.getElem?_append_left this]
  ·simp
end
end L2
namespace L2
open PySem
section
variable {X:Cx} {K:PySem.W.Frag}
theorem rT (h:X.K=K):ni X (binaryOp .Add) (Oi K):=by subst h;exact Ma
end
end L2
namespace L2
open PySem
theorem jP {a b:TS} {D:Ends} {σ:St} {H:Hp} (h:∀R:St->Hp->Prop,(∀σ' H',b D σ' H'->R σ' H')->a {D with nx:=R} σ H):yd a b D σ H:=h _ (fun _ _ x=>x)
theorem Ln {a b:TS} {D:Ends} {σ:St} {H:Hp} (P:St->Hp->Prop) (h1:∀D':Ends,(∀σ' H',P σ' H'->D'.nx σ' H')->D'.rt=D.rt->a D' σ H) (h2:∀σ' H',P σ' H'->b D σ' H'):yd a b D σ H:=h1 _ h2 rfl
end L2
namespace L2
open PySem PySem.Spec PyProof.Rows
section
variable {X:Cx} {K:PySem.W.Frag} {a:Expr} {ta:TE} {pos:Pos}
def Y4 (K:PySem.W.Frag) (ta:TE):TT:=fun σ H Q=>ta σ H fun x H'=>∃k,Sh K x H' k/\Q k H'
theorem Eu (h:X.K=K) (ha:PE X a ta) (he:∀whole,isTrue a X.env whole=(do let v ←whole;standAt a.pos;holding [v] (truthy v)):=by intro _;rfl):PT X a (Y4 K ta):=by
 subst h;exact HN ha he
end
end L2
set_option Elab.async false
set_option linter.all false
set_option maxRecDepth 100000
set_option maxHeartbeats 4000000
namespace L2
open PySem PySem.Spec PyProof.Rows
section
variable {X:Cx} {K:PySem.W.Frag}
def Ur:R2:=fun x y H Q=>∃a b,x = .bl a/\y = .bl b/\Q (.bl (!(a==b))) H
theorem LQ:ni X (compareOp .IsNot) Ur:=by
 intro pins s σ H x y v u Q I rx ry h;obtain ⟨a,b,rfl,rfl,q⟩:=h;cases rx;cases ry;exact isnot_bool (bH I q rfl)
end
section
variable {K:PySem.W.Frag} {a D:Addr} {xs:List V} {te:TE} {Q:VK} {rest:St} {H1:Hp}
theorem u9 {H:Hp} {vs:List V} {ds:List PyData} {v:V} {d:PyData} (h:aC H vs ds) (hd:Dat H v d):aC H (vs++[v]) (ds++[d]):=aC.append h (by simp only [aC,and_true];exact hd)
end
end L2
set_option Elab.async false
set_option linter.all false
namespace L2
open PySem
end L2
set_option Elab.async false
set_option linter.all false
set_option maxRecDepth 100000
set_option maxHeartbeats 4000000
namespace L2
open PySem PySem.Spec PyProof.Rows
section
variable {prog:Program} {w:World} {K:Type} [DecidableEq K] {knd:HeapKind prog w K}
theorem BK {xs:List (K×Addr×Value)} {k:K} (h:∀(j:Nat) (p:Addr×Value),xs[j]? ≠ some (k,p)):atKey xs k=none:=by
 unfold atKey;rw [Option.map_eq_none_iff,List.find?_eq_none];intro x hx e;obtain ⟨j,hj⟩:=List.getElem?_of_mem hx;have e':x.1=k:=of_decide_eq_true e;exact h j x.2 (by rw [hj,←e'])
theorem m7 {xs:List (K×Addr×Value)} {k:K} {j:Nat} {p:Addr×Value} (hn:(xs.map (·.1)).Nodup) (h:xs[j]? = some (k,p)):atKey xs k=some p:=by
 unfold atKey
 induction xs generalizing j with
 | nil=>cases h
 | cons x xs ih=>
   rw [List.find?_cons];cases j with
   | zero=>
     have:x=(k,p):=by simpa using h
     subst this;simp
   | succ j=>
     have hj:xs[j]? = some (k,p):=by simpa using h
     have hn':=List.nodup_cons.mp (by simpa using hn:(x.1::xs.map (·.1)).Nodup);have ne:¬x.1=k:=fun z=>hn'.1 (by rw [z];exact List.mem_map.mpr ⟨(k,p),List.mem_of_getElem? hj,rfl⟩);rw [decide_eq_false ne];exact ih hn'.2 hj
theorem lR {A:Around} {E:Value->Shared->Prop} {s:Shared} {d a:Addr} {xs:List (K×Addr×Value)} {k:K} {dflt:Value} {Q:Value->Shared->Prop}
 (hr:knd.room A) (hk:knd.is s.heap k a) (dd:Heap.DictOfH knd s.heap d xs) (hz:xs.length<=sizeLine)
 (h1:∀p,atKey xs k=some p->Q p.2 {s with toks:=s.toks+knd.draws k})
 (h2:atKey xs k=none -> ∀h',Heap.DictOfH knd h' d (xs++[(k,a,dflt)])->Heap.SameBut d s.heap h'->Q dflt {s with heap:=h',toks:=s.toks+knd.draws k}):
 wpAny (model prog w) A (dictSetDefault d (.ref a) dflt) Q E s:=by
 unfold dictSetDefault;refine wpAny_holding (wpAny_bind (knd.pyHash hr hk ?_));obtain ⟨o,es,ep,ho,hx,hd,he,hi,hn⟩:=id dd;have hl:es.size=xs.length:=by rw [←Array.length_toList,he,List.length_map]
 refine wpAny_bind (wpAny_dictFind_heap (s:={s with toks:=s.toks+knd.draws k}) hr hk ho hd he hi hn (fun hno=> ?_) (fun j p hj=> ?_))
 ·refine wpAny_bind (wpAny_rule ?_)
  have an:=BK hno;refine wpAny_bind (wpAny_updateDictKeys (s:={s with toks:=s.toks+knd.draws k}) ho hd ?_ (by omega) (by simp));refine wpAny_pure ?_;have sb:=Heap.SameBut.update s.heap d (Obj.mapDictKeys fun x=>x.push {hash:=knd.hash k,key:= .ref a,val:=dflt});refine h2 an _ ?_ sb;obtain ⟨oc,od,agx,osl⟩:=o;simp only at hd;subst hd;refine ⟨_,es.push {hash:=knd.hash k,key:= .ref a,val:=dflt},ep+1,Heap.get?_update_self _ ho ?_,hx,rfl, ?_, ?_, ?_⟩
  ·obtain ⟨c1,c2,c3⟩:=hx
   simp only at c1;subst c1;rfl
  ·rw [Array.toList_push,he,List.map_append];rfl
  ·intro x Vq
   rcases List.mem_append.mp Vq with Vq|Vq
   ·exact knd.keeps (hi x Vq) ho rfl sb
   ·have:x=(k,a,dflt):=by simpa using Vq
    subst this;exact knd.keeps hk ho rfl sb
  ·rw [List.map_append]
   refine List.nodup_append.mpr ⟨hn,by simp, ?_⟩;intro y hy z hz' e;have:z=k:=by simpa using hz'
   subst this;subst e;obtain ⟨x,hx',rfl⟩:=List.mem_map.mp hy;obtain ⟨j,hj⟩:=List.getElem?_of_mem hx';exact hno j x.2 hj
 ·refine wpAny_bind (wpAny_dictEntries (s:={s with toks:=s.toks+knd.draws k}) ho hd ?_)
  have ej:es[j]? = some (entryOfKey knd (k,p)):=by
   rw [←Array.getElem?_toList,he,List.getElem?_map,hj];rfl
  rw [ej];exact wpAny_bind (wpAny_rule (wpAny_pure (h1 p (m7 hn hj))))
theorem nR (knd:HeapKind prog w K) (d a:Addr) (hd:(d==sysModules)=false) (dflt:Value):MeetsIn prog w (Builtin.«dict.setdefault» {pos:=[.ref d,.ref a,dflt]}) fun A R s=>
 knd.room A.in1 /\ ∃k xs,knd.is s.heap k a/\Heap.DictOfH knd s.heap d xs/\xs.length<=sizeLine/\(∀p,atKey xs k=some p->R (.ok (.ret p.2)) {s with toks:=s.toks+knd.draws k}) /\
  (atKey xs k=none -> ∀h',Heap.DictOfH knd h' d (xs++[(k,a,dflt)])->Heap.SameBut d s.heap h'->R (.ok (.ret dflt)) {s with heap:=h',toks:=s.toks+knd.draws k}):=by
 rintro A R s ⟨hr,k,xs,hk,dd,hz,h1,h2⟩;obtain ⟨o,es,ep,ho,hx,hdat,_⟩:=id dd;unfold Builtin.«dict.setdefault»;have ht:s.TypeIs (.ref d) "dict" :=⟨o,ho,hx.1⟩;refine wpAny_bind ?_;unfold Builtin.Dict.keyAndDefault;refine wpAny_bind ?_;unfold Builtin.Dict.notOrdered;rw [if_pos (by decide)];refine wpAny_bind (wpAny_typeOf ht ?_);rw [if_neg (by decide)];refine wpAny_pure ?_;refine wpAny_bind ?_;unfold Builtin.Dict.nameIsSure;rw [if_neg (by show ¬(false=true);decide)];refine wpAny_pure ?_;refine wpAny_bind ?_;unfold selfAndSome noKeywords;refine wpAny_bind ?_;rw [if_pos (by rfl)];refine wpAny_pure ?_;show wpAny (model prog w) A.in1 (checkCount "setdefault" 1 2 2 >>= fun _=>pure (Value.ref d,[Value.ref a,dflt])) _ _ s;refine wpAny_bind ?_;have ck:checkCount "setdefault" 1 2 2=pure ():=rfl;rw [ck];refine wpAny_pure (wpAny_pure ?_);show wpAny (model prog w) A.in1 (Builtin.Dict.addrOf (.ref d) >>= fun x=>pure (x,Value.ref a,some dflt)) _ _ s;refine wpAny_bind (wpAny_pure (wpAny_pure ?_));show wpAny (model prog w) A.in1 (if (d==sysModules)=true then _ else (dictSetDefault d (.ref a) dflt >>= fun v=>ret v)) _ _ s;rw [if_neg (by rw [hd];decide)];refine wpAny_bind (lR hr hk dd hz (fun p hp=>wpAny_pure (h1 p hp)) (fun hn h' O9 sb=>wpAny_pure (h2 hn h' O9 sb)))
end
section
variable {X:Cx} {o e f:Expr} {td ty tx:TE} {apos cpos:Pos}
def Qd (td ty tx:TE):TE:=fun σ H Q=>td σ H fun x H1=>∃a,x = .ref a/\IsD H1 a/\ty σ H1 fun y H2=>tx σ H2 fun z H3=>∃kvs k b,H3 a=some (.dT kvs)/\y = .ref b/\H3 b=some (.tup (k.map kV))/\kvs.length<sizeLine /\
 (∀v,cG kvs k=some v->Q v H3)/\(cG kvs k=none->Q z (upd H3 a (.dT (putK kvs k z))))
theorem Ih (hu:X.A.units+1<cLine) (ho:PE X o td) (he:PE X e ty) (hf:PE X f tx) (m:M2 X o "setdefault" apos e f cpos):PE X (.Call (.Attribute o "setdefault" apos) [e,f] [] cpos) (Qd td ty tx):=by
 intro pins s σ H Q I h;refine wpAny_Call_method m.base m.few m.line PySem.F.plainAttrs_dict PySem.F.slot_dict_setdefault PySem.F.type_dict_setdefault (cR (ho pins s σ H _ I h) fun u s1 ⟨x,H1,I1,rx,a,ex,d,q1⟩=> ?_);subst ex;obtain rfl:u=Value.ref a:=rx;obtain ⟨t1,t2,_⟩:=JB I1 d;refine ⟨t1,t2, ?_⟩;rw [m.trees]
 refine Calls.callWith_builtin rfl (Calls.evalArgs_plain (Calls.spliced_cons (cR (he pins s1 σ H1 _ I1 q1) fun iv s2 ⟨y,H2,I2,ry,q2⟩=>
  Calls.spliced_cons (cR (hf pins s2 σ H2 _ I2 q2) fun fv s3 ⟨z,H3,I3,rz,kvs,k,b,ea,ey,eb,hl,q3,q4⟩=>Calls.spliced_nil ?_))))
 subst ey;cases (show iv=Value.ref b from ry);obtain ⟨hz,hd,xs,rel,dd⟩:=DG I3.hok ea;have hz':xs.length<=sizeLine:=by rw [←Paired.length rel];exact hz
 have rv:=rel.val k;refine call_meetsIn PySem.F.slot_dict_setdefault dd.typeIs PySem.F.entry_dict_setdefault (PySem.F.args_dict_setdefault_3 _ _ _) (nR (tupleKind (cF X.prog X.w)) a b hd fv) ⟨tupleKind_room_in1 hu,k,xs,o9 I3.hok eb,dd,hz',fun p hp=> ?_,fun hn h' O9 sb=> ?_⟩
 ·rw [hp] at rv
  cases lv:cG kvs k with
  | none=>rw [lv] at rv;exact absurd rv (by simp [m9])
  | some v=>
    rw [lv] at rv;exact ⟨v,H3,I3.tok _,rv,q3 v lv⟩
 ·rw [hn] at rv
  have lv:cG kvs k=none:=by
   cases lv:cG kvs k with
   | none=>rfl
   | some v=>rw [lv] at rv;exact absurd rv (by simp [m9])
  have hl':(putK kvs k z).length<=sizeLine:=by have:=dY kvs k z;omega
  obtain ⟨q,es,ep,hq,h2,h3,h4,_,h5⟩:=O9;have est:storedH xs k b fv=xs++[(k,b,fv)]:=by unfold storedH;rw [hn];rfl
  have rp:=rel.put k eb rz;rw [est] at rp;refine ⟨z,upd H3 a (.dT (putK kvs k z)),wQ (ob:= .dT (putK kvs k z)) I3 (by rw [ea];exact True.intro) sb ⟨q,hq⟩ ⟨hl',hd,_,rp.keeps fun c ys ec=> ?_,q,es,ep,hq,h2,h3,h4,h5⟩,rz,q4 lv⟩;rw [aN (fM ec ea (fun z=>nomatch z))];exact ec
end
end L2
namespace L2
open PySem PySem.Spec PyProof.Rows
section
variable {X:Cx} {K:PySem.W.Frag}
end
end L2
namespace L2
open PySem
theorem zF {K:PySem.W.Frag} {T:String} {r:V->List V->Hp->VK->Prop} {to:TE} {t:TA} {D:Ends} {σ:St} {H:Hp} (P:V->Hp->Prop) (h1:∀Q':VK,(∀v H',P v H'->Q' v H')->to σ H Q') (h2:∀v H',P v H'->YW K T v H'/\t σ H' fun xs H2=>r v xs H2 fun _ H3=>D.nx σ H3):G5 (Ub K T r to t) D σ H:=h1 _ h2
end L2
set_option Elab.async false
set_option linter.all false
set_option maxRecDepth 100000
set_option maxHeartbeats 4000000
namespace L2
open PySem PySem.Spec PyProof.Rows
section
variable {X:Cx} {K:PySem.W.Frag}
end
def cat:List Str->Str
 | []=>Str.empty
 | x::xs=>x++cat xs
end L2
set_option Elab.async false
set_option linter.all false
set_option maxRecDepth 100000
set_option maxHeartbeats 4000000
namespace L2
open PySem PySem.Spec PyProof.Rows
section
variable {X:Cx} {body suite:List Stmt} {b0:Stmt} {cn:Str} {Dc:Addr} {tb:(St->XK)->TS} {th:TS} {cp hpos pos:Pos}
end
end L2
namespace L2
open PySem PySem.Spec PyProof.Rows
section
variable {X:Cx}
end
end L2
set_option Elab.async false
set_option linter.all false
set_option maxRecDepth 100000
set_option maxHeartbeats 4000000
namespace L2
open PySem PySem.Spec PyProof.Rows
section
variable {X:Cx} {pins:List (Addr×Obj)} {σ:St} {H:Hp} {s:Shared} {d:Addr} {u u':HO}
end
section
variable {X:Cx} {tg:Expr}
end
section
variable {d D:Addr} {o:Obj} {kvs:List (Key×V)} {tc:TT} {te:TE} {Q:VK} {rest:St} {H1:Hp}
end
end L2
set_option Elab.async false
set_option linter.all false
set_option maxRecDepth 100000
set_option maxHeartbeats 4000000
namespace L2
open PySem PySem.Spec PyProof.Rows
end L2
set_option Elab.async false
set_option linter.all false
set_option maxRecDepth 100000
set_option maxHeartbeats 4000000
namespace L2
open PySem PySem.Spec PyProof.Rows
section
variable {X:Cx} {tg:Expr}
end
end L2
set_option Elab.async false
set_option linter.all false
set_option maxRecDepth 100000
set_option maxHeartbeats 4000000
namespace L2
open PySem PySem.Spec PyProof.Rows
section
variable {X:Cx} {tg:Expr}
end
end L2
set_option Elab.async false
set_option linter.all false
set_option maxRecDepth 100000
set_option maxHeartbeats 4000000
namespace L2
open PySem PySem.Spec PyProof.Rows
def ZQ (K:PySem.W.Frag) (neg:Bool):R2:=fun x y H Q=>∃(p:Addr) (vs:List V) (d:PyData) (ds:List PyData),y = .ref p/\aV K H p vs/\aC H vs ds/\Dat H x d/\SeqAt.shaped d=true/\(∀e∈ds,SeqAt.shaped e=true)/\Q (.bl (if neg then !(ds.any fun e=>PyData.eqv e d) else ds.any fun e=>PyData.eqv e d)) H
section
variable {X:Cx}
theorem Cd {H:Hp} {pins:List (Addr×Obj)} {σ:St} {s:Shared} (I:Inv X pins σ H s):∀{vs:List V} {us:List Value} {ds:List PyData},Vals vs us->aC H vs ds -> ∀u∈us,∃e∈ds,∃as,Reads s.heap u e as
 | [],_,_,.nil,_=>fun u hu=>by cases hu
 | v::vs,_,d::ds,.cons r rs,h=>fun u hu=>by
   simp only [aC] at h;rcases List.mem_cons.mp hu with rfl|hu
   ·obtain ⟨as,ra⟩:=I.reads d h.1 r
    exact ⟨d,by simp,as,ra⟩
   ·obtain ⟨e,he,q⟩:=Cd I rs h.2 u hu
    exact ⟨e,by simp [he],q⟩
 | _::_,_,[],.cons _ _,h=>by simp only [aC] at h
theorem Ca {H:Hp} {pins:List (Addr×Obj)} {σ:St} {s:Shared} (I:Inv X pins σ H s):∀{vs:List V} {us:List Value} {ds:List PyData},Vals vs us->aC H vs ds -> ∀e∈ds,∃u∈us,∃as,Reads s.heap u e as
 | [],_,[],.nil,_=>fun e he=>by cases he
 | [],_,_::_,.nil,h=>by simp only [aC] at h
 | v::vs,_,d::ds,.cons r rs,h=>fun e he=>by
   simp only [aC] at h;rcases List.mem_cons.mp he with rfl|he
   ·obtain ⟨as,ra⟩:=I.reads e h.1 r
    exact ⟨_,by simp,as,ra⟩
   ·obtain ⟨u,hu,q⟩:=Ca I rs h.2 e he
    exact ⟨u,by simp [hu],q⟩
 | _::_,_,[],.cons _ _,h=>by simp only [aC] at h
open Classical in
noncomputable def KZ (s:Shared) (ds:List PyData) (d:PyData) (u:Value):Bool:=decide (∃e∈ds,(∃as,Reads s.heap u e as)/\PyData.eqv e d=true)
open Classical in
theorem qN {s:Shared} {ds:List PyData} {d:PyData} {u:Value}:KZ s ds d u=true ↔ ∃e∈ds,(∃as,Reads s.heap u e as)/\PyData.eqv e d=true:=by unfold KZ;exact decide_eq_true_iff
theorem Rt {A:Around} {s:Shared} {ds:List PyData} {d:PyData} {u v:Value} {bs:List Addr} (hd:SeqAt.shaped d=true) (hds:∀e∈ds,SeqAt.shaped e=true) (hu:A.units+64<cLine) (rv:Reads s.heap v d bs) (h:∃e∈ds,∃as,Reads s.heap u e as):SeqAt.EqAt A s u v (KZ s ds d u):=by
 by_cases q:∃e∈ds,(∃as,Reads s.heap u e as)/\PyData.eqv e d=true
 ·have:KZ s ds d u=true:=qN.mpr q
  rw [this];obtain ⟨e,he,⟨as,ra⟩,ee⟩:=q;have:=SeqAt.eqAt_reads e d A s u v as bs ra rv (SeqAt.canLay_of_shaped (hds e he)) (SeqAt.canLay_of_shaped hd) (SeqAt.room_of_shaped (hds e he) hu);rwa [ee] at this
 ·have:KZ s ds d u=false:=by
   cases z:KZ s ds d u with
   | false=>rfl
   | true=>exact absurd (qN.mp z) q
  rw [this];obtain ⟨e,he,as,ra⟩:=h
  have ee:PyData.eqv e d=false:=by
   cases z:PyData.eqv e d with
   | false=>rfl
   | true=>exact absurd ⟨e,he,⟨as,ra⟩,z⟩ q
  have:=SeqAt.eqAt_reads e d A s u v as bs ra rv (SeqAt.canLay_of_shaped (hds e he)) (SeqAt.canLay_of_shaped hd) (SeqAt.room_of_shaped (hds e he) hu);rwa [ee] at this
theorem MP {H:Hp} {pins:List (Addr×Obj)} {σ:St} {s:Shared} (I:Inv X pins σ H s) {vs:List V} {us:List Value} {ds:List PyData} {d:PyData} (r:Vals vs us) (h:aC H vs ds):us.toArray.any (KZ s ds d)=ds.any fun e=>PyData.eqv e d:=by
 rw [show us.toArray.any (KZ s ds d)=us.any (KZ s ds d) by simp,Bool.eq_iff_iff,List.any_eq_true,List.any_eq_true];constructor
 ·rintro ⟨u,hu,e⟩
  obtain ⟨e,he,_,ee⟩:=qN.mp e;exact ⟨e,he,ee⟩
 ·rintro ⟨e,he,ee⟩
  obtain ⟨u,hu,q⟩:=Ca I r h e he;exact ⟨u,hu,qN.mpr ⟨e,he,q,ee⟩⟩
theorem rQ {K:PySem.W.Frag} (hK:X.K=K) (hu:X.A.in1.units+64<cLine):ni X (compareOp .NotIn) (ZQ K true):=by
 subst hK;intro pins s σ H x y v u Q I rx ry h;obtain ⟨p,vs,d,ds,rfl,hq,hds,hd,s1,s2,q⟩:=h;cases ry;obtain ⟨its,r,pl,hz⟩:=I.list hq;obtain ⟨bs,rv⟩:=I.reads d hd rx;refine SeqAt.notIn_listAt (KZ s ds d) pl.isList (fun w hw=>Rt s1 s2 hu rv (Cd I r hds w (by simpa using hw))) ⟨.bl _,H,I,rfl, ?_⟩;rw [MP I r hds];exact q
end
end L2
set_option Elab.async false
set_option linter.all false
set_option maxRecDepth 100000
set_option maxHeartbeats 4000000
namespace L2
open PySem PySem.Spec PyProof.Rows
section
variable {H H':Hp}
mutual
theorem Dat.same (k:Same H H'):∀(d:PyData) {v:V},Dat H v d->Dat H' v d
 | .none,_,h=>by simp only [Dat] at h ⊢;exact h
 | .bool _,_,h=>by simp only [Dat] at h ⊢;exact h
 | .int _,_,h=>by simp only [Dat] at h ⊢;exact h
 | .str _,_,h=>by simp only [Dat] at h ⊢;exact h
 | .list ds,_,h=>by simp only [Dat] at h ⊢;obtain ⟨a,vs,e,q,r⟩:=h;exact ⟨a,vs,e,k _ _ q,aC.same k ds r⟩
 | .tuple ds,_,h=>by simp only [Dat] at h ⊢;obtain ⟨a,vs,e,q,r⟩:=h;exact ⟨a,vs,e,k _ _ q,aC.same k ds r⟩
 | .dict _,_,h=>by simp only [Dat] at h
theorem aC.same (k:Same H H'):∀(ds:List PyData) {vs:List V},aC H vs ds->aC H' vs ds
 | [],[],_=>by simp only [aC]
 | d::ds,v::vs,h=>by simp only [aC] at h ⊢;exact ⟨Dat.same k d h.1,aC.same k ds h.2⟩
 | _::_,[],h=>by simp only [aC] at h
 | [],_::_,h=>by simp only [aC] at h
end
end
section
variable {X:Cx} {K:PySem.W.Frag}
end
section
variable {K:PySem.W.Frag} {a D:Addr} {xs:List V} {tc:TT} {te:TE} {Q:VK} {rest:St} {H1:Hp}
theorem wG {f:Nat->Option PyData} (hf:∀i d,f i=some d->Dn d=true):∀l:List Nat,zq (l.filterMap f)=true
 | []=>rfl
 | i::l=>by
   rw [List.filterMap_cons];cases e:f i with
   | none=>exact wG hf l
   | some d=>simp only [zq,hf i d e,wG hf l,Bool.and_self]
theorem gZ (f:Nat->Option PyData) (hf:∀i d,f i=some d->Dn d=true) (hD:H1 D=none) (hq:aV K H1 a xs) (hx:xs.length<=100000)
 (hs:∀i x H (G:Hp->Prop) (F:VK),xs[i]? = some x->Same H1 H->(∀H',Same H H'->f i=none->G H')->(∀y d H',Same H H'->f i=some d->Dat H' y d->F y H')->tc (some x::rest) H fun b H3=>if b=true then te (some x::rest) H3 F else G H3)
 (hd:∀H vs,Same H1 H->H D=some (.lst vs)->aC H vs ((List.range xs.length).filterMap f)->Q (.ref D) H):p8 (Pn K a) (j9 0) tc te Q D (none::rest) H1:=by
 refine vg (K:=K) (xs:=xs) (fun i σ H=>(∃v,σ=v::rest)/\Same H1 H /\ ∃vs,H D=some (.lst vs)/\aC H vs ((List.range i).filterMap f)) ⟨⟨none,rfl⟩,aB hD,[],ak,by simp [aC]⟩ (fun i σ H _ ⟨_,sm,_⟩=>sm.sqL _ _ hq) ?_ (fun σ H ⟨_,sm,vs,e,d⟩=>hd H vs sm e d);rintro i x σ H hi ⟨⟨v,rfl⟩,sm,vs,e,d⟩;have hil:i<xs.length:=(List.getElem?_eq_some_iff.mp hi).1;have im:=wG hf (List.range i);refine hs i x H _ _ hi sm (fun H3 s3 ef=>⟨⟨_,rfl⟩,sm.trans s3,vs,s3 _ _ e, ?_⟩) (fun y dd H4 s4 ef dy=> ?_)
 ·rw [iu,ef]
  simpa using aC.keep s3.tups _ im d
 ·have hl:vs.length<=i:=by rw [d.length];exact wO f i
  have kp:Kp D H4 (upd H4 D (.lst (vs++[y]))):=Kp.set;have tp:=kp.tups (s4 _ _ e);refine ⟨vs,s4 _ _ e, ?_,⟨_,rfl⟩,(sm.trans s4).newly hD,vs++[y],ak, ?_⟩
  ·rw [sizeLine_eq];omega
  ·rw [iu,ef]
   exact u9 (aC.keep (fun a xs h=>tp _ _ (s4.tups _ _ h)) _ im d) (Dat.keep tp _ (hf i dd ef) dy)
end
section
variable {X:Cx}
end
end L2
set_option Elab.async false
set_option linter.all false
set_option maxRecDepth 100000
set_option maxHeartbeats 4000000
namespace L2
open PySem
section
variable {K:PySem.W.Frag} {a D:Addr} {xs:List V} {tc:TT} {te:TE} {Q:VK} {rest:St} {H1:Hp}
end
end L2
set_option Elab.async false
set_option linter.all false
set_option maxRecDepth 100000
set_option maxHeartbeats 4000000
namespace L2
open PySem PySem.Spec PyProof.Rows
theorem cU.kJ {k:Nat} {A:Around} (r:cU k A):A.in1.units+64<cLine:=by have:=r.un;show A.units+1+64<_;omega
section
variable {X:Cx} {K:PySem.W.Frag} {e st:Expr} {te tk:TE} {pos p2:Pos}
end
end L2
set_option Elab.async false
set_option linter.all false
set_option maxRecDepth 100000
set_option maxHeartbeats 4000000
namespace L2
open PySem PySem.Spec PyProof.Rows
section
variable {H:Hp}
mutual
theorem Dat.fn:∀(d e:PyData) {v:V},Dat H v d->Dat H v e->d=e
 | .none,e,v,h,g=>by cases e<;>simp only [Dat] at h g<;>first |rfl|(subst h;first |(obtain ⟨_,_,z,_⟩:=g;cases z;done)|(cases g;done))
 | .bool _,e,v,h,g=>by cases e<;>simp only [Dat] at h g<;>first |(subst h;first |(injection g with g;rw [g];done)|(obtain ⟨_,_,z,_⟩:=g;cases z;done)|(cases g;done))
 | .int _,e,v,h,g=>by cases e<;>simp only [Dat] at h g<;>first |(subst h;first |(injection g with g;rw [g];done)|(obtain ⟨_,_,z,_⟩:=g;cases z;done)|(cases g;done))
 | .str _,e,v,h,g=>by cases e<;>simp only [Dat] at h g<;>first |(subst h;first |(injection g with g;rw [g];done)|(obtain ⟨_,_,z,_⟩:=g;cases z;done)|(cases g;done))
 | .list ds,.list es,v,h,g=>by
   simp only [Dat] at h g;obtain ⟨a,vs,rfl,ha,da⟩:=h;obtain ⟨b,ws,e,hb,db⟩:=g;injection e with e
   subst e;rw [ha] at hb;injection hb with hb
   injection hb with hb
   subst hb;rw [aC.fn ds es da db]
 | .tuple ds,.tuple es,v,h,g=>by
   simp only [Dat] at h g;obtain ⟨a,vs,rfl,ha,da⟩:=h;obtain ⟨b,ws,e,hb,db⟩:=g;injection e with e
   subst e;rw [ha] at hb;injection hb with hb
   injection hb with hb
   subst hb;rw [aC.fn ds es da db]
 | .list ds,.tuple es,v,h,g=>by
   simp only [Dat] at h g;obtain ⟨a,vs,rfl,ha,da⟩:=h;obtain ⟨b,ws,e,hb,db⟩:=g;injection e with e
   subst e;rw [ha] at hb;injection hb with hb
   cases hb
 | .tuple ds,.list es,v,h,g=>by
   simp only [Dat] at h g;obtain ⟨a,vs,rfl,ha,da⟩:=h;obtain ⟨b,ws,e,hb,db⟩:=g;injection e with e
   subst e;rw [ha] at hb;injection hb with hb
   cases hb
 | .list ds,.none,v,h,g=>by simp only [Dat] at h g;obtain ⟨a,vs,rfl,_⟩:=h;cases g
 | .list ds,.bool _,v,h,g=>by simp only [Dat] at h g;obtain ⟨a,vs,rfl,_⟩:=h;cases g
 | .list ds,.int _,v,h,g=>by simp only [Dat] at h g;obtain ⟨a,vs,rfl,_⟩:=h;cases g
 | .list ds,.str _,v,h,g=>by simp only [Dat] at h g;obtain ⟨a,vs,rfl,_⟩:=h;cases g
 | .tuple ds,.none,v,h,g=>by simp only [Dat] at h g;obtain ⟨a,vs,rfl,_⟩:=h;cases g
 | .tuple ds,.bool _,v,h,g=>by simp only [Dat] at h g;obtain ⟨a,vs,rfl,_⟩:=h;cases g
 | .tuple ds,.int _,v,h,g=>by simp only [Dat] at h g;obtain ⟨a,vs,rfl,_⟩:=h;cases g
 | .tuple ds,.str _,v,h,g=>by simp only [Dat] at h g;obtain ⟨a,vs,rfl,_⟩:=h;cases g
 | .list ds,.dict _,v,h,g=>by simp only [Dat] at g
 | .tuple ds,.dict _,v,h,g=>by simp only [Dat] at g
 | .dict _,_,v,h,g=>by simp only [Dat] at h
theorem aC.fn:∀(ds es:List PyData) {vs:List V},aC H vs ds->aC H vs es->ds=es
 | [],[],_,_,_=>rfl
 | d::ds,e::es,v::vs,h,g=>by
   simp only [aC] at h g;rw [Dat.fn d e h.1 g.1,aC.fn ds es h.2 g.2]
 | [],_::_,[],_,g=>by simp only [aC] at g
 | [],_::_,_::_,h,_=>by simp only [aC] at h
 | _::_,[],[],h,_=>by simp only [aC] at h
 | _::_,[],_::_,_,g=>by simp only [aC] at g
 | _::_,_::_,[],h,_=>by simp only [aC] at h
end
end
def Lq (K:PySem.W.Frag):V->List V->Hp->VK->Prop:=fun x vs H Q=>∃(l:Addr) (as:List Addr) (w:V) (d:PyData) (ds:List PyData) (j:Nat) (e:PyData),x = .ref l/\vs=[w]/\aV K H l (as.map V.ref)/\aC H (as.map V.ref) ds/\Dat H w d/\SeqAt.shaped d=true/\(∀e∈ds,SeqAt.shaped e=true) /\
 ds[j]? = some e/\PyData.eqv e d=true/\(∀m e',m<j->ds[m]? = some e'->PyData.eqv e' d=false)/\Q (.int j) H
section
variable {X:Cx}
open Classical in
noncomputable def Vn (H:Hp) (d:PyData) (u:Value):Bool:=decide (∃a e,u = .ref a/\Dat H (.ref a) e/\PyData.eqv e d=true)
open Classical in
theorem Bd {H:Hp} {d e:PyData} {a:Addr} (h:Dat H (.ref a) e):Vn H d (.ref a)=PyData.eqv e d:=by
 unfold Vn;rw [Bool.eq_iff_iff,decide_eq_true_iff];constructor
 ·rintro ⟨b,e',eb,he,q⟩
  injection eb with eb
  subst eb;rw [Dat.fn e e' h he];exact q
 ·intro q
  exact ⟨a,e,rfl,h,q⟩
theorem jX {K:PySem.W.Frag} (hK:X.K=K) (hu:X.A.in1.units+64<cLine):MtR X "list.index" (Lq K):=by
 subst hK;intro pins s σ H x vs v us Q I rx rv h;obtain ⟨l,as,w,d,ds,j,e,rfl,rfl,hq,hds,hd,s1,s2,hj,hit,hno,q⟩:=h;cases rx;obtain ⟨u,rfl,ru⟩:=rv.one;obtain ⟨its,r,pl,hz⟩:=I.list hq;obtain ⟨bs,rd⟩:=I.reads d hd ru;have ei:=Ea r;subst ei;obtain ⟨o,ho,hc,n,hdd⟩:=pl.isList;obtain ⟨c0,d0,dt,sl⟩:=o;simp only at hc hdd;subst hc hdd;have dl:as.length=ds.length:=by rw [←hds.length,List.length_map]
 have jl:j<as.length:=by rw [dl];exact (List.getElem?_eq_some_iff.mp hj).1
 have at_:∀m (hm:m<as.length),∃e',ds[m]? = some e'/\Dat H (.ref as[m]) e':=fun m hm=>by
  exact hds.get (i:=m) (v:= .ref as[m]) (by rw [List.getElem?_map,List.getElem?_eq_getElem hm];rfl)
 have eqs:∀y∈(as.map Value.ref).toArray,SeqAt.EqAt X.A.in1 s y u (Vn H d y):=fun y hy=>by
  have hy:y∈as.map Value.ref:=by simpa using hy
  obtain ⟨a,ha,rfl⟩:=List.mem_map.mp hy;obtain ⟨m,hm,rfl⟩:=List.getElem_of_mem ha;obtain ⟨e',ee,de⟩:=at_ m hm
  rw [Bd de];obtain ⟨as',ra⟩:=I.reads e' de (u:= .ref as[m]) rfl;exact SeqAt.eqAt_reads e' d _ s _ u as' bs ra rd (SeqAt.canLay_of_shaped (s2 e' (List.mem_of_getElem? ee))) (SeqAt.canLay_of_shaped s1) (SeqAt.room_of_shaped (s2 e' (List.mem_of_getElem? ee)) hu)
 have l63:=o8;have hz':as.length<=sizeLine:=by simpa using hz
 refine call_meets F.slot_list_index ⟨_,ho,rfl⟩ F.entry_list_index (F.args_list_index_2 _ _) (SeqAt.list_indexAt l (as.map Value.ref).toArray n d0 sl u (Vn H d) j (by simpa using jl) (by omega) ?_ (fun m hm hmj=> ?_)) ⟨ho,eqs,⟨.int j,H,I.tok _,⟨_,rfl⟩,q⟩⟩
 ·obtain ⟨e',ee,de⟩:=at_ j jl
  rw [hj] at ee;cases ee;show Vn H d ((as.map Value.ref).toArray[j]'(by simpa using jl))=true;simp only [List.getElem_toArray,List.getElem_map];rw [Bd de];exact hit
 ·have hm':m<as.length:=by simpa using hm
  obtain ⟨e',ee,de⟩:=at_ m hm'
  simp only [List.getElem_toArray,List.getElem_map];rw [Bd de];exact hno m e' hmj ee
end
end L2
set_option Elab.async false
set_option linter.all false
set_option maxRecDepth 100000
set_option maxHeartbeats 4000000
namespace L2
open PySem PySem.Spec PyProof.Rows
section
variable {X:Cx} {K:PySem.W.Frag} {e e1 e2 l:Expr} {te t1 t2 tl:TE} {pos:Pos} {tg:Expr}
end
section
variable {X:Cx}
end
end L2
set_option Elab.async false
set_option linter.all false
set_option maxRecDepth 100000
set_option maxHeartbeats 4000000
namespace L2
open PySem PySem.Spec PyProof.Rows PySem.Builtin PySem.Builtin.Str
section
variable {X:Cx} {K:PySem.W.Frag}
end
section
variable {K:PySem.W.Frag} {D:Addr} {tc:TT} {te:TE} {Q:VK} {rest:St} {H1:Hp}
end
section
variable {X:Cx}
end
end L2
set_option Elab.async false
set_option linter.all false
set_option maxRecDepth 100000
set_option maxHeartbeats 4000000
namespace L2
open PySem PySem.Spec PyProof.Rows PySem.Builtin PySem.Builtin.Str
end L2
set_option Elab.async false
set_option linter.all false
set_option maxRecDepth 100000
set_option maxHeartbeats 4000000
namespace L2
open PySem PySem.Spec PyProof.Rows
section
variable (P:Program) (w:World) (K:PySem.W.Frag) (mg:Str->Option Value) (base:Heap)
end
section
variable {P:Program} {w:World} {K:PySem.W.Frag} {mg:Str->Option Value} {base:Heap} {k:Nat} {C:Addr} {m x:Str} {ps:List Str} {sp:Sp} {K1:List V}
end
section
variable {X:Cx} {k:Nat} {C:Addr} {x m:Str} {ps:List Str} {sp:Sp} {K1:List V} {e o:Expr} {es:List Expr} {ta:TE} {t:TA} {p pos apos:Pos} {E:St->XK}
end
end L2
namespace L2
open PySem PySem.Spec PyProof.Rows PySem.Builtin PySem.Builtin.Str
section
variable {X:Cx} {K:PySem.W.Frag} {o e value:Expr} {f:Str} {pos pos' tpos:Pos} {ta tv:TE}
end
section
variable {P:Program} {w:World} {K:PySem.W.Frag} {mg:Str->Option Value} {base:Heap}
end
section
variable {X:Cx} {k:Nat} {C:Addr} {x kn:Str} {ps:List Str} {sp:Sp} {e ke:Expr} {es:List Expr} {te:TE} {t:TA} {p pos kpos:Pos} {E:St->XK}
end
end L2
set_option Elab.async false
set_option linter.all false
set_option maxRecDepth 100000
set_option maxHeartbeats 4000000
namespace L2
open PySem PySem.Spec PyProof.Rows
section
variable {X:Cx} {pins:List (Addr×Obj)} {σ:St} {H:Hp} {s:Shared} {scope:Scope} {N own:List Str} {caps:List Nat} {fp:List Addr} {C:Nat} {xc:Str}
end
section
variable {M:Model} {A:Around} {E:Value->Shared->Prop} {s:Shared}
end
section
variable {X:Cx} {elt tg iter:Expr} {ifs:List Expr} {scope:Scope} {pos:Pos} {N own:List Str} {caps:List Nat} {wi:TI} {g:TG} {tc:TT} {te:TE} {xc:Str}
end
end L2
set_option Elab.async false
set_option linter.all false
set_option maxRecDepth 100000
set_option maxHeartbeats 4000000
namespace Tim
open PySem PyProof.Rows
def jt:Bool->Keyed->Array Keyed->Nat->Nat->Nat->StateT SortSt Sem (Option Nat):=sortPriv% PySem.Builtin.gallop
def j6 (left:Bool) (key:Keyed) (arr:Array Keyed) (base i:Nat):StateT SortSt Sem (Option Bool):=do
 let x ←elem' arr (base+i)
 if left then lt' x key else return (←lt' key x).map (!·)
theorem Bg (left:Bool) (key:Keyed) (arr:Array Keyed) (base n hint:Nat):jt left key arr base n hint=(do
 let mut lastofs:=0
 let mut ofs:=1
 let mut lo:=0
 let mut hi:=0
 let some right ←j6 left key arr base hint|return none
 if right then
  let maxofs:=n - hint
  for _ in [0:n] do
   if ofs≥maxofs then break
   let some more ←j6 left key arr base (hint+ofs)|return none
   if !more then break
   lastofs:=ofs
   ofs:=2*ofs+1
  lo:=hint+lastofs+1
  hi:=hint+min ofs maxofs
 else
  let maxofs:=hint+1
  for _ in [0:n] do
   if ofs≥maxofs then break
   let some found ←j6 left key arr base (hint - ofs)|return none
   if found then break
   lastofs:=ofs
   ofs:=2*ofs+1
  lo:=hint+1 - min ofs maxofs
  hi:=hint - lastofs
 for _ in [0:n] do
  if lo≥hi then break
  let m:=lo+(hi - lo) / 2
  let some more ←j6 left key arr base m|return none
  if more then lo:=m+1 else hi:=m
 return some hi):=rfl
section
variable {prog:Program} {w:World} {A:Around} {E:Value->Shared->Prop} {s:Shared} {κ:SortKind} {a₀:Array Keyed} {rk:Value->Nat}
structure z6 (prog:Program) (w:World) (A:Around) (s:Shared) (κ:SortKind) (a₀:Array Keyed) (rk:Value->Nat):Prop where
 ask:∀p∈a₀.toList,∀q∈a₀.toList,∀(E:Value->Shared->Prop) (Q:Bool->Shared->Prop),Q (decide (rk p.1<rk q.1)) s->wpAny (model prog w) A (keyLt' κ p.1 q.1) Q E s
def R (rk:Value->Nat) (xs:Array Keyed) (i:Nat):Nat:=match xs[i]? with
 | some p=>rk p.1
 | none=>0
theorem m_ {xs:Array Keyed} {i:Nat} {p:Keyed} (h:xs[i]? = some p):R rk xs i=rk p.1:=by unfold R;rw [h]
theorem eO {xs ys:Array Keyed} {i j:Nat} (h:xs[i]? = ys[j]?):R rk xs i=R rk ys j:=by unfold R;rw [h]
theorem qT {st:SortSt} {p q:Keyed} {Q:Option Bool->SortSt->Prop} (C:z6 prog w A s κ a₀ rk) (hk:kindOf st=κ) (hp:p∈a₀.toList) (hq:q∈a₀.toList) (h:Q (some (decide (rk p.1<rk q.1))) st):
 wpS (model prog w) A E s (lt' p q) Q st:=by
 rw [lt'_eq];refine wpS_bind (wpS_get ?_);rw [hk];refine wpS_bind (wpS_lift (wpAny_attempt (C.ask p hp q hq _ _ ⟨rfl, ?_⟩)));exact wpS_pure h
theorem bC {st:SortSt} {arr:Array Keyed} {i:Nat} {p:Keyed} {Q:Keyed->SortSt->Prop} (hi:arr[i]? = some p) (h:Q p st):wpS (model prog w) A E s (elem' arr i) Q st:=by
 rw [elem'_eq,hi];exact wpS_pure h
def By (left:Bool) (k r:Nat):Bool:=if left then decide (r<k) else !decide (k<r)
theorem jL {st:SortSt} {left:Bool} {key:Keyed} {arr:Array Keyed} {base i:Nat} {Q:Option Bool->SortSt->Prop} (C:z6 prog w A s κ a₀ rk) (hk:kindOf st=κ) (hkey:key∈a₀.toList) (nW:∀p∈arr.toList,p∈a₀.toList)
 (hi:base+i<arr.size) (h:Q (some (By left (rk key.1) (R rk arr (base+i)))) st):wpS (model prog w) A E s (j6 left key arr base i) Q st:=by
 unfold j6;have e:arr[base+i]? = some arr[base+i]:=getElem?_pos arr (base+i) hi;have hm:arr[base+i]∈a₀.toList:=nW _ (by simp);rw [m_ e] at h;refine wpS_bind (bC e ?_);cases left with
 | true=>exact qT C hk hm hkey h
 | false=>exact wpS_bind (qT C hk hkey hm (wpS_pure h))
theorem xP {left:Bool} {k r r':Nat} (h:By left k r=true) (le:r'<=r):By left k r'=true:=by
 unfold By at *;cases left<;>simp at * <;> omega
theorem uh {left:Bool} {k r r':Nat} (h:By left k r=false) (le:r<=r'):By left k r'=false:=by
 unfold By at *;cases left<;>simp at * <;> omega
def Seg (rk:Value->Nat) (xs:Array Keyed) (lo hi:Nat):Prop:=∀i j,lo<=i->i<=j->j<hi->R rk xs i<=R rk xs j
abbrev GSt:=Option (Option Nat)×Nat×Nat
theorem pP {st:SortSt} {left:Bool} {key:Keyed} {arr:Array Keyed} {base n lo hi:Nat} {Q:GSt->SortSt->Prop} (C:z6 prog w A s κ a₀ rk) (hk:kindOf st=κ) (hkey:key∈a₀.toList) (nW:∀p∈arr.toList,p∈a₀.toList)
 (hn:base+n<=arr.size) (hs:Seg rk arr base (base+n)) (hlh:lo<=hi) (hhn:hi<=n)
 (h1:∀i,i<lo->By left (rk key.1) (R rk arr (base+i))=true) (h2:∀i,hi<=i->i<n->By left (rk key.1) (R rk arr (base+i))=false)
 (h:∀k l,k<=n->(∀i,i<k->By left (rk key.1) (R rk arr (base+i))=true)->(∀i,k<=i->i<n->By left (rk key.1) (R rk arr (base+i))=false)->Q (none,l,k) st):
 wpS (model prog w) A E s (forIn [0:n] ((none,lo,hi):GSt) fun _ __s=>
       if __s.snd.fst≥__s.snd.snd then pure (ForInStep.done (none,__s.snd.fst,__s.snd.snd))
       else do
        let __x ←j6 left key arr base (__s.snd.fst+(__s.snd.snd - __s.snd.fst) / 2)
        match __x with
         | some more=>
           if more=true then
            pure (ForInStep.yield (none,__s.snd.fst+(__s.snd.snd - __s.snd.fst) / 2+1,__s.snd.snd))
           else pure (ForInStep.yield (none,__s.snd.fst,__s.snd.fst+(__s.snd.snd - __s.snd.fst) / 2))
         | _=>pure (ForInStep.done (some none,__s.snd.fst,__s.snd.snd))) Q st:=by
 refine wpS_forRange (I:=fun x c st'=>st'=st /\ ∃lo hi,c=(none,lo,hi)/\lo<=hi/\hi<=n/\hi - lo<=n - x/\(∀i,i<lo->By left (rk key.1) (R rk arr (base+i))=true)/\(∀i,hi<=i->i<n->By left (rk key.1) (R rk arr (base+i))=false)) ?step ?fin ⟨rfl,lo,hi,rfl,hlh,hhn,by omega,h1,h2⟩
 case fin=>
  rintro c st' ⟨rfl,lo,hi,rfl,a1,a2,a3,a4,a5⟩;have:lo=hi:=by omega
  subst this;exact h _ _ a2 a4 a5
 case step=>
  rintro x c st' _ hx ⟨rfl,lo,hi,rfl,a1,a2,a3,a4,a5⟩;dsimp only
  by_cases hge:lo≥hi
  ·rw [if_pos hge]
   have:lo=hi:=by omega
   subst this;exact wpS_pure (h _ _ a2 a4 a5)
  ·rw [if_neg hge]
   refine wpS_bind (jL C hk hkey nW (by omega) ?_);dsimp only;cases hb:By left (rk key.1) (R rk arr (base+(lo+(hi - lo) / 2))) with
   | true=>
     simp only [if_true];refine wpS_pure ⟨rfl,_,_,rfl,by omega,a2,by omega,fun i hi'=> ?_,a5⟩;exact xP hb (hs _ _ (by omega) (by omega) (by omega))
   | false=>
     simp only [Bool.false_eq_true,if_false];refine wpS_pure ⟨rfl,_,_,rfl,by omega,by omega,by omega,a4,fun i hi' hin=> ?_⟩;exact uh hb (hs _ _ (by omega) (by omega) (by omega))
theorem gB {st:SortSt} {left:Bool} {key:Keyed} {arr:Array Keyed} {base n hint:Nat} {Q:Option Nat->SortSt->Prop} (C:z6 prog w A s κ a₀ rk) (hk:kindOf st=κ) (hkey:key∈a₀.toList) (nW:∀p∈arr.toList,p∈a₀.toList)
 (hn:base+n<=arr.size) (hh:hint<n) (hs:Seg rk arr base (base+n))
 (h:∀k,k<=n->(∀i,i<k->By left (rk key.1) (R rk arr (base+i))=true)->(∀i,k<=i->i<n->By left (rk key.1) (R rk arr (base+i))=false)->Q (some k) st):
 wpS (model prog w) A E s (jt left key arr base n hint) Q st:=by
 rw [Bg];refine wpS_bind (jL C hk hkey nW (by omega) ?_);dsimp only;cases hr:By left (rk key.1) (R rk arr (base+hint)) with
 | true=>
   simp only [if_true]
   refine wpS_bind (wpS_mono (wpS_forRange (I:=fun x c st'=>st'=st /\ ∃l o,c=(none,l,o)/\l<o/\x<o/\hint+l<n/\By left (rk key.1) (R rk arr (base+(hint+l)))=true)
    (Q:=fun c st'=>st'=st /\ ∃l o,c=(none,l,o)/\l<o/\hint+l<n/\By left (rk key.1) (R rk arr (base+(hint+l)))=true/\(o<n - hint->By left (rk key.1) (R rk arr (base+(hint+o)))=false)) ?step ?fin ⟨rfl,0,1,rfl,by omega,by omega,by omega,hr⟩) ?post)
   case fin=>
    rintro c st' ⟨rfl,l,o,rfl,a1,a2,a3,a4⟩;exact ⟨rfl,l,o,rfl,a1,a3,a4,fun z=>by omega⟩
   case step=>
    rintro x c st' _ hx ⟨rfl,l,o,rfl,a1,a2,a3,a4⟩;dsimp only
    by_cases hge:o≥n - hint
    ·rw [if_pos hge]
     exact wpS_pure ⟨rfl,l,o,rfl,a1,a3,a4,fun z=>by omega⟩
    ·rw [if_neg hge]
     refine wpS_bind (jL C hk hkey nW (by omega) ?_);dsimp only;cases hb:By left (rk key.1) (R rk arr (base+(hint+o))) with
     | true=>
       simp only [Bool.not_true,Bool.false_eq_true,if_false];exact wpS_pure ⟨rfl,o,2*o+1,rfl,by omega,by omega,by omega,hb⟩
     | false=>
       simp only [Bool.not_false,if_true];exact wpS_pure ⟨rfl,l,o,rfl,a1,a3,a4,fun _=>hb⟩
   case post=>
    rintro c st' ⟨rfl,l,o,rfl,a1,a2,a3,a4⟩;dsimp only;refine wpS_bind (pP C hk hkey nW hn hs (by omega) (by omega) (fun i hi=> ?_) (fun i hi hin=> ?_) fun k l' b1 b2 b3=>wpS_pure (h k b1 b2 b3))
    ·exact xP a3 (hs _ _ (by omega) (by omega) (by omega))
    ·exact uh (a4 (by omega)) (hs _ _ (by omega) (by omega) (by omega))
 | false=>
   simp only [Bool.false_eq_true,if_false]
   refine wpS_bind (wpS_mono (wpS_forRange (I:=fun x c st'=>st'=st /\ ∃l o,c=(none,l,o)/\l<o/\x<o/\l<=hint/\By left (rk key.1) (R rk arr (base+(hint - l)))=false)
    (Q:=fun c st'=>st'=st /\ ∃l o,c=(none,l,o)/\l<o/\l<=hint/\By left (rk key.1) (R rk arr (base+(hint - l)))=false/\(o<hint+1->By left (rk key.1) (R rk arr (base+(hint - o)))=true)) ?step ?fin ⟨rfl,0,1,rfl,by omega,by omega,by omega,hr⟩) ?post)
   case fin=>
    rintro c st' ⟨rfl,l,o,rfl,a1,a2,a3,a4⟩;exact ⟨rfl,l,o,rfl,a1,a3,a4,fun z=>by omega⟩
   case step=>
    rintro x c st' _ hx ⟨rfl,l,o,rfl,a1,a2,a3,a4⟩;dsimp only
    by_cases hge:o≥hint+1
    ·rw [if_pos hge]
     exact wpS_pure ⟨rfl,l,o,rfl,a1,a3,a4,fun z=>by omega⟩
    ·rw [if_neg hge]
     refine wpS_bind (jL C hk hkey nW (by omega) ?_);dsimp only;cases hb:By left (rk key.1) (R rk arr (base+(hint - o))) with
     | true=>
       simp only [if_true];exact wpS_pure ⟨rfl,l,o,rfl,a1,a3,a4,fun _=>hb⟩
     | false=>
       simp only [Bool.false_eq_true,if_false];exact wpS_pure ⟨rfl,o,2*o+1,rfl,by omega,by omega,by omega,hb⟩
   case post=>
    rintro c st' ⟨rfl,l,o,rfl,a1,a2,a3,a4⟩;dsimp only;refine wpS_bind (pP C hk hkey nW hn hs (by omega) (by omega) (fun i hi=> ?_) (fun i hi hin=> ?_) fun k l' b1 b2 b3=>wpS_pure (h k b1 b2 b3))
    ·exact xP (a4 (by omega)) (hs _ _ (by omega) (by omega) (by omega))
    ·exact uh a3 (hs _ _ (by omega) (by omega) (by omega))
end
end Tim
set_option Elab.async false
set_option linter.all false
set_option maxRecDepth 100000
set_option maxHeartbeats 4000000
namespace Tim
open PySem PyProof.Rows
def dB:Nat->StateT SortSt Sem Unit:=sortPriv% PySem.Builtin.setMinGallop
theorem oW (g:Nat):dB g=modify fun s=>SortSt.mk' (kindOf s) (arrOf s) (pendingOf s) g (failedOf s):=rfl
def rZ:Array Keyed->Array Keyed->StateT SortSt Sem (Array Keyed):=sortPriv% PySem.Builtin.mergeLo
def su:Array Keyed->Array Keyed->StateT SortSt Sem (Array Keyed):=sortPriv% PySem.Builtin.mergeHi
abbrev eV (a b out:Array Keyed) (ia ib:Nat):Array Keyed:=out++a.extract ia a.size++b.extract ib b.size
abbrev mW (a b out:Array Keyed) (ia ib:Nat):Array Keyed:=out++b.extract ib b.size++a.extract ia a.size
theorem yL (a b:Array Keyed):rZ a b=(do
 rule "list.sort.merge-lo"
 let total:=a.size+b.size
 let mut out:Array Keyed:= #[←elem' b 0]
 let mut ia:=0
 let mut ib:=1
 if ib==b.size then return eV a b out ia ib
 if ia+1==a.size then return mW a b out ia ib
 let mut minGallop:=gallopOf (←get)
 for _ in [0:total] do
  let mut acount:=0
  let mut bcount:=0
  for _ in [0:total] do
   let some bWins ←lt' (←elem' b ib) (←elem' a ia)|return eV a b out ia ib
   if bWins then
    out:=out.push (←elem' b ib);ib:=ib+1;bcount:=bcount+1;acount:=0
    if ib==b.size then return eV a b out ia ib
    if bcount≥minGallop then break
   else
    out:=out.push (←elem' a ia);ia:=ia+1;acount:=acount+1;bcount:=0
    if ia+1==a.size then return mW a b out ia ib
    if acount≥minGallop then break
  rule "list.sort.gallop"
  minGallop:=minGallop+1
  for _ in [0:total] do
   if minGallop>1 then minGallop:=minGallop - 1
   dB minGallop
   let some k ←jt false (←elem' b ib) a ia (a.size - ia) 0|return eV a b out ia ib
   acount:=k
   if k>0 then
    out:=out++a.extract ia (ia+k);ia:=ia+k
    if ia+1==a.size then return mW a b out ia ib
    if ia==a.size then return eV a b out ia ib
   out:=out.push (←elem' b ib);ib:=ib+1
   if ib==b.size then return eV a b out ia ib
   let some k ←jt true (←elem' a ia) b ib (b.size - ib) 0|return eV a b out ia ib
   bcount:=k
   if k>0 then
    out:=out++b.extract ib (ib+k);ib:=ib+k
    if ib==b.size then return eV a b out ia ib
   out:=out.push (←elem' a ia);ia:=ia+1
   if ia+1==a.size then return mW a b out ia ib
   if acount<7&&bcount<7 then break
  minGallop:=minGallop+1
  dB minGallop
 unsupported "internal:list.sort.merge-bound"):=rfl
section
variable {rk:Value->Nat} {a b out:Array Keyed} {ia ib k:Nat}
def Le (rk:Value->Nat) (x y:Keyed):Prop:=rk x.1<=rk y.1
def Gs (rk:Value->Nat) (l:List Keyed):Prop:=l.Pairwise (Le rk)
structure MI (rk:Value->Nat) (a b out:Array Keyed) (ia ib:Nat):Prop where
 perm:(out.toList++(a.toList.drop ia++b.toList.drop ib)).Perm (a.toList++b.toList)
 sa:Gs rk (out.toList++a.toList.drop ia)
 sb:Gs rk (out.toList++b.toList.drop ib)
structure Mg (rk:Value->Nat) (a b r:Array Keyed):Prop where
 perm:r.toList.Perm (a.toList++b.toList)
 mQ:Gs rk r.toList
theorem bW (a:Array Keyed) (i j:Nat):(a.extract i j).toList=(a.toList.drop i).take (j - i):=by
 rw [Array.toList_extract,List.extract_eq_take_drop]
theorem sW (l:List Keyed) (i k:Nat):l.drop i=(l.drop i).take k++l.drop (i+k):=by
 rw [←List.drop_drop,List.take_append_drop]
theorem gk {a:Array Keyed} {i:Nat} (h:i<a.size):R rk a i=rk (a[i]).1:=m_ (getElem?_pos a i h)
theorem Jd {a:Array Keyed} {x:Keyed} (h:x∈a.toList.drop ia):∃j,ia<=j/\j<a.size/\R rk a j=rk x.1:=by
 obtain ⟨j,hj,e⟩:=List.getElem_of_mem h;rw [List.length_drop,Array.length_toList] at hj;rw [List.getElem_drop,Array.getElem_toList] at e;exact ⟨ia+j,by (clear e hj;omega),by (clear e;omega),by rw [gk (by (clear e;omega)),e]⟩
theorem h_ {a:Array Keyed} {x:Keyed} (h:x∈(a.toList.drop ia).take k):∃j,j<k/\ia+j<a.size/\R rk a (ia+j)=rk x.1:=by
 obtain ⟨j,hj,e⟩:=List.getElem_of_mem h;rw [List.length_take,List.length_drop,Array.length_toList] at hj;rw [List.getElem_take,List.getElem_drop,Array.getElem_toList] at e;exact ⟨j,by (clear e;omega),by (clear e;omega),by rw [gk (by (clear e;omega)),e]⟩
theorem g8 {x y:List Keyed}:Gs rk (x++y)↔Gs rk x/\Gs rk y /\ ∀p∈x,∀q∈y,rk p.1<=rk q.1:=List.pairwise_append
theorem MI.pF (m:MI rk a b out ia ib) (hle:∀i,i<k->ib+i<b.size -> ∀j,ia<=j->j<a.size->R rk b (ib+i)<=R rk a j):MI rk a b (out++b.extract ib (ib+k)) ia (ib+k):=by
 have e:(out++b.extract ib (ib+k)).toList=out.toList++(b.toList.drop ib).take k:=by rw [Array.toList_append,bW];congr 2;omega
 have sp:=sW b.toList ib k;refine ⟨?_, ?_, ?_⟩
 ·rw [e]
  refine List.Perm.trans ?_ m.perm;rw [List.append_assoc];refine List.Perm.append_left _ ?_;refine List.Perm.trans ?_ (List.Perm.of_eq (congrArg (a.toList.drop ia ++ ·) sp.symm));rw [←List.append_assoc];refine List.Perm.trans (List.Perm.append_right _ (List.perm_append_comm)) (List.Perm.of_eq (List.append_assoc _ _ _))
 ·rw [e,List.append_assoc]
  have h1:=g8.mp m.sa;have h2:=m.sb;rw [sp] at h2;have h3:=g8.mp h2;have h4:=g8.mp h3.2.1;refine g8.mpr ⟨h1.1,g8.mpr ⟨h4.1,h1.2.1,fun p hp q hq=> ?_⟩,fun p hp q hq=> ?_⟩
  ·obtain ⟨i,i1,i2,i3⟩:=h_ (rk:=rk) hp
   obtain ⟨j,j1,j2,j3⟩:=Jd (rk:=rk) hq;rw [←i3,←j3];exact hle i i1 i2 j j1 j2
  ·rcases List.mem_append.mp hq with hq|hq
   ·exact h3.2.2 p hp q (List.mem_append_left _ hq)
   ·exact h1.2.2 p hp q hq
 ·rw [e,List.append_assoc,←sp]
  exact m.sb
theorem MI.swap (m:MI rk a b out ia ib):MI rk b a out ib ia:=⟨(List.Perm.append_left _ List.perm_append_comm).trans (m.perm.trans List.perm_append_comm),m.sb,m.sa⟩
theorem MI.pG (m:MI rk a b out ia ib) (hle:∀i,i<k->ia+i<a.size -> ∀j,ib<=j->j<b.size->R rk a (ia+i)<=R rk b j):MI rk a b (out++a.extract ia (ia+k)) (ia+k) ib:=(m.swap.pF hle).swap
theorem yx (h:ib<b.size):out.push b[ib]=out++b.extract ib (ib+1):=by
 apply Array.toList_inj.mp;rw [Array.toList_push,Array.toList_append,bW];congr 1;rw [show ib+1 - ib=1 by (clear h;omega),List.drop_eq_getElem_cons (by rw [Array.length_toList];exact h)];rfl
theorem MI.rJ (m:MI rk a b out ia ib) (h:ib<b.size) (hle:∀j,ia<=j->j<a.size->R rk b ib<=R rk a j):MI rk a b (out.push b[ib]) ia (ib+1):=by
 rw [yx h];refine m.pF (k:=1) fun i hi hb j j1 j2=> ?_;have:i=0:=by (clear j2 j1 hb h;omega)
 subst this;exact hle j j1 j2
theorem MI.rK (m:MI rk a b out ia ib) (h:ia<a.size) (hle:∀j,ib<=j->j<b.size->R rk a ia<=R rk b j):MI rk a b (out.push a[ia]) (ia+1) ib:=(m.swap.rJ h hle).swap
theorem MI.done (m:MI rk a b out ia ib) (h:ia=a.size\/ib=b.size):Mg rk a b (eV a b out ia ib):=by
 have e:(eV a b out ia ib).toList=out.toList++(a.toList.drop ia++b.toList.drop ib):=by
  unfold eV;rw [Array.toList_append,Array.toList_append,bW,bW,List.append_assoc];congr 2
  ·rw [List.take_of_length_le];rw [List.length_drop,Array.length_toList];exact Nat.le_refl _
  ·rw [List.take_of_length_le];rw [List.length_drop,Array.length_toList];exact Nat.le_refl _
 refine ⟨by rw [e];exact m.perm, ?_⟩;rw [e];rcases h with h|h
 ·rw [h,show a.toList.drop a.size=[] by rw [List.drop_eq_nil_of_le];rw [Array.length_toList];exact Nat.le_refl _,List.nil_append]
  exact m.sb
 ·rw [h,show b.toList.drop b.size=[] by rw [List.drop_eq_nil_of_le];rw [Array.length_toList];exact Nat.le_refl _,List.append_nil]
  exact m.sa
theorem MI.last (m:MI rk a b out ia ib) (h:∀i j,ib<=i->i<b.size->ia<=j->j<a.size->R rk b i<=R rk a j):Mg rk a b (mW a b out ia ib):=by
 have m2:=m.pF (k:=b.size - ib) fun i hi hb j j1 j2=>h _ _ (by (clear j2 j1 hb hi;omega)) hb j1 j2
 have e:(mW a b out ia ib)=eV a b (out++b.extract ib (ib+(b.size - ib))) ia (ib+(b.size - ib)):=by
  unfold eV mW;apply Array.toList_inj.mp;simp only [Array.toList_append,bW]
  have e1:(b.toList.drop (ib+(b.size - ib))).take (b.size - (ib+(b.size - ib)))=[]:=by
   rw [List.take_eq_nil_iff];left;omega
  rw [e1,List.append_nil];congr 3
  (clear e1;omega)
 rw [e]
 by_cases hb:ib<=b.size
 ·exact m2.done (.inr (by (clear e;omega)))
 ·refine ⟨?_, ?_⟩
  ·have:=m2.perm
   have e2:(eV a b (out++b.extract ib (ib+(b.size - ib))) ia (ib+(b.size - ib))).toList=(out++b.extract ib (ib+(b.size - ib))).toList++(a.toList.drop ia++b.toList.drop (ib+(b.size - ib))):=by
    unfold eV;rw [Array.toList_append,Array.toList_append,bW,bW,List.append_assoc];congr 2
    ·rw [List.take_of_length_le];rw [List.length_drop,Array.length_toList];exact Nat.le_refl _
    ·rw [List.take_of_length_le];rw [List.length_drop,Array.length_toList];exact Nat.le_refl _
   rw [e2];exact this
  ·unfold eV
   rw [Array.toList_append,Array.toList_append,bW (a:=b) (i:=ib+(b.size - ib)),show b.size - (ib+(b.size - ib))=0 by (clear hb e;omega),List.take_zero,List.append_nil,bW (a:=a)];rw [List.take_of_length_le (by rw [List.length_drop,Array.length_toList];exact Nat.le_refl _)];exact m2.sa
end
end Tim
set_option Elab.async false
set_option linter.all false
set_option maxRecDepth 100000
set_option maxHeartbeats 4000000
namespace Tim
open PySem PyProof.Rows
section
variable {prog:Program} {w:World} {A:Around} {E:Value->Shared->Prop} {s:Shared} {κ:SortKind} {a₀:Array Keyed} {rk:Value->Nat}
structure xV (st st':SortSt):Prop where
 k:kindOf st'=kindOf st
 a:arrOf st'=arrOf st
 p:pendingOf st'=pendingOf st
 f:failedOf st'=failedOf st
theorem xV.refl (st:SortSt):xV st st:=⟨rfl,rfl,rfl,rfl⟩
theorem xV.trans {a b c:SortSt} (h:xV a b) (g:xV b c):xV a c:=⟨g.k.trans h.k,g.a.trans h.a,g.p.trans h.p,g.f.trans h.f⟩
theorem lH {st:SortSt} {g:Nat} {Q:Unit->SortSt->Prop} (h:∀st',xV st st'->Q () st'):wpS (model prog w) A E s (dB g) Q st:=by
 rw [oW];exact wpS_modify (h _ ⟨rfl,rfl,rfl,rfl⟩)
theorem aL {α:Type} {c:Prop} [Decidable c] {x y:StateT SortSt Sem α} {Q:α->SortSt->Prop} {st:SortSt} (h1:c->wpS (model prog w) A E s x Q st) (h2:¬c->wpS (model prog w) A E s y Q st):wpS (model prog w) A E s (if c then x else y) Q st:=by
 by_cases hc:c
 ·rw [if_pos hc];exact h1 hc
 ·rw [if_neg hc];exact h2 hc
theorem SM {k r:Nat} (h:By true k r=true):r<k:=by simpa [By] using h
theorem N_ {k r:Nat} (h:By false k r=true):r<=k:=by simpa [By] using h
theorem z7 {k r:Nat} (h:By true k r=false):k<=r:=by simpa [By] using h
theorem KH {k r:Nat} (h:By false k r=false):k<r:=by simpa [By] using h
theorem xX {st:SortSt} {a b:Array Keyed} {Q:Array Keyed->SortSt->Prop} (C:z6 prog w A s κ a₀ rk) (hk:kindOf st=κ) (ha:∀p∈a.toList,p∈a₀.toList) (hb:∀p∈b.toList,p∈a₀.toList)
 (ha1:1<=a.size) (hb1:1<=b.size) (sa:Seg rk a 0 a.size) (sb:Seg rk b 0 b.size) (h0:R rk b 0<=R rk a 0) (hl:R rk b (b.size - 1)<=R rk a (a.size - 1))
 (h:∀r st',xV st st'->Mg rk a b r->Q r st'):wpS (model prog w) A E s (rZ a b) Q st:=by
 have Vm:∀i,i<b.size -> ∃p,b[i]? = some p/\p∈a₀.toList/\R rk b i=rk p.1:=fun i hi=>⟨b[i],getElem?_pos b i hi,hb _ (by simp),gk hi⟩;have Ou:∀i,i<a.size -> ∃p,a[i]? = some p/\p∈a₀.toList/\R rk a i=rk p.1:=fun i hi=>⟨a[i],getElem?_pos a i hi,ha _ (by simp),gk hi⟩
 have mid:∀i j,i<b.size->j+1=a.size->R rk b i<=R rk a j:=fun i j hi hj=>by
  have:=sb i (b.size - 1) (by (clear hj hi hl h0 hb1 ha1 hk;lia)) (by (clear hj hl h0 hb1 ha1 hk;lia)) (by (clear hj hi hl h0 ha1 hk;lia));have e:a.size - 1=j:=by (clear this hi hl h0 hb1 ha1 hk;lia)
  rw [e] at hl
  (clear e hj hi h0 hb1 ha1 hk;lia)
 have m0:MI rk a b #[b[0]] 0 1:=by
  have m:MI rk a b #[] 0 0:=by
   refine ⟨by simp, ?_, ?_⟩
   ·show Gs rk ([]++a.toList.drop 0)
    rw [List.nil_append,List.drop_zero];refine List.pairwise_iff_getElem.mpr fun i j hi hj hij=> ?_;rw [Array.length_toList] at hi hj;have:=sa i j (by (clear hij hj hi hl h0 hb1 ha1 hk;lia)) (by (clear hj hi hl h0 hb1 ha1 hk;lia)) hj;rw [gk hi,gk hj] at this;simpa [Le] using this
   ·show Gs rk ([]++b.toList.drop 0)
    rw [List.nil_append,List.drop_zero];refine List.pairwise_iff_getElem.mpr fun i j hi hj hij=> ?_;rw [Array.length_toList] at hi hj;have:=sb i j (by (clear hij hj hi hl h0 hb1 ha1 hk;lia)) (by (clear hj hi hl h0 hb1 ha1 hk;lia)) hj;rw [gk hi,gk hj] at this;simpa [Le] using this
  exact m.rJ (by (clear hl h0 ha1 hk;lia)) fun j _ j2=>Nat.le_trans h0 (sa 0 j (by (clear j2 hl h0 hb1 ha1 hk;lia)) (by (clear j2 hl h0 hb1 ha1 hk;lia)) j2)
 rw [yL];refine wpS_bind (wpS_lift (wpAny_rule ⟨rfl, ?_⟩));refine wpS_bind (bC (p:=b[0]) (getElem?_pos b 0 (by (clear hl h0 ha1 hk;lia))) ?_);dsimp only;refine aL (fun e=> ?_) (fun e=> ?_)
 ·have e:1=b.size:=by simpa using e
  exact wpS_pure (h _ _ (.refl _) (m0.done (.inr e)))
 have eb:¬1=b.size:=by simpa using e
 refine aL (fun e=> ?_) (fun e=> ?_)
 ·have e:1=a.size:=by simpa using e
  exact wpS_pure (h _ _ (.refl _) (m0.last fun i j _ hi _ hj=>mid i j hi (by (clear hi eb hl h0 ha1 hk;lia))))
 have ea:¬1=a.size:=by simpa using e
 refine wpS_bind (wpS_get ?_)
 refine wpS_bind (wpS_mono (wpS_forRange (I:=fun x c st'=>xV st st' /\ ∃out ia ib mg,c=(none,out,ia,ib,mg)/\MI rk a b out ia ib/\ia+2<=a.size/\ib+1<=b.size/\(a.size - ia)+(b.size - ib)+x<=a.size+b.size)
  (Q:=fun c st'=>xV st st' /\ ∃r cc,c=(some r,cc)/\Mg rk a b r) ?step ?fin ⟨.refl _,_,_,_,_,rfl,m0,by (clear e eb hl h0 hk;lia),by (clear ea e hl h0 ha1 hk;lia),by (clear ea e eb hl h0 ha1 hk;lia)⟩) ?post)
 case post=>
  rintro c st' ⟨kp,r,cc,rfl,m⟩;exact wpS_pure (h _ _ kp m)
 case fin=>
  rintro c st' ⟨kp,out,ia,ib,mg,rfl,m,a1,b1,le⟩
  (clear b1 ea e eb hl h0 ha1 hk;lia)
 case step=>
  rintro x c st' _ hx ⟨kp,out,ia,ib,mg,rfl,m,a1,b1,le⟩;dsimp only
  refine wpS_bind (wpS_mono (wpS_forRange (I:=fun y c st2=>st2=st' /\ ∃out ia ib ac bc,c=(none,out,ia,ib,ac,bc)/\MI rk a b out ia ib/\ia+2<=a.size/\ib+1<=b.size/\(a.size - ia)+(b.size - ib)+x+y<=a.size+b.size)
   (Q:=fun c st2=>st2=st'/\((∃r cc,c=(some r,cc)/\Mg rk a b r) \/ ∃out ia ib ac bc,c=(none,out,ia,ib,ac,bc)/\MI rk a b out ia ib/\ia+2<=a.size/\ib+1<=b.size/\(a.size - ia)+(b.size - ib)+x+1<=a.size+b.size)) ?step1 ?RQ ⟨rfl,_,_,_,_,_,rfl,m,a1,b1,by (clear b1 a1 hx ea e eb hl h0 ha1 hk;lia)⟩) ?HY)
  case RQ=>
   rintro c st2 ⟨rfl,out,ia,ib,ac,bc,rfl,m,a1,b1,le⟩
   (clear b1 hx ea e eb hl h0 ha1 hk;lia)
  case step1=>
   rintro y c st2 _ hy ⟨rfl,out,ia,ib,ac,bc,rfl,m,a1,b1,le⟩;dsimp only;obtain ⟨p,ep,mp,rp⟩:=Vm ib (by (clear le a1 hy hx ea e eb hl h0 ha1 hk;lia));obtain ⟨q,eq,mq,rq⟩:=Ou ia (by (clear rp ep le b1 hy hx ea e eb hl h0 ha1 hk;lia));refine wpS_bind (bC ep (wpS_bind (bC eq (wpS_bind (qT C (kp.k.trans hk) mp mq ?_)))));dsimp only;have bJ:p=b[ib]:=by rw [getElem?_pos b ib (by (clear rq eq rp ep le a1 hy hx ea e eb hl h0 ha1 hk;lia))] at ep;exact (Option.some.inj ep).symm
   have fP:q=a[ia]:=by rw [getElem?_pos a ia (by (clear bJ rq eq rp ep le b1 hy hx ea e eb hl h0 ha1 hk;lia))] at eq;exact (Option.some.inj eq).symm
   refine aL (fun lt=> ?_) (fun lt=> ?_)
   ·have lt:R rk b ib<R rk a ia:=by rw [rp,rq];simpa using lt
    have m2:MI rk a b (out.push p) ia (ib+1):=by
     rw [bJ];exact m.rJ (by (clear lt fP bJ rq eq rp ep le a1 hy hx ea e eb hl h0 ha1 hk;lia)) fun j j1 j2=>by have:=sa ia j (by (clear j2 j1 lt fP bJ rq eq rp ep le b1 a1 hy hx ea e eb hl h0 ha1 hk;lia)) j1 j2;(clear j2 j1 fP bJ rq eq rp ep le b1 a1 hy hx ea e eb hl h0 ha1 hk;lia)
    refine wpS_bind (bC ep ?_);refine aL (fun e=> ?_) (fun e=> ?_)
    ·exact wpS_pure ⟨rfl,.inl ⟨_,_,rfl,m2.done (.inr (by simpa using e))⟩⟩
    have e:¬ib+1=b.size:=by simpa using e
    refine aL (fun _=> ?_) (fun _=> ?_)
    ·exact wpS_pure ⟨rfl,.inr ⟨_,_,_,_,_,rfl,m2,a1,by (clear lt fP bJ rq eq rp ep le a1 hy hx ea eb hl h0 ha1 hk;lia),by (clear e lt fP bJ rq eq rp ep a1 hy hx ea eb hl h0 ha1 hk;lia)⟩⟩
    ·exact wpS_pure ⟨rfl,_,_,_,_,_,rfl,m2,a1,by (clear lt fP bJ rq eq rp ep le a1 hy hx ea eb hl h0 ha1 hk;lia),by (clear e lt fP bJ rq eq rp ep a1 hy hx ea eb hl h0 ha1 hk;lia)⟩
   ·have lt:R rk a ia<=R rk b ib:=by rw [rp,rq];simpa using lt
    have m2:MI rk a b (out.push q) (ia+1) ib:=by
     rw [fP];exact m.rK (by (clear lt fP bJ rq eq rp ep le b1 hy hx ea e eb hl h0 ha1 hk;lia)) fun j j1 j2=>by have:=sb ib j (by (clear j2 j1 lt fP bJ rq eq rp ep le b1 a1 hy hx ea e eb hl h0 ha1 hk;lia)) j1 j2;(clear j2 j1 fP bJ rq eq rp ep le b1 a1 hy hx ea e eb hl h0 ha1 hk;lia)
    refine wpS_bind (bC eq ?_);refine aL (fun e=> ?_) (fun e=> ?_)
    ·have e:ia+1+1=a.size:=by simpa using e
     exact wpS_pure ⟨rfl,.inl ⟨_,_,rfl,m2.last fun i j _ hi _ hj=>mid i j hi (by (clear hi lt fP bJ rq eq rp ep le b1 a1 hy hx ea eb hl h0 ha1 hk;lia))⟩⟩
    have e:¬ia+1+1=a.size:=by simpa using e
    refine aL (fun _=> ?_) (fun _=> ?_)
    ·exact wpS_pure ⟨rfl,.inr ⟨_,_,_,_,_,rfl,m2,by (clear lt fP bJ rq eq rp ep le b1 hy hx ea eb hl h0 ha1 hk;lia),b1,by (clear e lt fP bJ rq eq rp ep b1 hy hx ea eb hl h0 ha1 hk;lia)⟩⟩
    ·exact wpS_pure ⟨rfl,_,_,_,_,_,rfl,m2,by (clear lt fP bJ rq eq rp ep le b1 hy hx ea eb hl h0 ha1 hk;lia),b1,by (clear e lt fP bJ rq eq rp ep b1 hy hx ea eb hl h0 ha1 hk;lia)⟩
  case HY=>
   rintro c st2 ⟨rfl,(⟨r,cc,rfl,mr⟩|⟨out,ia,ib,ac,bc,rfl,m,a1,b1,le⟩)⟩
   ·exact wpS_pure ⟨kp,r,_,rfl,mr⟩
   dsimp only;refine wpS_bind (wpS_lift (wpAny_rule ⟨rfl, ?_⟩))
   refine wpS_bind (wpS_mono (wpS_forRange (I:=fun y c st3=>xV st st3 /\ ∃out ia ib mg ac bc,c=(none,out,ia,ib,mg,ac,bc)/\MI rk a b out ia ib/\ia+2<=a.size/\ib+1<=b.size/\(a.size - ia)+(b.size - ib)+x+1+y<=a.size+b.size)
    (Q:=fun c st3=>xV st st3/\((∃r cc,c=(some r,cc)/\Mg rk a b r) \/ ∃out ia ib mg ac bc,c=(none,out,ia,ib,mg,ac,bc)/\MI rk a b out ia ib/\ia+2<=a.size/\ib+1<=b.size/\(a.size - ia)+(b.size - ib)+x+1<=a.size+b.size)) ?G8 ?fin2 ⟨kp,_,_,_,_,_,_,rfl,m,a1,b1,by (clear b1 a1 hx ea e eb hl h0 ha1 hk;lia)⟩) ?post2)
   case fin2=>
    rintro c st3 ⟨z8,out,ia,ib,mg,ac,bc,rfl,m,a1,b1,le⟩
    (clear b1 a1 hx ea e eb hl h0 ha1 hk;lia)
   case post2=>
    rintro c st3 ⟨z8,(⟨r,cc,rfl,mr⟩|⟨out,ia,ib,mg,ac,bc,rfl,m,a1,b1,le⟩)⟩
    ·exact wpS_pure ⟨z8,r,_,rfl,mr⟩
    dsimp only;refine wpS_bind (lH fun kW k4=>wpS_pure ⟨z8.trans k4,_,_,_,_,rfl,m,a1,b1,by (clear b1 a1 hx ea e eb hl h0 ha1 hk;lia)⟩)
   case G8=>
    rintro y c st3 _ hy ⟨z8,out,ia,ib,mg,ac,bc,rfl,m,a1,b1,le⟩;dsimp only;refine aL (fun _=> ?_) (fun _=> ?_)
    all_goals
     refine wpS_bind (lH fun kW k4=> ?_);have wC:=z8.trans k4;obtain ⟨p,ep,mp,rp⟩:=Vm ib (by (clear le a1 hy hx ea e eb hl h0 ha1 hk;lia));have bJ:p=b[ib]:=by rw [getElem?_pos b ib (by (clear rp ep le a1 hy hx ea e eb hl h0 ha1 hk;lia))] at ep;exact (Option.some.inj ep).symm
     refine wpS_bind (bC ep (wpS_bind (gB C (wC.k.trans hk) mp ha (by (clear bJ rp ep le b1 hy hx ea e eb hl h0 ha1 hk;lia)) (by (clear bJ rp ep le b1 hy hx ea e eb hl h0 ha1 hk;lia)) (fun i j h1 h2 h3=>sa i j (by (clear h3 h2 h1 bJ rp ep le b1 a1 hy hx ea e eb hl h0 ha1 hk;lia)) h2 (by (clear h2 h1 bJ rp ep le b1 hy hx ea e eb hl h0 ha1 hk;lia))) fun k k1 k2 k3=> ?_)));dsimp only
     have mA:MI rk a b (out++a.extract ia (ia+k)) (ia+k) ib:=m.pG (k:=k) fun i hi hs j j1 j2=>by
      have e1:=N_ (k2 i hi);have e2:=sb ib j (by (clear e1 j2 j1 hs hi k1 bJ rp ep le b1 a1 hy hx ea e eb hl h0 ha1 hk;lia)) j1 j2;rw [rp] at e2
      (clear j2 j1 hs hi k1 bJ rp ep le b1 a1 hy hx ea e eb hl h0 ha1 hk;lia)
     have nxt:∀j,ia+k<=j->j<a.size->R rk b ib<=R rk a j:=fun j j1 j2=>by
      have:=KH (k3 (j - ia) (by (clear j2 k1 bJ rp ep le b1 a1 hy hx ea e eb hl h0 ha1 hk;lia)) (by (clear j1 k1 bJ rp ep le b1 hy hx ea e eb hl h0 ha1 hk;lia)));rw [show ia+(j - ia)=j by (clear this j2 k1 bJ rp ep le b1 a1 hy hx ea e eb hl h0 ha1 hk;lia)] at this;rw [rp];(clear j2 j1 k1 bJ rp ep le b1 a1 hy hx ea e eb hl h0 ha1 hk;lia)
     apply aL
     case' h1=>
      intro kpos;refine aL (fun e=> ?_) (fun e=> ?_)
      ·have e:ia+k+1=a.size:=by simpa using e
       exact wpS_pure ⟨wC,.inl ⟨_,_,rfl,mA.last fun i j _ hi _ hj=>mid i j hi (by (clear hi kpos k1 bJ rp ep le b1 a1 hy hx ea eb hl h0 ha1 hk;lia))⟩⟩
      have e1:¬ia+k+1=a.size:=by simpa using e
      refine aL (fun e=> ?_) (fun e=> ?_)
      ·exact wpS_pure ⟨wC,.inl ⟨_,_,rfl,mA.done (.inl (by simpa using e))⟩⟩
      have e2:¬ia+k=a.size:=by simpa using e
      have a3:ia+k+2<=a.size:=by (clear e kpos bJ rp ep le b1 hy hx ea eb hl h0 ha1 hk;lia)
      have fG:(a.size - (ia+k))+(b.size - ib)+x+1+y<=a.size+b.size:=by (clear a3 e2 e e1 kpos k1 bJ rp ep b1 a1 hy hx ea eb hl h0 ha1 hk;lia)
      generalize out++a.extract ia (ia+k)=agv at mA ⊢;generalize ia+k=ia3 at mA nxt a3 fG ⊢
     case' h2=>
      intro kpos;have k0:k=0:=by (clear k1 bJ rp ep le b1 a1 hy hx ea e eb hl h0 ha1 hk;lia)
      have a3:ia+2<=a.size:=by (clear k0 kpos k1 bJ rp ep le b1 hy hx ea e eb hl h0 ha1 hk;lia)
      have fG:(a.size - ia)+(b.size - ib)+x+1+y<=a.size+b.size:=by (clear a3 k0 kpos k1 bJ rp ep b1 a1 hy hx ea e eb hl h0 ha1 hk;lia)
      subst k0
      replace nxt:∀j,ia<=j->j<a.size->R rk b ib<=R rk a j:=nxt
      replace mA:=m
     all_goals
      have mB:=mA.rJ (by (clear kpos k1 fG a3 bJ rp ep le a1 hy hx ea e eb hl h0 ha1 hk;lia)) nxt;rw [←bJ] at mB;refine wpS_bind (bC ep ?_);refine aL (fun e=> ?_) (fun e=> ?_)
      ·exact wpS_pure ⟨wC,.inl ⟨_,_,rfl,mB.done (.inr (by simpa using e))⟩⟩
      have e3:¬ib+1=b.size:=by simpa using e
      obtain ⟨q,eq,mq,rq⟩:=Ou _ (show _<a.size from Nat.lt_of_lt_of_le (Nat.lt_succ_of_lt (Nat.lt_succ_self _)) a3);refine wpS_bind (bC eq (wpS_bind (gB C (wC.k.trans hk) mq hb (by (clear rq eq e3 e kpos k1 fG a3 bJ rp ep le a1 hy hx ea eb hl h0 ha1 hk;lia)) (by (clear rq eq e kpos k1 fG a3 bJ rp ep le a1 hy hx ea eb hl h0 ha1 hk;lia)) (fun i j h1 h2 h3=>sb i j (by (clear h3 h2 h1 rq eq e3 e kpos k1 fG a3 bJ rp ep le b1 a1 hy hx ea eb hl h0 ha1 hk;lia)) h2 (by (clear h2 h1 rq eq e3 e kpos k1 fG a3 bJ rp ep le a1 hy hx ea eb hl h0 ha1 hk;lia))) fun k' l1 l2 l3=> ?_)));dsimp only
      have mC:=mB.pF (k:=k') fun i hi hs j j1 j2=>by
       have e1:=SM (l2 i hi);have e2:=sa _ j (by (clear e1 j2 j1 hs hi l1 rq eq e3 e kpos k1 fG a3 bJ rp ep le b1 a1 hy hx ea eb hl h0 ha1 hk;lia)) j1 j2;rw [rq] at e2
       (clear j2 j1 hs hi l1 rq eq e3 e kpos k1 fG a3 bJ rp ep le b1 a1 hy hx ea eb hl h0 ha1 hk;lia)
      apply aL
      case' h1=>
       intro kpos;refine aL (fun e=> ?_) (fun e=> ?_)
       ·exact wpS_pure ⟨wC,.inl ⟨_,_,rfl,mC.done (.inr (by simpa using e))⟩⟩
       have e5:¬ib+1+k'=b.size:=by simpa using e
       have nx:∀j,ib+1+k'<=j->j<b.size->rk q.1<=R rk b j:=fun j j1 j2=>by
        have:=z7 (l3 (j - (ib+1)) (by (clear j2 e5 e kpos l1 rq eq e3 k1 fG a3 bJ rp ep le b1 a1 hy hx ea eb hl h0 ha1 hk;lia)) (by (clear j1 e5 e kpos l1 rq eq k1 fG a3 bJ rp ep le a1 hy hx ea eb hl h0 ha1 hk;lia)));rw [show ib+1+(j - (ib+1))=j by (clear this j2 e5 e kpos l1 rq eq e3 k1 fG a3 bJ rp ep le b1 a1 hy hx ea eb hl h0 ha1 hk;lia)] at this
        (clear j2 j1 e5 e kpos l1 rq eq e3 k1 fG a3 bJ rp ep le b1 a1 hy hx ea eb hl h0 ha1 hk;lia)
       have b3:ib+1+k'+1<=b.size:=by (clear e kpos rq eq e3 k1 fG a3 bJ rp ep le a1 hy hx ea eb hl h0 ha1 hk;lia)
      case' h2=>
       intro kpos;have k0:k'=0:=by (clear l1 rq eq e3 e k1 fG a3 bJ rp ep le b1 a1 hy hx ea eb hl h0 ha1 hk;lia)
       have nx:∀j,ib+1<=j->j<b.size->rk q.1<=R rk b j:=fun j j1 j2=>by
        have:=z7 (l3 (j - (ib+1)) (by (clear j2 j1 k0 l1 rq eq e3 e k1 fG a3 bJ rp ep le b1 a1 hy hx ea eb hl h0 ha1 hk;lia)) (by (clear j1 k0 kpos l1 rq eq e k1 fG a3 bJ rp ep le a1 hy hx ea eb hl h0 ha1 hk;lia)));rw [show ib+1+(j - (ib+1))=j by (clear this j2 k0 kpos l1 rq eq e3 e k1 fG a3 bJ rp ep le b1 a1 hy hx ea eb hl h0 ha1 hk;lia)] at this
        (clear j2 j1 k0 kpos l1 rq eq e3 e k1 fG a3 bJ rp ep le b1 a1 hy hx ea eb hl h0 ha1 hk;lia)
       have b3:ib+1+1<=b.size:=by (clear k0 kpos l1 rq eq e k1 fG a3 bJ rp ep le a1 hy hx ea eb hl h0 ha1 hk;lia)
       replace mC:=mB
      all_goals
       have mD:=mC.rK (by (clear b3 kpos l1 rq eq e3 e k1 fG bJ rp ep le b1 hy hx ea eb hl h0 ha1 hk;lia)) (fun j j1 j2=>by rw [rq];exact nx j j1 j2);have fP:=Option.some.inj ((getElem?_pos a _ (by (clear b3 kpos l1 rq eq e3 e k1 fG bJ rp ep le b1 hy hx ea eb hl h0 ha1 hk;lia))).symm.trans eq);rw [fP] at mD;refine wpS_bind (bC eq ?_);refine aL (fun e=> ?_) (fun e=> ?_)
       ·exact wpS_pure ⟨wC,.inl ⟨_,_,rfl,mD.last fun i j _ hi _ hj=>mid i j hi (by have e:=eq_of_beq e;(clear hi fP b3 kpos l1 rq eq e3 k1 fG a3 bJ rp ep le b1 a1 hy hx ea eb hl h0 ha1 hk;lia))⟩⟩
       have e6:¬_=a.size:=fun z=>e (beq_iff_eq.mpr z);refine aL (fun _=> ?_) (fun _=> ?_)
       ·exact wpS_pure ⟨wC,.inr ⟨_,_,_,_,_,_,rfl,mD,by (clear e fP b3 kpos l1 rq eq e3 k1 fG bJ rp ep le b1 hy hx ea eb hl h0 ha1 hk;lia),by (clear e6 e fP b3 kpos rq eq k1 fG a3 bJ rp ep le a1 hy hx ea eb hl h0 ha1 hk;lia),by (clear e6 e fP b3 kpos l1 rq eq e3 k1 a3 bJ rp ep b1 a1 hy hx ea eb hl h0 ha1 hk;lia)⟩⟩
       ·exact wpS_pure ⟨wC,_,_,_,_,_,_,rfl,mD,by (clear e fP b3 kpos l1 rq eq e3 k1 fG bJ rp ep le b1 hy hx ea eb hl h0 ha1 hk;lia),by (clear e6 e fP b3 kpos rq eq k1 fG a3 bJ rp ep le a1 hy hx ea eb hl h0 ha1 hk;lia),by (clear e6 e fP b3 kpos l1 rq eq e3 k1 a3 bJ rp ep hy hx ea eb hl h0 ha1 hk;lia)⟩
end
end Tim
set_option Elab.async false
set_option linter.all false
set_option maxRecDepth 100000
set_option maxHeartbeats 4000000
namespace Tim
open PySem PyProof.Rows
abbrev iH (a b out:Array Keyed) (na nb:Nat):Array Keyed:=a.extract 0 na++b.extract 0 nb++out.reverse
abbrev lO (a b out:Array Keyed) (na nb:Nat):Array Keyed:=b.extract 0 nb++a.extract 0 na++out.reverse
theorem yM (a b:Array Keyed):su a b=(do
 rule "list.sort.merge-hi"
 let total:=a.size+b.size
 let mut na:=a.size - 1
 let mut nb:=b.size
 let mut out:Array Keyed:= #[←elem' a na]
 if na==0 then return iH a b out na nb
 if nb==1 then return lO a b out na nb
 let mut minGallop:=gallopOf (←get)
 for _ in [0:total] do
  let mut acount:=0
  let mut bcount:=0
  for _ in [0:total] do
   let some aWins ←lt' (←elem' b (nb - 1)) (←elem' a (na - 1))|return iH a b out na nb
   if aWins then
    na:=na - 1;out:=out.push (←elem' a na);acount:=acount+1;bcount:=0
    if na==0 then return iH a b out na nb
    if acount≥minGallop then break
   else
    nb:=nb - 1;out:=out.push (←elem' b nb);bcount:=bcount+1;acount:=0
    if nb==1 then return lO a b out na nb
    if bcount≥minGallop then break
  rule "list.sort.gallop"
  minGallop:=minGallop+1
  for _ in [0:total] do
   if minGallop>1 then minGallop:=minGallop - 1
   dB minGallop
   let some at_ ←jt false (←elem' b (nb - 1)) a 0 na (na - 1)|return iH a b out na nb
   let k:=na - at_
   acount:=k
   if k>0 then
    out:=out++(a.extract at_ na).reverse;na:=at_
    if na==0 then return iH a b out na nb
   nb:=nb - 1;out:=out.push (←elem' b nb)
   if nb==1 then return lO a b out na nb
   let some at_ ←jt true (←elem' a (na - 1)) b 0 nb (nb - 1)|return iH a b out na nb
   let k:=nb - at_
   bcount:=k
   if k>0 then
    out:=out++(b.extract at_ nb).reverse;nb:=at_
    if nb==1 then return lO a b out na nb
    if nb==0 then return iH a b out na nb
   na:=na - 1;out:=out.push (←elem' a na)
   if na==0 then return iH a b out na nb
   if acount<7&&bcount<7 then break
  minGallop:=minGallop+1
  dB minGallop
 unsupported "internal:list.sort.merge-bound"):=rfl
section
variable {rk:Value->Nat} {a b out:Array Keyed} {na nb k:Nat}
structure MH (rk:Value->Nat) (a b out:Array Keyed) (na nb:Nat):Prop where
 perm:(a.toList.take na++(b.toList.take nb++out.toList.reverse)).Perm (a.toList++b.toList)
 sa:Gs rk (a.toList.take na++out.toList.reverse)
 sb:Gs rk (b.toList.take nb++out.toList.reverse)
theorem Ae (l:List Keyed) {i j:Nat} (h:i<=j):l.take j=l.take i++(l.drop i).take (j - i):=by
 rw [List.take_drop,show i+(j - i)=j by lia];have:=(List.take_append_drop i (l.take j)).symm;rwa [List.take_take,Nat.min_eq_left h] at this
theorem Fo {a:Array Keyed} {x:Keyed} (h:x∈a.toList.take na):∃j,j<na/\j<a.size/\R rk a j=rk x.1:=by
 have h':x∈(a.toList.drop 0).take na:=by rw [List.drop_zero];exact h
 obtain ⟨j,j1,j2,j3⟩:=h_ (rk:=rk) h';rw [Nat.zero_add] at j2 j3;exact ⟨j,j1,j2,j3⟩
theorem MH.pG (m:MH rk a b out na nb) {at_:Nat} (hat:at_<=na) (hle:∀i,at_<=i->i<na->i<a.size -> ∀j,j<nb->j<b.size->R rk b j<=R rk a i):MH rk a b (out++(a.extract at_ na).reverse) at_ nb:=by
 have e:(out++(a.extract at_ na).reverse).toList.reverse=(a.toList.drop at_).take (na - at_)++out.toList.reverse:=by
  rw [Array.toList_append,List.reverse_append,Array.toList_reverse,List.reverse_reverse,bW]
 have sp:=Ae a.toList hat;refine ⟨?_, ?_, ?_⟩
 ·rw [e]
  refine List.Perm.trans ?_ m.perm;rw [sp,List.append_assoc];refine List.Perm.append_left _ ?_;rw [←List.append_assoc,←List.append_assoc];exact List.Perm.append_right _ List.perm_append_comm
 ·rw [e,←List.append_assoc,←sp]
  exact m.sa
 ·rw [e]
  have h1:=m.sa;rw [sp,List.append_assoc] at h1;have h2:=g8.mp (g8.mp h1).2.1;have h3:=g8.mp m.sb;refine g8.mpr ⟨h3.1,g8.mpr ⟨h2.1,h3.2.1,h2.2.2⟩,fun p hp q hq=> ?_⟩;rcases List.mem_append.mp hq with hq|hq
  ·obtain ⟨i,i1,i2,i3⟩:=Fo (rk:=rk) hp
   obtain ⟨j,j1,j2,j3⟩:=h_ (rk:=rk) hq;rw [←i3,←j3];exact hle _ (by (clear j3 j2 j1 i3 i2 i1 h3 h2 sp e hat;lia)) (by (clear j3 j2 i3 i2 i1 h3 h2 sp e hat;lia)) j2 i i1 i2
  ·exact h3.2.2 p hp q hq
theorem MH.swap (m:MH rk a b out na nb):MH rk b a out nb na:=by
 refine ⟨?_,m.sb,m.sa⟩;refine List.Perm.trans ?_ (m.perm.trans List.perm_append_comm);rw [←List.append_assoc,←List.append_assoc];exact List.Perm.append_right _ List.perm_append_comm
theorem MH.pF (m:MH rk a b out na nb) {at_:Nat} (hat:at_<=nb) (hle:∀i,at_<=i->i<nb->i<b.size -> ∀j,j<na->j<a.size->R rk a j<=R rk b i):MH rk a b (out++(b.extract at_ nb).reverse) na at_:=(m.swap.pG hat hle).swap
theorem HJ (h1:1<=na) (h:na<=a.size):out.push (a[na - 1]'(by lia))=out++(a.extract (na - 1) na).reverse:=by
 have e:=yx (out:= #[]) (b:=a) (ib:=na - 1) (by lia);rw [show na - 1+1=na by (clear e h;lia)] at e
 have e2:a.extract (na - 1) na = #[a[na - 1]'(by (clear e;lia))]:=by
  apply Array.toList_inj.mp;have:=congrArg Array.toList e;rw [Array.toList_append] at this;simpa using this.symm
 rw [e2];apply Array.toList_inj.mp;simp
theorem MH.rK (m:MH rk a b out na nb) (h1:1<=na) (h:na<=a.size) (hle:∀j,j<nb->j<b.size->R rk b j<=R rk a (na - 1)):MH rk a b (out.push (a[na - 1]'(by lia))) (na - 1) nb:=by
 rw [HJ h1 h];refine m.pG (by (clear h h1;lia)) fun i i1 i2 i3 j j1 j2=> ?_;have:i=na - 1:=by (clear j2 j1 i3 h h1;lia)
 subst this;exact hle j j1 j2
theorem MH.rJ (m:MH rk a b out na nb) (h1:1<=nb) (h:nb<=b.size) (hle:∀j,j<na->j<a.size->R rk a j<=R rk b (nb - 1)):MH rk a b (out.push (b[nb - 1]'(by lia))) na (nb - 1):=(m.swap.rK h1 h hle).swap
theorem qO:(iH a b out na nb).toList=a.toList.take na++(b.toList.take nb++out.toList.reverse):=by
 unfold iH;rw [Array.toList_append,Array.toList_append,bW,bW,Array.toList_reverse,List.append_assoc];rfl
theorem MH.done (m:MH rk a b out na nb) (h:na=0\/nb=0):Mg rk a b (iH a b out na nb):=by
 refine ⟨by rw [qO];exact m.perm, ?_⟩;rw [qO];rcases h with h|h
 ·subst h
  exact m.sb
 ·subst h
  exact m.sa
theorem MH.first (m:MH rk a b out na nb) (h:∀i j,i<nb->i<b.size->j<na->j<a.size->R rk b i<=R rk a j):Mg rk a b (lO a b out na nb):=by
 have m2:=m.pG (at_:=0) (by lia) fun i _ i2 i3 j j1 j2=>h j i j1 j2 i2 i3
 have e:lO a b out na nb=iH a b (out++(a.extract 0 na).reverse) 0 nb:=by
  apply Array.toList_inj.mp;rw [qO,qO,Array.toList_append,List.reverse_append,Array.toList_reverse,List.reverse_reverse,bW];simp
 rw [e];exact m2.done (.inl rfl)
end
section
variable {prog:Program} {w:World} {A:Around} {E:Value->Shared->Prop} {s:Shared} {κ:SortKind} {a₀:Array Keyed} {rk:Value->Nat}
theorem xY {st:SortSt} {a b:Array Keyed} {Q:Array Keyed->SortSt->Prop} (C:z6 prog w A s κ a₀ rk) (hk:kindOf st=κ) (ha:∀p∈a.toList,p∈a₀.toList) (hb:∀p∈b.toList,p∈a₀.toList)
 (ha1:1<=a.size) (hb1:1<=b.size) (sa:Seg rk a 0 a.size) (sb:Seg rk b 0 b.size) (h0:R rk b 0<=R rk a 0) (hl:R rk b (b.size - 1)<=R rk a (a.size - 1))
 (h:∀r st',xV st st'->Mg rk a b r->Q r st'):wpS (model prog w) A E s (su a b) Q st:=by
 have Vm:∀i,i<b.size -> ∃p,b[i]? = some p/\p∈a₀.toList/\R rk b i=rk p.1:=fun i hi=>⟨b[i],getElem?_pos b i hi,hb _ (by simp),gk hi⟩;have Ou:∀i,i<a.size -> ∃p,a[i]? = some p/\p∈a₀.toList/\R rk a i=rk p.1:=fun i hi=>⟨a[i],getElem?_pos a i hi,ha _ (by simp),gk hi⟩
 have mid:∀i j nb,i<nb->nb=1->j<a.size->R rk b i<=R rk a j:=fun i j nb hi hn hj=>by
  have:=sa 0 j (by (clear hj hn hi hl h0 hb1 ha1 hk;lia)) (by (clear hj hn hi hl h0 hb1 ha1 hk;lia)) hj;have e:i=0:=by (clear this hj hl h0 hb1 ha1 hk;lia)
  subst e
  (clear hi hj hn hl hb1 ha1 hk;lia)
 have m0:MH rk a b #[a[a.size - 1]] (a.size - 1) b.size:=by
  have m:MH rk a b #[] a.size b.size:=by
   refine ⟨?_, ?_, ?_⟩
   ·rw [←Array.length_toList,←Array.length_toList,List.take_length,List.take_length];simp
   ·rw [←Array.length_toList,List.take_length]
    show Gs rk (a.toList++[]);rw [List.append_nil];refine List.pairwise_iff_getElem.mpr fun i j hi hj hij=> ?_;rw [Array.length_toList] at hi hj;have:=sa i j (by (clear hij hj hi hl h0 hb1 ha1 hk;lia)) (by (clear hj hi hl h0 hb1 ha1 hk;lia)) hj;rw [gk hi,gk hj] at this;simpa [Le] using this
   ·rw [←Array.length_toList,List.take_length]
    show Gs rk (b.toList++[]);rw [List.append_nil];refine List.pairwise_iff_getElem.mpr fun i j hi hj hij=> ?_;rw [Array.length_toList] at hi hj;have:=sb i j (by (clear hij hj hi hl h0 hb1 ha1 hk;lia)) (by (clear hj hi hl h0 hb1 ha1 hk;lia)) hj;rw [gk hi,gk hj] at this;simpa [Le] using this
  exact m.rK ha1 (Nat.le_refl _) fun j j1 j2=>Nat.le_trans (sb j (b.size - 1) (by (clear j2 j1 hl h0 hb1 ha1 hk;lia)) (by (clear j2 hl h0 hb1 ha1 hk;lia)) (by (clear j2 j1 hl h0 ha1 hk;lia))) hl
 rw [yM];refine wpS_bind (wpS_lift (wpAny_rule ⟨rfl, ?_⟩));refine wpS_bind (bC (p:=a[a.size - 1]) (getElem?_pos a _ (by (clear hl h0 hb1 hk;lia))) ?_);dsimp only;refine aL (fun e=> ?_) (fun e=> ?_)
 ·exact wpS_pure (h _ _ (.refl _) (m0.done (.inl (by simpa using e))))
 have ea:¬a.size - 1=0:=fun z=>e (beq_iff_eq.mpr z);refine aL (fun e=> ?_) (fun e=> ?_)
 ·exact wpS_pure (h _ _ (.refl _) (m0.first fun i j i1 i2 j1 j2=>mid i j _ i1 (by simpa using e) j2))
 have eb:¬b.size=1:=by simpa using e
 refine wpS_bind (wpS_get ?_)
 refine wpS_bind (wpS_mono (wpS_forRange (I:=fun x c st'=>xV st st' /\ ∃na nb out mg,c=(none,na,nb,out,mg)/\MH rk a b out na nb/\1<=na/\2<=nb/\na<=a.size/\nb<=b.size/\na+nb+x<=a.size+b.size)
  (Q:=fun c st'=>xV st st' /\ ∃r cc,c=(some r,cc)/\Mg rk a b r) ?step ?fin ⟨.refl _,_,_,_,_,rfl,m0,by (clear eb e hl h0 hb1 hk;lia),by (clear e ea hl h0 hk;lia),by (clear eb e ea hl h0 hb1 hk;lia),by (clear eb e ea hl h0 hb1 hk;lia),by (clear eb e ea hl h0 hb1 hk;lia)⟩) ?post)
 case post=>
  rintro c st' ⟨kp,r,cc,rfl,m⟩;exact wpS_pure (h _ _ kp m)
 case fin=>
  rintro c st' ⟨kp,na,nb,out,mg,rfl,m,a1,b1,a2,b2,le⟩
  (clear b2 a2 b1 eb e ea hl h0 hb1 hk;lia)
 case step=>
  rintro x c st' _ hx ⟨kp,na,nb,out,mg,rfl,m,a1,b1,a2,b2,le⟩;dsimp only
  refine wpS_bind (wpS_mono (wpS_forRange (I:=fun y c st2=>st2=st' /\ ∃na nb out ac bc,c=(none,na,nb,out,ac,bc)/\MH rk a b out na nb/\1<=na/\2<=nb/\na<=a.size/\nb<=b.size/\na+nb+x+y<=a.size+b.size)
   (Q:=fun c st2=>st2=st'/\((∃r cc,c=(some r,cc)/\Mg rk a b r) \/ ∃na nb out ac bc,c=(none,na,nb,out,ac,bc)/\MH rk a b out na nb/\1<=na/\2<=nb/\na<=a.size/\nb<=b.size/\na+nb+x+1<=a.size+b.size)) ?step1 ?RQ ⟨rfl,_,_,_,_,_,rfl,m,a1,b1,a2,b2,by (clear b2 a2 b1 a1 hx eb e ea hl h0 hb1 hk;lia)⟩) ?HY)
  case RQ=>
   rintro c st2 ⟨rfl,na,nb,out,ac,bc,rfl,m,a1,b1,a2,b2,le⟩
   (clear b2 a2 b1 hx eb e ea hl h0 hb1 hk;lia)
  case step1=>
   rintro y c st2 _ hy ⟨rfl,na,nb,out,ac,bc,rfl,m,a1,b1,a2,b2,le⟩;dsimp only;obtain ⟨p,ep,mp,rp⟩:=Vm (nb - 1) (by (clear le a2 b1 a1 hy hx eb e ea hl h0 hb1 hk;lia));obtain ⟨q,eq,mq,rq⟩:=Ou (na - 1) (by (clear rp ep le b2 b1 a1 hy hx eb e ea hl h0 hb1 hk;lia));refine wpS_bind (bC ep (wpS_bind (bC eq (wpS_bind (qT C (kp.k.trans hk) mp mq ?_)))));dsimp only;have bJ:b[nb - 1]=p:=Option.some.inj ((getElem?_pos b _ (by (clear rq eq rp ep le a2 b1 a1 hy hx eb e ea hl h0 hb1 hk;lia))).symm.trans ep);have fP:a[na - 1]=q:=Option.some.inj ((getElem?_pos a _ (by (clear bJ rq eq rp ep le b2 b1 a1 hy hx eb e ea hl h0 hb1 hk;lia))).symm.trans eq);refine aL (fun lt=> ?_) (fun lt=> ?_)
   ·have lt:R rk b (nb - 1)<R rk a (na - 1):=by rw [rp,rq];simpa using lt
    have m2:=m.rK a1 a2 fun j j1 j2=>by have:=sb j (nb - 1) (by (clear j2 j1 lt fP bJ rq eq rp ep le b2 a2 b1 a1 hy hx eb e ea hl h0 hb1 hk;lia)) (by (clear j2 lt fP bJ rq eq rp ep le b2 a2 b1 a1 hy hx eb e ea hl h0 hb1 hk;lia)) (by (clear j2 j1 lt fP bJ rq eq rp ep le a2 b1 a1 hy hx eb e ea hl h0 hb1 hk;lia));(clear j2 j1 fP bJ rq eq rp ep le b2 a2 b1 a1 hy hx eb e ea hl h0 hb1 hk;lia)
    rw [fP] at m2;refine wpS_bind (bC eq ?_);refine aL (fun e=> ?_) (fun e=> ?_)
    ·exact wpS_pure ⟨rfl,.inl ⟨_,_,rfl,m2.done (.inl (by simpa using e))⟩⟩
    have e:¬na - 1=0:=fun z=>e (beq_iff_eq.mpr z);refine aL (fun _=> ?_) (fun _=> ?_)
    ·exact wpS_pure ⟨rfl,.inr ⟨_,_,_,_,_,rfl,m2,by (clear lt fP bJ rq eq rp ep le b2 a2 b1 a1 hy hx eb ea hl h0 hb1 hk;lia),b1,by (clear e lt fP bJ rq eq rp ep le b2 b1 a1 hy hx eb ea hl h0 hb1 hk;lia),b2,by (clear e lt fP bJ rq eq rp ep b2 a2 b1 hy hx eb ea hl h0 hb1 hk;lia)⟩⟩
    ·exact wpS_pure ⟨rfl,_,_,_,_,_,rfl,m2,by (clear lt fP bJ rq eq rp ep le b2 a2 b1 a1 hy hx eb ea hl h0 hb1 hk;lia),b1,by (clear e lt fP bJ rq eq rp ep le b2 b1 a1 hy hx eb ea hl h0 hb1 hk;lia),b2,by (clear e lt fP bJ rq eq rp ep b2 a2 b1 hy hx eb ea hl h0 hb1 hk;lia)⟩
   ·have lt:R rk a (na - 1)<=R rk b (nb - 1):=by rw [rp,rq];simpa using lt
    have m2:=m.rJ (by (clear lt fP bJ rq eq rp ep le b2 a2 a1 hy hx eb e ea hl h0 hb1 hk;lia)) b2 fun j j1 j2=>by have:=sa j (na - 1) (by (clear j2 j1 lt fP bJ rq eq rp ep le b2 a2 b1 a1 hy hx eb e ea hl h0 hb1 hk;lia)) (by (clear j2 lt fP bJ rq eq rp ep le b2 a2 b1 a1 hy hx eb e ea hl h0 hb1 hk;lia)) (by (clear j2 j1 lt fP bJ rq eq rp ep le b2 b1 a1 hy hx eb e ea hl h0 hb1 hk;lia));(clear j2 j1 fP bJ rq eq rp ep le b2 a2 b1 a1 hy hx eb e ea hl h0 hb1 hk;lia)
    rw [bJ] at m2;refine wpS_bind (bC ep ?_);refine aL (fun e=> ?_) (fun e=> ?_)
    ·exact wpS_pure ⟨rfl,.inl ⟨_,_,rfl,m2.first fun i j i1 i2 j1 j2=>mid i j _ i1 (eq_of_beq e) j2⟩⟩
    have e:¬nb - 1=1:=fun z=>e (beq_iff_eq.mpr z);refine aL (fun _=> ?_) (fun _=> ?_)
    ·exact wpS_pure ⟨rfl,.inr ⟨_,_,_,_,_,rfl,m2,a1,by (clear lt fP bJ rq eq rp ep le b2 a2 a1 hy hx eb ea hl h0 hb1 hk;lia),a2,by (clear e lt fP bJ rq eq rp ep le a2 b1 a1 hy hx eb ea hl h0 hb1 hk;lia),by (clear e lt fP bJ rq eq rp ep b2 a2 a1 hy hx eb ea hl h0 hb1 hk;lia)⟩⟩
    ·exact wpS_pure ⟨rfl,_,_,_,_,_,rfl,m2,a1,by (clear lt fP bJ rq eq rp ep le b2 a2 a1 hy hx eb ea hl h0 hb1 hk;lia),a2,by (clear e lt fP bJ rq eq rp ep le a2 b1 a1 hy hx eb ea hl h0 hb1 hk;lia),by (clear e lt fP bJ rq eq rp ep b2 a2 a1 hy hx eb ea hl h0 hb1 hk;lia)⟩
  case HY=>
   rintro c st2 ⟨rfl,(⟨r,cc,rfl,mr⟩|⟨na,nb,out,ac,bc,rfl,m,a1,b1,a2,b2,le⟩)⟩
   ·exact wpS_pure ⟨kp,r,_,rfl,mr⟩
   dsimp only;refine wpS_bind (wpS_lift (wpAny_rule ⟨rfl, ?_⟩))
   refine wpS_bind (wpS_mono (wpS_forRange (I:=fun y c st3=>xV st st3 /\ ∃na nb out mg ac bc,c=(none,na,nb,out,mg,ac,bc)/\MH rk a b out na nb/\1<=na/\2<=nb/\na<=a.size/\nb<=b.size/\na+nb+x+1+y<=a.size+b.size)
    (Q:=fun c st3=>xV st st3/\((∃r cc,c=(some r,cc)/\Mg rk a b r) \/ ∃na nb out mg ac bc,c=(none,na,nb,out,mg,ac,bc)/\MH rk a b out na nb/\1<=na/\2<=nb/\na<=a.size/\nb<=b.size/\na+nb+x+1<=a.size+b.size)) ?G8 ?fin2 ⟨kp,_,_,_,_,_,_,rfl,m,a1,b1,a2,b2,by (clear b2 a2 b1 a1 hx eb e ea hl h0 hb1 hk;lia)⟩) ?post2)
   case fin2=>
    rintro c st3 ⟨z8,na,nb,out,mg,ac,bc,rfl,m,a1,b1,a2,b2,le⟩
    (clear b2 a2 b1 a1 hx eb e ea hl h0 hb1 hk;lia)
   case post2=>
    rintro c st3 ⟨z8,(⟨r,cc,rfl,mr⟩|⟨na,nb,out,mg,ac,bc,rfl,m,a1,b1,a2,b2,le⟩)⟩
    ·exact wpS_pure ⟨z8,r,_,rfl,mr⟩
    dsimp only;refine wpS_bind (lH fun kW k4=>wpS_pure ⟨z8.trans k4,_,_,_,_,rfl,m,a1,b1,a2,b2,by (clear b2 a2 b1 a1 hx eb e ea hl h0 hb1 hk;lia)⟩)
   case G8=>
    rintro y c st3 _ hy ⟨z8,na,nb,out,mg,ac,bc,rfl,m,a1,b1,a2,b2,le⟩;dsimp only;refine aL (fun _=> ?_) (fun _=> ?_)
    all_goals
     refine wpS_bind (lH fun kW k4=> ?_);have wC:=z8.trans k4;obtain ⟨p,ep,mp,rp⟩:=Vm (nb - 1) (by (clear le a2 b1 a1 hy hx eb e ea hl h0 hb1 hk;lia));have bJ:b[nb - 1]=p:=Option.some.inj ((getElem?_pos b _ (by (clear rp ep le a2 b1 a1 hy hx eb e ea hl h0 hb1 hk;lia))).symm.trans ep);refine wpS_bind (bC ep (wpS_bind (gB C (wC.k.trans hk) mp ha (by (clear bJ rp ep le b2 b1 a1 hy hx eb e ea hl h0 hb1 hk;lia)) (by (clear bJ rp ep le b2 a2 b1 hy hx eb e ea hl h0 hb1 hk;lia)) (fun i j h1 h2 h3=>sa i j (by (clear h3 h2 h1 bJ rp ep le b2 a2 b1 a1 hy hx eb e ea hl h0 hb1 hk;lia)) h2 (by (clear h2 h1 bJ rp ep le b2 b1 a1 hy hx eb e ea hl h0 hb1 hk;lia))) fun k k1 k2 k3=> ?_)));dsimp only;simp only [Nat.zero_add] at k2 k3
     have mA:=m.pG k1 fun i i1 i2 i3 j j1 j2=>by
      have e1:=KH (k3 i i1 i2);have e2:=sb j (nb - 1) (by (clear e1 j2 j1 i3 i2 i1 k1 bJ rp ep le b2 a2 b1 a1 hy hx eb e ea hl h0 hb1 hk;lia)) (by (clear e1 j2 i3 i2 i1 k1 bJ rp ep le b2 a2 b1 a1 hy hx eb e ea hl h0 hb1 hk;lia)) (by (clear e1 j2 j1 i3 i2 i1 k1 bJ rp ep le a2 b1 a1 hy hx eb e ea hl h0 hb1 hk;lia))
      (clear j2 j1 i3 i2 i1 k1 bJ ep le b2 a2 b1 a1 hy hx eb e ea hl h0 hb1 hk;lia)
     have nxt:∀j,j<k->j<a.size->R rk a j<=R rk b (nb - 1):=fun j j1 j2=>by
      have:=N_ (k2 j j1)
      (clear j2 j1 k1 bJ ep le b2 a2 b1 a1 hy hx eb e ea hl h0 hb1 hk;lia)
     apply aL
     case' h1=>
      intro kpos;refine aL (fun e=> ?_) (fun e=> ?_)
      ·exact wpS_pure ⟨wC,.inl ⟨_,_,rfl,mA.done (.inl (by simpa using e))⟩⟩
      have e1:¬k=0:=fun z=>e (beq_iff_eq.mpr z);have a3:1<=k:=by (clear e kpos k1 bJ rp ep le b2 a2 b1 a1 hy hx eb ea hl h0 hb1 hk;lia)
      have a4:k<=a.size:=by (clear a3 e1 e kpos bJ rp ep le b2 b1 a1 hy hx eb ea hl h0 hb1 hk;lia)
      have fG:k+nb+x+1+y<=a.size+b.size:=by (clear a4 a3 e1 e kpos bJ rp ep b2 a2 b1 a1 hy hx eb ea hl h0 hb1 hk;lia)
     case' h2=>
      intro kpos;have k0:k=na:=by (clear bJ rp ep le b2 a2 b1 a1 hy hx eb e ea hl h0 hb1 hk;lia)
      have a3:1<=na:=a1;have a4:na<=a.size:=a2;have fG:na+nb+x+1+y<=a.size+b.size:=by (clear a4 a3 k0 kpos k1 bJ rp ep b2 a2 b1 a1 hy hx eb e ea hl h0 hb1 hk;lia)
      rw [k0] at nxt
      replace mA:=m
     all_goals
      have mB:=mA.rJ (by (clear fG a4 a3 kpos k1 bJ rp ep le b2 a2 a1 hy hx eb e ea hl h0 hb1 hk;lia)) b2 nxt;rw [bJ] at mB;refine wpS_bind (bC ep ?_);refine aL (fun e=> ?_) (fun e=> ?_)
      ·exact wpS_pure ⟨wC,.inl ⟨_,_,rfl,mB.first fun i j i1 i2 j1 j2=>mid i j _ i1 (eq_of_beq e) j2⟩⟩
      have e3:¬nb - 1=1:=fun z=>e (beq_iff_eq.mpr z);obtain ⟨q,eq,mq,rq⟩:=Ou _ (Nat.lt_of_lt_of_le (Nat.sub_lt a3 Nat.one_pos) a4);refine wpS_bind (bC eq (wpS_bind (gB C (wC.k.trans hk) mq hb (by (clear rq eq e3 e fG a4 a3 kpos k1 bJ rp ep le a2 b1 a1 hy hx eb ea hl h0 hb1 hk;lia)) (by (clear rq eq e3 e fG a4 a3 kpos k1 bJ rp ep le b2 a2 a1 hy hx eb ea hl h0 hb1 hk;lia)) (fun i j h1 h2 h3=>sb i j (by (clear h3 h2 h1 rq eq e3 e fG a4 a3 kpos k1 bJ rp ep le b2 a2 b1 a1 hy hx eb ea hl h0 hb1 hk;lia)) h2 (by (clear h2 h1 rq eq e3 e fG a4 a3 kpos k1 bJ rp ep le a2 b1 a1 hy hx eb ea hl h0 hb1 hk;lia))) fun k' l1 l2 l3=> ?_)));dsimp only;simp only [Nat.zero_add] at l2 l3
      have mC:=mB.pF l1 fun i i1 i2 i3 j j1 j2=>by
       have e1:=z7 (l3 i i1 i2);have e2:=sa j _ (by (clear e1 j2 j1 i3 i2 i1 l1 rq eq e3 e fG a4 a3 kpos k1 bJ rp ep le b2 a2 b1 a1 hy hx eb ea hl h0 hb1 hk;lia)) (Nat.le_sub_one_of_lt j1) (by (clear e1 j2 j1 i3 i2 i1 l1 rq eq e3 e fG a4 a3 kpos bJ rp ep le b2 b1 a1 hy hx eb ea hl h0 hb1 hk;lia))
       (clear j2 j1 i3 i2 i1 l1 eq e3 e fG a4 a3 kpos k1 bJ rp ep le b2 a2 b1 a1 hy hx eb ea hl h0 hb1 hk;lia)
      have nx:∀j,j<k'->j<b.size->R rk b j<=rk q.1:=fun j j1 j2=>by
       have:=SM (l2 j j1)
       (clear j2 j1 l1 rq eq e3 e fG a4 a3 kpos k1 bJ rp ep le b2 a2 b1 a1 hy hx eb ea hl h0 hb1 hk;lia)
      apply aL
      case' h1=>
       intro kpos;refine aL (fun e=> ?_) (fun e=> ?_)
       ·exact wpS_pure ⟨wC,.inl ⟨_,_,rfl,mC.first fun i j i1 i2 j1 j2=>mid i j _ i1 (eq_of_beq e) j2⟩⟩
       have e4:¬k'=1:=fun z=>e (beq_iff_eq.mpr z);refine aL (fun e=> ?_) (fun e=> ?_)
       ·exact wpS_pure ⟨wC,.inl ⟨_,_,rfl,mC.done (.inr (by simpa using e))⟩⟩
       have e5:¬k'=0:=fun z=>e (beq_iff_eq.mpr z);have b3:2<=k':=by (clear e kpos l1 rq eq e3 fG a4 a3 k1 bJ rp ep le b2 a2 b1 a1 hy hx eb ea hl h0 hb1 hk;lia)
      case' h2=>
       intro kpos;have k0:k'=nb - 1:=by (clear rq eq e3 e fG a4 a3 k1 bJ rp ep le b2 a2 b1 a1 hy hx eb ea hl h0 hb1 hk;lia)
       rw [k0] at nx;have b3:2<=nb - 1:=by (clear k0 kpos l1 rq eq e fG a4 a3 k1 bJ rp ep le b2 a2 a1 hy hx eb ea hl h0 hb1 hk;lia)
       replace mC:=mB
      all_goals
       have mD:=mC.rK a3 a4 (fun j j1 j2=>by rw [rq];exact nx j j1 j2);have fP:=Option.some.inj ((getElem?_pos a _ (by (clear b3 kpos l1 rq eq e3 e fG k1 bJ rp ep le b2 a2 b1 a1 hy hx eb ea hl h0 hb1 hk;lia))).symm.trans eq);rw [fP] at mD;refine wpS_bind (bC eq ?_);refine aL (fun e=> ?_) (fun e=> ?_)
       ·exact wpS_pure ⟨wC,.inl ⟨_,_,rfl,mD.done (.inl (eq_of_beq e))⟩⟩
       have e6:¬_=0:=fun z=>e (beq_iff_eq.mpr z);refine aL (fun _=> ?_) (fun _=> ?_)
       ·exact wpS_pure ⟨wC,.inr ⟨_,_,_,_,_,_,rfl,mD,by (clear e fP b3 kpos l1 rq eq e3 fG a4 a3 k1 bJ rp ep le b2 a2 b1 a1 hy hx eb ea hl h0 hb1 hk;lia),by (clear e6 e fP b3 kpos l1 rq eq fG a4 a3 k1 bJ rp ep le b2 a2 a1 hy hx eb ea hl h0 hb1 hk;lia),by (clear e6 e fP b3 kpos l1 rq eq e3 fG a4 a3 k1 bJ rp ep le b2 b1 a1 hy hx eb ea hl h0 hb1 hk;lia),by (clear e6 e fP b3 kpos rq eq e3 fG a4 a3 k1 bJ rp ep le a2 b1 a1 hy hx eb ea hl h0 hb1 hk;lia),by (clear e6 e fP b3 kpos rq eq e3 fG a4 a3 k1 bJ rp ep b2 a2 b1 a1 hy hx eb ea hl h0 hb1 hk;lia)⟩⟩
       ·exact wpS_pure ⟨wC,_,_,_,_,_,_,rfl,mD,by (clear e fP b3 kpos l1 rq eq e3 fG a4 a3 k1 bJ rp ep le b2 a2 b1 a1 hy hx eb ea hl h0 hb1 hk;lia),by (clear e6 e fP b3 kpos l1 rq eq fG a4 a3 k1 bJ rp ep le b2 a2 a1 hy hx eb ea hl h0 hb1 hk;lia),by (clear e6 e fP b3 kpos l1 rq eq e3 fG a4 a3 k1 bJ rp ep le b2 b1 a1 hy hx eb ea hl h0 hb1 hk;lia),by (clear e6 e fP b3 kpos rq eq e3 fG a4 a3 k1 bJ rp ep le a2 b1 a1 hy hx eb ea hl h0 hb1 hk;lia),by (clear e6 e fP b3 kpos rq eq e3 fG a4 a3 k1 bJ rp ep b2 a2 b1 hy hx eb ea hl h0 hb1 hk;lia)⟩
end
end Tim
set_option Elab.async false
set_option linter.all false
set_option maxRecDepth 100000
set_option maxHeartbeats 4000000
namespace Tim
open PySem PyProof.Rows
section
variable {prog:Program} {w:World} {A:Around} {E:Value->Shared->Prop} {s:Shared} {κ:SortKind} {a₀:Array Keyed} {rk:Value->Nat} {pd:Array (Nat×Nat×Nat)}
structure SB (κ:SortKind) (a₀:Array Keyed) (pd:Array (Nat×Nat×Nat)) (st:SortSt):Prop where
 perm:(arrOf st).Perm a₀
 kind:kindOf st=κ
 failed:failedOf st=none
 pend:pendingOf st=pd
theorem SB.size {st:SortSt} (h:SB κ a₀ pd st):(arrOf st).size=a₀.size:=h.perm.size_eq
theorem SB.setArr {st:SortSt} (h:SB κ a₀ pd st) {xs:Array Keyed} (hp:xs.Perm (arrOf st)):SB κ a₀ pd (setArr st xs):=⟨hp.trans h.perm,h.kind,h.failed,h.pend⟩
theorem SB.mem {st:SortSt} (h:SB κ a₀ pd st) {p:Keyed} (hp:p∈(arrOf st).toList):p∈a₀.toList:=(Array.perm_iff_toList_perm.mp h.perm).mem_iff.mp hp
theorem i_ {st:SortSt} {i j:Nat} {Q:Option Bool->SortSt->Prop} (C:z6 prog w A s κ a₀ rk) (hB:SB κ a₀ pd st) (hi:i<a₀.size) (hj:j<a₀.size) (h:Q (some (decide (R rk (arrOf st) i<R rk (arrOf st) j))) st):
 wpS (model prog w) A E s (ltAt' i j) Q st:=by
 rw [ltAt'_eq];refine wpS_bind (wpS_get ?_);have hi':i<(arrOf st).size:=by rw [hB.size];exact hi
 have hj':j<(arrOf st).size:=by rw [hB.size];exact hj
 rw [gk hi',gk hj'] at h;exact wpS_bind (bC (getElem?_pos (arrOf st) i hi') (wpS_bind (bC (getElem?_pos (arrOf st) j hj') (qT C hB.kind (hB.mem (by simp)) (hB.mem (by simp)) h))))
def Kb (lo:Nat) (st st':SortSt):Prop:=∀i,i<lo->(arrOf st')[i]? = (arrOf st)[i]?
theorem Kb.refl {lo:Nat} {st:SortSt}:Kb lo st st:=fun _ _=>rfl
theorem Kb.trans {lo:Nat} {a b c:SortSt} (h:Kb lo a b) (g:Kb lo b c):Kb lo a c:=fun i hi=>(g i hi).trans (h i hi)
theorem t_ {xs:Array Keyed} {i j:Nat} (hj:j<=xs.size) (k:Nat):R rk (mirror xs i j ((j - i) / 2)) k=if i<=k/\k<j then R rk xs (i+j - 1 - k) else R rk xs k:=by
 have e:=getElem?_mirror_all (i:=i) hj k
 by_cases h1:i<=k/\k<j
 ·rw [if_pos h1] at e ⊢;exact eO e
 ·rw [if_neg h1] at e ⊢;exact eO e
theorem lM {st:SortSt} {lo i j:Nat} (hj:j<=(arrOf st).size) (hi:lo<=i):Kb lo st (setArr st (mirror (arrOf st) i j ((j - i) / 2))):=fun k hk=>by
 show (mirror (arrOf st) i j ((j - i) / 2))[k]? = _;rw [getElem?_mirror_all hj,if_neg (by (clear hj;lia))]
theorem iC {xs:Array Keyed} {i j:Nat} (hj:j<=xs.size) (heq:∀k,i<=k->k<j->R rk xs k=R rk xs (j - 1)) (k:Nat):R rk (mirror xs i j ((j - i) / 2)) k=R rk xs k:=by
 rw [t_ hj];split
 ·rw [heq _ (by (clear hj;lia)) (by (clear hj;lia)),heq k (by (clear hj;lia)) (by (clear hj;lia))]
 ·rfl
theorem zY {xs:Array Keyed} {src d:Nat} (hs:src<xs.size) (hd:d<=src) (k:Nat):
 R rk (bubble xs src d) k=if k=src - d then R rk xs src else if src - d<k/\k<=src then R rk xs (k - 1) else R rk xs k:=by
 have e:=getElem?_bubble hs d hd k
 by_cases h1:k=src - d
 ·rw [if_pos h1] at e ⊢;exact eO e
 ·rw [if_neg h1] at e ⊢
  by_cases h2:src - d<k/\k<=src
  ·rw [if_pos h2] at e ⊢;exact eO e
  ·rw [if_neg h2] at e ⊢;exact eO e
def Tp (rk:Value->Nat) (xs:Array Keyed) (lo hi:Nat):Prop:=∀i j,lo<=i->i<=j->j<hi->R rk xs j<=R rk xs i
theorem wpS_countRun {st:SortSt} {lo nrem:Nat} {Q:Option Nat->SortSt->Prop} (C:z6 prog w A s κ a₀ rk) (hn:lo+nrem<=a₀.size) (h1:1<=nrem) (hB:SB κ a₀ pd st)
 (h:∀m st',SB κ a₀ pd st'->Kb lo st st'->1<=m->m<=nrem->Seg rk (arrOf st') lo (lo+m)->Q (some m) st'):wpS (model prog w) A E s (countRun' lo nrem) Q st:=by
 rw [countRun'_eq]
 refine wpS_bind (wpS_mono (wpS_forRange (I:=fun x c st'=>st'=st/\c=(none,x)/\Seg rk (arrOf st) lo (lo+x))
  (Q:=fun c st'=>st'=st /\ ∃n,c=(none,n)/\1<=n/\n<=nrem/\Seg rk (arrOf st) lo (lo+n)/\(n=nrem\/R rk (arrOf st) (lo+n)<R rk (arrOf st) (lo+n - 1))) ?step ?fin ⟨rfl,rfl,fun i j a b c=>by rw [show i=j by (clear h1 hn;lia)];exact Nat.le_refl _⟩) ?post)
 case fin=>
  rintro c st' ⟨rfl,rfl,hs⟩;rw [show max 1 nrem=nrem by (clear hn;lia)] at hs ⊢;exact ⟨rfl,nrem,rfl,h1,Nat.le_refl _,hs,.inl rfl⟩
 case step=>
  rintro x c st' x1 xn ⟨rfl,rfl,hs⟩;dsimp only;refine wpS_bind (i_ C hB (by (clear x1 h1;lia)) (by (clear x1 h1;lia)) ?_);dsimp only;refine aL (fun lt=> ?_) (fun lt=> ?_)
  ·exact wpS_pure ⟨rfl,x,rfl,x1,by (clear lt x1 h1 hn;lia),hs,.inr (of_decide_eq_true lt)⟩
  ·have lt:R rk (arrOf st') (lo+x - 1)<=R rk (arrOf st') (lo+x):=Nat.le_of_not_lt fun z=>lt (decide_eq_true z)
   refine wpS_pure ⟨rfl,rfl,fun i j a b c=> ?_⟩
   by_cases hj:j<lo+x
   ·exact hs i j a b hj
   ·have:j=lo+x:=by (clear b a lt xn x1 h1 hn;lia)
    subst this
    by_cases hi:i=lo+x
    ·rw [hi];exact Nat.le_refl _
    ·exact Nat.le_trans (hs i (lo+x - 1) a (by (clear hj c a lt xn x1 h1 hn;lia)) (by (clear hi hj c b a lt xn h1 hn;lia))) lt
 case post=>
  rintro c st' ⟨rfl,n,rfl,n1,nn,hs,hor⟩;dsimp only;have hsz:(arrOf st').size=a₀.size:=hB.size;refine aL (fun e=> ?_) (fun e=> ?_)
  ·exact wpS_pure (h n _ hB Kb.refl n1 nn hs)
  have e:¬n=nrem:=fun z=>e (beq_iff_eq.mpr z);have lt:=hor.resolve_left e;have n2:n+1<=nrem:=by (clear lt hsz hor n1 h1 hn;lia)
  apply aL
  case' h1=>
   intro gt;refine wpS_bind (i_ C hB (by (clear gt n2 lt e hsz hor nn n1;lia)) (by (clear gt n2 lt e hsz hor n1;lia)) ?_);dsimp only;refine aL (fun rose=> ?_) (fun rose=> ?_)
   ·exact wpS_pure (h n _ hB Kb.refl n1 nn hs)
   have rose:R rk (arrOf st') (lo+n - 1)<=R rk (arrOf st') lo:=Nat.le_of_not_lt fun z=>rose (decide_eq_true z)
   have all:∀k,lo<=k->k<lo+n->R rk (arrOf st') k=R rk (arrOf st') (lo+n - 1):=fun k k1 k2=>by
    have a1:=hs lo k (Nat.le_refl _) k1 k2;have a2:=hs k (lo+n - 1) k1 (by (clear a1 k1 rose gt n2 lt e hsz hor nn n1 h1 hn;lia)) (by (clear a1 k2 k1 rose gt n2 lt e hsz hor nn h1 hn;lia))
    (clear k2 k1 gt n2 lt e hsz hor nn n1 h1 hn;lia)
   rw [reverseSlice'_eq];refine wpS_bind (wpS_modify ?_);have zx:SB κ a₀ pd (setArr st' (mirror (arrOf st') lo (lo+n) ((lo+n - lo) / 2))):=hB.setArr (mirror_perm _ _ _ _);have k1:Kb lo st' (setArr st' (mirror (arrOf st') lo (lo+n) ((lo+n - lo) / 2))):=lM (by (clear rose gt n2 lt e hor n1 h1;lia)) (Nat.le_refl _)
   have dw:Tp rk (arrOf (setArr st' (mirror (arrOf st') lo (lo+n) ((lo+n - lo) / 2)))) lo (lo+n+1):=fun i j a b c=>by
    show R rk (mirror _ _ _ _) j<=R rk (mirror _ _ _ _) i;rw [iC (by (clear c b a rose gt n2 lt e hor n1 h1;lia)) all,iC (by (clear c b a rose gt n2 lt e hor n1 h1;lia)) all]
    by_cases hj:j<lo+n
    ·rw [all i a (by (clear c a rose gt n2 lt e hsz hor nn n1 h1 hn;lia)),all j (by (clear hj c rose gt n2 lt e hsz hor nn n1 h1 hn;lia)) hj];exact Nat.le_refl _
    ·have:j=lo+n:=by (clear b a rose gt n2 lt e hsz hor nn n1 h1 hn;lia)
     subst this
     by_cases hi:i=lo+n
     ·rw [hi];exact Nat.le_refl _
     ·rw [all i a (by (clear hj c a rose gt n2 lt e hsz hor nn n1 h1 hn;lia))];(clear hi hj c b a rose gt n2 lt hsz nn n1 h1 hn;lia)
   generalize setArr st' (mirror (arrOf st') lo (lo+n) ((lo+n - lo) / 2))=st1 at zx k1 dw ⊢
  case' h2=>
   intro gt;have zx:=hB;have k1:Kb lo st' st':=Kb.refl
   have dw:Tp rk (arrOf st') lo (lo+n+1):=fun i j a b c=>by
    have e1:n=1:=by (clear c b a n2 lt e hsz hor nn h1 hn;lia)
    subst e1
    by_cases hi:i=j
    ·rw [hi];exact Nat.le_refl _
    ·have:i=lo+1 - 1:=by (clear gt n2 lt e hor nn n1 hsz h1 hn;lia)
     have:j=lo+1:=by (clear this gt n2 lt e hor nn n1 hsz h1 hn;lia)
     subst_vars
     (clear hi b c a gt n2 lt nn n1 hsz h1 hn;lia)
   revert zx k1 dw;generalize hst:st'=st1;intro zx k1 dw
  all_goals
   refine wpS_bind (wpS_lift (wpAny_rule ⟨rfl, ?_⟩))
   refine wpS_bind (wpS_mono (wpS_forRange (I:=fun x c st2=>∃neq,c=(none,x,neq)/\SB κ a₀ pd st2/\Kb lo st1 st2/\Tp rk (arrOf st2) lo (lo+x)/\neq+1<=x/\(∀i,lo+x - (neq+1)<=i->i<lo+x->R rk (arrOf st2) i=R rk (arrOf st2) (lo+x - 1)))
    (Q:=fun c st2=>∃x neq,c=(none,x,neq)/\n+1<=x/\x<=nrem/\SB κ a₀ pd st2/\Kb lo st1 st2/\Tp rk (arrOf st2) lo (lo+x)/\neq+1<=x/\(∀i,lo+x - (neq+1)<=i->i<lo+x->R rk (arrOf st2) i=R rk (arrOf st2) (lo+x - 1))) ?_ ?_ ⟨0,rfl,zx,Kb.refl,dw,by (clear gt n2 lt e hsz hor nn n1 h1 hn;lia),fun i a b=>by congr 1;(clear gt n2 lt e hsz hor nn n1 h1 hn;lia)⟩) ?_)
   ·rintro x c st2 x1 xn ⟨neq,rfl,hB2,k2,d2,q2,e2⟩
    dsimp only;have jo:(arrOf st2).size=a₀.size:=hB2.size;refine wpS_bind (i_ C hB2 (by (clear jo q2 x1 gt n2 lt e hsz hor nn n1 h1;lia)) (by (clear jo q2 x1 gt n2 lt e hsz hor nn n1 h1;lia)) ?_);dsimp only;refine aL (fun lt=> ?_) (fun lt=> ?_)
    ·have lt:R rk (arrOf st2) (lo+x)<R rk (arrOf st2) (lo+x - 1):=of_decide_eq_true lt
     have step1:∀xs:Array Keyed,(∀k,R rk xs k=R rk (arrOf st2) k)->Tp rk xs lo (lo+(x+1)):=by
      intro xs hk i j a b c;rw [hk,hk]
      by_cases hj:j<lo+x
      ·exact d2 i j a b hj
      ·have:j=lo+x:=by (clear b a lt jo q2 xn x1 gt n2 e hsz hor nn n1 h1 hn;lia)
       subst this
       by_cases hi:i=lo+x
       ·rw [hi];exact Nat.le_refl _
       ·exact Nat.le_trans (Nat.le_of_lt lt) (d2 i (lo+x - 1) a (by (clear hj c a lt jo q2 xn x1 gt n2 e hsz hor nn n1 h1 hn;lia)) (by (clear hi hj c b a lt jo q2 xn gt n2 e hsz hor nn n1 h1 hn;lia)))
     refine aL (fun _=> ?_) (fun _=> ?_)
     ·rw [reverseSlice'_eq]
      refine wpS_bind (wpS_modify (wpS_pure ⟨0,rfl,hB2.setArr (mirror_perm _ _ _ _),k2.trans (lM (by (clear lt q2 x1 gt n2 e hsz hor nn n1 h1;lia)) (by (clear lt jo xn x1 gt n2 e hsz hor nn n1 h1 hn;lia))),step1 _ (iC (by (clear lt q2 x1 gt n2 e hsz hor nn n1 h1;lia)) e2),by (clear lt jo q2 xn x1 gt n2 e hsz hor nn n1 h1 hn;lia),fun i a b=>by congr 1;(clear lt jo q2 xn x1 gt n2 e hsz hor nn n1 h1 hn;lia)⟩))
     ·exact wpS_pure ⟨0,rfl,hB2,k2,step1 _ (fun _=>rfl),by (clear lt jo q2 xn x1 gt n2 e hsz hor nn n1 h1 hn;lia),fun i a b=>by congr 1;(clear lt jo q2 xn x1 gt n2 e hsz hor nn n1 h1 hn;lia)⟩
    ·have ge:R rk (arrOf st2) (lo+x - 1)<=R rk (arrOf st2) (lo+x):=Nat.le_of_not_lt fun z=>lt (decide_eq_true z)
     refine wpS_bind (i_ C hB2 (by (clear ge lt jo q2 x1 gt n2 e hsz hor nn n1 h1;lia)) (by (clear ge lt jo q2 x1 gt n2 e hsz hor nn n1 h1;lia)) ?_);dsimp only;refine aL (fun lg=> ?_) (fun lg=> ?_)
     ·exact wpS_pure ⟨x,neq,rfl,x1,by (clear lg ge lt jo q2 x1 gt n2 e hsz hor nn n1 h1 hn;lia),hB2,k2,d2,q2,e2⟩
     ·have le:R rk (arrOf st2) (lo+x)<=R rk (arrOf st2) (lo+x - 1):=Nat.le_of_not_lt fun z=>lg (decide_eq_true z)
      have Nf:R rk (arrOf st2) (lo+x)=R rk (arrOf st2) (lo+x - 1):=by (clear lg lt jo q2 xn x1 gt n2 e hsz hor nn n1 h1 hn;lia)
      refine wpS_pure ⟨neq+1,rfl,hB2,k2,fun i j a b c=> ?_,by (clear Nf le lg ge lt jo xn x1 gt n2 e hsz hor nn n1 h1 hn;lia),fun i a b=> ?_⟩
      ·by_cases hj:j<lo+x
       ·exact d2 i j a b hj
       ·have:j=lo+x:=by (clear b a Nf le lg ge lt jo q2 xn x1 gt n2 e hsz hor nn n1 h1 hn;lia)
        subst this
        by_cases hi:i=lo+x
        ·rw [hi];exact Nat.le_refl _
        ·rw [Nf];exact d2 i (lo+x - 1) a (by (clear hj c a Nf le lg ge lt jo q2 xn x1 gt n2 e hsz hor nn n1 h1 hn;lia)) (by (clear hi hj c b a Nf le lg ge lt jo q2 xn gt n2 e hsz hor nn n1 h1 hn;lia))
      ·rw [show lo+(x+1) - 1=lo+x by (clear b a Nf le lg ge lt jo q2 xn x1 gt n2 e hsz hor nn n1 h1 hn;lia)]
       by_cases hi:i=lo+x
       ·rw [hi]
       ·rw [Nf];exact e2 i (by (clear hi b Nf le lg ge lt jo q2 xn x1 gt n2 e hsz hor nn n1 h1 hn;lia)) (by (clear a Nf le lg ge lt jo q2 xn x1 gt n2 e hsz hor nn n1 h1 hn;lia))
   ·rintro c st2 ⟨neq,rfl,hB2,k2,d2,q2,e2⟩
    rw [show max (n+1) nrem=nrem by (clear q2 gt n2 lt hsz hor n1 h1 hn;lia)] at d2 q2 e2 ⊢;exact ⟨nrem,neq,rfl,n2,Nat.le_refl _,hB2,k2,d2,q2,e2⟩
   ·rintro c st2 ⟨x,neq,rfl,x1,xn,hB2,k2,d2,q2,e2⟩
    dsimp only;have jo:(arrOf st2).size=a₀.size:=hB2.size;apply aL
    case' h1=>
     intro _;rw [reverseSlice'_eq];refine wpS_bind (wpS_modify ?_);have hB3:SB κ a₀ pd (setArr st2 (mirror (arrOf st2) (lo+x - (neq+1)) (lo+x) ((lo+x - (lo+x - (neq+1))) / 2))):=hB2.setArr (mirror_perm _ _ _ _);have k3:=k2.trans (lM (st:=st2) (lo:=lo) (i:=lo+x - (neq+1)) (j:=lo+x) (by (clear q2 x1 gt n2 lt e hsz hor nn n1 h1;lia)) (by (clear jo xn x1 gt n2 lt e hsz hor nn n1 h1 hn;lia)))
     have d3:Tp rk (arrOf (setArr st2 (mirror (arrOf st2) (lo+x - (neq+1)) (lo+x) ((lo+x - (lo+x - (neq+1))) / 2)))) lo (lo+x):=fun i j a b c=>by
      show R rk (mirror _ _ _ _) j<=R rk (mirror _ _ _ _) i;rw [iC (by (clear c b a q2 x1 gt n2 lt e hsz hor nn n1 h1;lia)) e2,iC (by (clear c b a q2 x1 gt n2 lt e hsz hor nn n1 h1;lia)) e2];exact d2 i j a b c
     generalize setArr st2 (mirror (arrOf st2) (lo+x - (neq+1)) (lo+x) ((lo+x - (lo+x - (neq+1))) / 2))=st3 at hB3 k3 d3 ⊢
    case' h2=>
     intro _;have hB3:=hB2;have k3:=k2;have d3:=d2;revert hB3 k3 d3;generalize st2=st3;intro hB3 k3 d3
    all_goals
     have Cg:(arrOf st3).size=a₀.size:=hB3.size;rw [reverseSlice'_eq];refine wpS_bind (wpS_modify ?_);have pB:SB κ a₀ pd (setArr st3 (mirror (arrOf st3) lo (lo+x) ((lo+x - lo) / 2))):=hB3.setArr (mirror_perm _ _ _ _);have k4:=k3.trans (lM (st:=st3) (lo:=lo) (i:=lo) (j:=lo+x) (by (clear jo q2 x1 gt n2 lt e hsz hor nn n1 h1;lia)) (by (clear Cg jo q2 xn x1 gt n2 lt e hsz hor nn n1 h1 hn;lia)))
     have s4:Seg rk (arrOf (setArr st3 (mirror (arrOf st3) lo (lo+x) ((lo+x - lo) / 2)))) lo (lo+x):=fun i j a b c=>by
      show R rk (mirror _ _ _ _) i<=R rk (mirror _ _ _ _) j;rw [t_ (by (clear c b a jo q2 x1 gt n2 lt e hsz hor nn n1 h1;lia)),t_ (by (clear c b a jo q2 x1 gt n2 lt e hsz hor nn n1 h1;lia)),if_pos (by (clear Cg jo q2 xn x1 gt n2 lt e hsz hor nn n1 h1 hn;lia)),if_pos (by (clear Cg jo q2 xn x1 gt n2 lt e hsz hor nn n1 h1 hn;lia))];exact d3 _ _ (by (clear b a Cg jo q2 xn x1 gt n2 lt e hsz hor nn n1 h1 hn;lia)) (by (clear c a Cg jo q2 xn x1 gt n2 lt e hsz hor nn n1 h1 hn;lia)) (by (clear c b Cg jo q2 xn gt n2 lt e hsz hor nn n1 h1 hn;lia))
     generalize setArr st3 (mirror (arrOf st3) lo (lo+x) ((lo+x - lo) / 2))=kW at pB k4 s4 ⊢
     refine wpS_bind (wpS_mono (wpS_forRange (I:=fun y c xQ=>xQ=kW/\c=(none,y)/\Seg rk (arrOf kW) lo (lo+y))
      (Q:=fun c xQ=>xQ=kW /\ ∃y,c=(none,y)/\x<=y/\y<=nrem/\Seg rk (arrOf kW) lo (lo+y)) ?_ ?_ ⟨rfl,rfl,s4⟩) ?_)
     ·rintro y c xQ y1 yn ⟨rfl,rfl,OD⟩
      dsimp only;refine wpS_bind (i_ C pB (by (clear y1 Cg jo q2 xn x1 gt n2 lt e hsz hor nn n1 h1;lia)) (by (clear y1 Cg jo q2 xn x1 gt n2 lt e hsz hor nn n1 h1;lia)) ?_);dsimp only;refine aL (fun lt=> ?_) (fun lt=> ?_)
      ·exact wpS_pure ⟨rfl,y,rfl,y1,by (clear lt y1 Cg jo q2 xn x1 gt n2 e hsz hor nn n1 h1 hn;lia),OD⟩
      ·have lt:R rk (arrOf xQ) (lo+y - 1)<=R rk (arrOf xQ) (lo+y):=Nat.le_of_not_lt fun z=>lt (decide_eq_true z)
       refine wpS_pure ⟨rfl,rfl,fun i j a b c=> ?_⟩
       by_cases hj:j<lo+y
       ·exact OD i j a b hj
       ·have:j=lo+y:=by (clear b a lt yn y1 Cg jo q2 xn x1 gt n2 e hsz hor nn n1 h1 hn;lia)
        subst this
        by_cases hi:i=lo+y
        ·rw [hi];exact Nat.le_refl _
        ·exact Nat.le_trans (OD i (lo+y - 1) a (by (clear hj c a lt yn y1 Cg jo q2 xn x1 gt n2 e hsz hor nn n1 h1 hn;lia)) (by (clear hi hj c b a lt yn Cg jo q2 xn gt n2 e hsz hor nn n1 h1 hn;lia))) lt
     ·rintro c xQ ⟨rfl,rfl,OD⟩
      rw [show max x nrem=nrem by (clear Cg jo q2 x1 gt n2 lt e hsz hor nn n1 h1 hn;lia)] at OD ⊢;exact ⟨rfl,nrem,rfl,xn,Nat.le_refl _,OD⟩
     ·rintro c xQ ⟨rfl,y,rfl,y1,yn,OD⟩
      exact wpS_pure (h y _ pB (by first |exact k1.trans k4|(subst hst;exact k4)) (by (clear yn Cg jo q2 xn gt n2 lt e hsz hor nn n1 h1 hn;lia)) yn OD)
theorem wpS_binarySort {st:SortSt} {lo n ok:Nat} {Q:Bool->SortSt->Prop} (C:z6 prog w A s κ a₀ rk) (hn:lo+n<=a₀.size) (hok:ok<=n) (hB:SB κ a₀ pd st) (hs:Seg rk (arrOf st) lo (lo+ok))
 (h:∀st',SB κ a₀ pd st'->Kb lo st st'->Seg rk (arrOf st') lo (lo+n)->Q true st'):wpS (model prog w) A E s (binarySort' lo n ok) Q st:=by
 rw [binarySort'_eq]
 refine wpS_bind (wpS_mono (wpS_forRange (I:=fun k c st'=>c=(none,())/\SB κ a₀ pd st'/\Kb lo st st'/\Seg rk (arrOf st') lo (lo+min k n))
  (Q:=fun c st'=>c=(none,())/\SB κ a₀ pd st'/\Kb lo st st'/\Seg rk (arrOf st') lo (lo+n)) ?step ?fin ?init) ?post)
 case post=>
  rintro c st' ⟨rfl,hB',k',hs'⟩;exact wpS_pure (h st' hB' k' hs')
 case init=>
  refine ⟨rfl,hB,Kb.refl,fun i j a b c=> ?_⟩
  by_cases h1:ok=0
  ·rw [show i=j by (clear hok hn;lia)];exact Nat.le_refl _
  ·exact hs i j a b (by (clear b a hok hn;lia))
 case fin=>
  rintro c st' ⟨hc,hB',k',hs'⟩;refine ⟨hc,hB',k', ?_⟩;rwa [show min (max (max ok 1) n) n=n by (clear hc hok hn;lia)] at hs'
 case step=>
  rintro k c st' hak hkn ⟨rfl,hB',k',hs'⟩;rw [show min k n=k by (clear hak hok hn;lia)] at hs';have sz:(arrOf st').size=a₀.size:=hB'.size
  refine wpS_bind (wpS_mono (wpS_forRange (I:=fun x c st''=>st''=st' /\ ∃l r,c=(none,l,r)/\l<=r/\r<=k/\r - l<=k - x /\
   (∀i,i<l->R rk (arrOf st') (lo+i)<=R rk (arrOf st') (lo+k))/\(∀i,r<=i->i<k->R rk (arrOf st') (lo+k)<R rk (arrOf st') (lo+i)))
   (Q:=fun c st''=>st''=st' /\ ∃l r,c=(none,l,r)/\l<=k /\
     (∀i,i<l->R rk (arrOf st') (lo+i)<=R rk (arrOf st') (lo+k))/\(∀i,l<=i->i<k->R rk (arrOf st') (lo+k)<R rk (arrOf st') (lo+i))) ?istep ?ifin ?iinit) ?ipost)
  case iinit=>exact ⟨rfl,0,k,rfl,by (clear sz hkn hak hok hn;lia),by (clear sz hkn hak hok hn;lia),by (clear sz hkn hak hok hn;lia),fun i hi=>by (clear sz hkn hak hok hn;lia),fun i h1 h2=>by (clear sz hkn hak hok hn;lia)⟩
  case ifin=>
   rintro c st'' ⟨rfl,l,r,rfl,hlr,hrk,hm,hlo,hhi⟩;have:l=r:=by (clear hrk sz hkn hak hok hn;lia)
   subst this;exact ⟨rfl,l,l,rfl,hrk,hlo,hhi⟩
  case istep=>
   rintro x c st'' _ hxk ⟨rfl,l,r,rfl,hlr,hrk,hm,hlo,hhi⟩;dsimp only;refine aL (fun hge=> ?_) (fun hge=> ?_)
   ·have:l=r:=by (clear hm hrk sz hxk hkn hak hok hn;lia)
    subst this;exact wpS_pure ⟨rfl,l,l,rfl,hrk,hlo,hhi⟩
   ·refine wpS_bind (i_ C hB' (by (clear hge hm hrk hlr sz hxk hak hok;lia)) (by (clear hge hm sz hxk hak hok;lia)) ?_)
    dsimp only;refine aL (fun lt=> ?_) (fun lt=> ?_)
    ·have lt:=of_decide_eq_true lt
     refine wpS_pure ⟨rfl,l,(l+r) / 2,rfl,by (clear lt hge hm hrk sz hxk hkn hak hok hn;lia),by (clear lt hge hm sz hxk hkn hak hok hn;lia),by (clear lt hge hrk hlr sz hxk hkn hak hok hn;lia),hlo,fun i h1 h2=> ?_⟩;exact Nat.lt_of_lt_of_le lt (hs' _ _ (by (clear h2 h1 lt hge hm hrk hlr sz hxk hkn hak hok hn;lia)) (by (clear h2 lt hge hm hrk hlr sz hxk hkn hak hok hn;lia)) (by (clear h1 lt hge hm hrk hlr sz hxk hkn hak hok hn;lia)))
    ·have lt:R rk (arrOf st'') (lo+(l+r) / 2)<=R rk (arrOf st'') (lo+k):=Nat.le_of_not_lt fun z=>lt (decide_eq_true z)
     refine wpS_pure ⟨rfl,(l+r) / 2+1,r,rfl,by (clear lt hm hrk hlr sz hxk hkn hak hok hn;lia),by (clear lt hge hm hlr sz hxk hkn hak hok hn;lia),by (clear lt hge hrk hlr sz hxk hkn hak hok hn;lia),fun i h1=> ?_,hhi⟩;exact Nat.le_trans (hs' (lo+i) (lo+(l+r) / 2) (by (clear h1 lt hge hm hrk hlr sz hxk hkn hak hok hn;lia)) (by (clear lt hge hm hrk hlr sz hxk hkn hak hok hn;lia)) (by (clear h1 lt hm hlr sz hxk hkn hak hok hn;lia))) lt
  case ipost=>
   rintro c st'' ⟨rfl,l,r,rfl,hlk,hlo,hhi⟩;show wpS _ _ _ _ (do moveDown' (lo+k) (lo+l);pure (ForInStep.yield (none,()))) _ _;rw [moveDown'_eq];refine wpS_bind (wpS_modify (wpS_pure ⟨rfl,hB'.setArr (bubble_perm _ _ _),k'.trans ?_, ?_⟩))
   ·intro i hi
    show (bubble (arrOf st'') (lo+k) (lo+k - (lo+l)))[i]? = _;rw [getElem?_bubble (by (clear hi hlk hak hok;lia)) _ (by (clear hi hlk sz hkn hak hok hn;lia)),if_neg (by (clear hlk sz hkn hak hok hn;lia)),if_neg (by (clear hlk sz hkn hak hok hn;lia))]
   rw [show min (k+1) n=k+1 by (clear hlk sz hak hok hn;lia)];intro i j a b c;show R rk (bubble (arrOf st'') (lo+k) (lo+k - (lo+l))) i<=R rk (bubble (arrOf st'') (lo+k) (lo+k - (lo+l))) j;rw [zY (by (clear c b a hlk hak hok;lia)) (by (clear c b a hlk sz hkn hak hok hn;lia)),zY (by (clear c b a hlk hak hok;lia)) (by (clear c b a hlk sz hkn hak hok hn;lia)),show lo+k - (lo+k - (lo+l))=lo+l by (clear c b a sz hkn hak hok hn;lia)]
   have L1:∀i,lo<=i->i<lo+l->R rk (arrOf st'') i<=R rk (arrOf st'') (lo+k):=fun i i1 i2=>by
    have:=hlo (i - lo) (by (clear c b a hlk sz hkn hak hok hn;lia));rwa [show lo+(i - lo)=i by (clear this i2 c b a hlk sz hkn hak hok hn;lia)] at this
   have L2:∀i,lo+l<=i->i<lo+k->R rk (arrOf st'') (lo+k)<R rk (arrOf st'') i:=fun i i1 i2=>by
    have:=hhi (i - lo) (by (clear i2 c b a hlk sz hkn hak hok hn;lia)) (by (clear i1 c b a hlk sz hkn hok hn;lia));rwa [show lo+(i - lo)=i by (clear this i2 c b a hlk sz hkn hak hok hn;lia)] at this
   repeat' split
   all_goals first
    | (exfalso;(clear a hlk sz hkn hak hok hn;lia))
    | exact Nat.le_refl _
    | exact L1 _ (by (clear c b hlk sz hkn hak hok hn;lia)) (by (clear c a hlk sz hkn hak hok hn;lia))
    | exact Nat.le_of_lt (L2 _ (by (clear c b a hlk sz hkn hak hok hn;lia)) (by (clear c b a hlk sz hkn hak hok hn;lia)))
    | exact hs' _ _ (by (clear c b hlk sz hkn hak hok hn;lia)) (by (clear c a hlk sz hkn hak hok hn;lia)) (by (clear b a sz hkn hak hok hn;lia))
end
end Tim
set_option Elab.async false
set_option linter.all false
set_option maxRecDepth 100000
set_option maxHeartbeats 4000000
namespace Tim
open PySem PyProof.Rows
theorem yN (i:Nat):mergeAt' i=(do
 let s ←get
 let (some (sa,na,power),some (sb,nb,_)):=((pendingOf s)[i]?,(pendingOf s)[i+1]?)|unsupported "internal:list.sort.pending"
 set (SortSt.mk' (kindOf s) (arrOf s) (((pendingOf s).setIfInBounds i (sa,na+nb,power)).eraseIdxIfInBounds (i+1)) (gallopOf s) (failedOf s))
 let some k ←jt false (←elem' (arrOf s) sb) (arrOf s) sa na 0|return false
 let (sa,na):=(sa+k,na - k)
 if na==0 then return true
 let some nb ←jt true (←elem' (arrOf s) (sa+na - 1)) (arrOf s) sb nb (nb - 1)|return false
 if nb==0 then return true
 let x:=(arrOf s).extract sa sb
 let y:=(arrOf s).extract sb (sb+nb)
 let merged ←if na<=nb then rZ x y else su x y
 modify fun s=>setArr s (merged.toList.zipIdx.foldl (fun a (p,j)=>a.setIfInBounds (sa+j) p) (arrOf s))
 return (failedOf (←get)).isNone):=rfl
section
variable {prog:Program} {w:World} {A:Around} {E:Value->Shared->Prop} {s:Shared} {κ:SortKind} {a₀:Array Keyed} {rk:Value->Nat} {pd:Array (Nat×Nat×Nat)}
theorem Cu (b:Nat) (m:List Keyed):∀(n:Nat) (xs:Array Keyed) (j:Nat),b+n+m.length<=xs.size->((m.zipIdx n).foldl (fun a x=>a.setIfInBounds (b+x.2) x.1) xs)[j]? = if b+n<=j/\j<b+n+m.length then m[j - (b+n)]? else xs[j]? :=by
 induction m with
 | nil=>intro n xs j h;rw [if_neg (by simp)];rfl
 | cons p m ih=>
   intro n xs j h;rw [List.length_cons] at h;rw [List.zipIdx_cons,List.foldl_cons,ih (n+1) _ j (by rw [Array.size_setIfInBounds];lia)]
   by_cases e:j=b+n
   ·subst e
    rw [if_neg (by (clear h;lia)),if_pos (by rw [List.length_cons];(clear h;lia)),Nat.sub_self];rw [Array.getElem?_setIfInBounds_self_of_lt (by lia)];rfl
   ·by_cases c:b+(n+1)<=j/\j<b+(n+1)+m.length
    ·rw [if_pos c,if_pos (by rw [List.length_cons];(clear e h;lia)),show j - (b+n)=(j - (b+(n+1)))+1 by (clear e h;lia),List.getElem?_cons_succ]
    ·rw [if_neg c,if_neg (by rw [List.length_cons];(clear h;lia)),Array.getElem?_setIfInBounds_ne (Ne.symm e)]
theorem Hz {b n:Nat} {m:List Keyed} {xs:Array Keyed} (hl:m.length=n) (hb:b+n<=xs.size) (hp:m.Perm ((xs.toList.drop b).take n)):((m.zipIdx).foldl (fun a x=>a.setIfInBounds (b+x.2) x.1) xs).Perm xs:=by
 have e:((m.zipIdx).foldl (fun a x=>a.setIfInBounds (b+x.2) x.1) xs).toList=xs.toList.take b++(m++xs.toList.drop (b+n)):=by
  have hx:xs.toList.length=xs.size:=Array.length_toList;apply List.ext_getElem?;intro j;rw [Array.getElem?_toList,Cu b m 0 xs j (by (clear hx;lia))]
  by_cases j1:j<b
  ·rw [if_neg (by (clear hx hb hl;lia)),List.getElem?_append_left (by rw [List.length_take,hx];(clear hx hl;lia)),List.getElem?_take_of_lt j1,Array.getElem?_toList]
  ·rw [List.getElem?_append_right (by rw [List.length_take,hx];(clear hx hb hl;lia)),List.length_take,hx,Nat.min_eq_left (by (clear j1 hx hl;lia))]
   by_cases j2:j<b+n
   ·rw [if_pos (by (clear hx hb;lia)),List.getElem?_append_left (by (clear hx hb;lia))];rfl
   ·rw [if_neg (by (clear j1 hx hb;lia)),List.getElem?_append_right (by (clear j1 hx hb;lia)),List.getElem?_drop,Array.getElem?_toList]
    congr 1
    (clear j1 hx hb;lia)
 refine Array.perm_iff_toList_perm.mpr ?_;rw [e]
 have sp:xs.toList=xs.toList.take b++((xs.toList.drop b).take n++xs.toList.drop (b+n)):=by
  rw [←sW,List.take_append_drop]
 refine List.Perm.trans ?_ (List.Perm.of_eq sp.symm);exact List.Perm.append_left _ (List.Perm.append_right _ hp)
theorem p7 {xs:Array Keyed} {lo hi i:Nat} (h:lo+i<hi) (hh:hi<=xs.size):R rk (xs.extract lo hi) i=R rk xs (lo+i):=by
 apply eO;rw [Array.getElem?_extract];rw [if_pos (by lia)]
theorem K5 {σ:Type} {M:Model} {A:Around} {E:Value->Shared->Prop} {s:Shared} {x:σ} {Q:PUnit->σ->Prop} {st:σ} (h:Q ⟨⟩ x):wpS M A E s (set x:StateT σ Sem PUnit) Q st:=by
 unfold wpS;rw [StateT.run_set];exact wpAny_pure ⟨rfl,h⟩
theorem xZ {st:SortSt} {i sa na pw sb nb ZS:Nat} {Q:Bool->SortSt->Prop} (C:z6 prog w A s κ a₀ rk) (hB:SB κ a₀ pd st) (h1:pd[i]? = some (sa,na,pw)) (h2:pd[i+1]? = some (sb,nb,ZS)) (hsb:sb=sa+na) (na1:1<=na) (cD:1<=nb) (hz:sb+nb<=a₀.size)
 (s1:Seg rk (arrOf st) sa (sa+na)) (s2:Seg rk (arrOf st) sb (sb+nb))
 (h:∀st',SB κ a₀ ((pd.setIfInBounds i (sa,na+nb,pw)).eraseIdxIfInBounds (i+1)) st'->(∀j,j<sa\/sb+nb<=j->(arrOf st')[j]? = (arrOf st)[j]?)->Seg rk (arrOf st') sa (sb+nb)->Q true st'):
 wpS (model prog w) A E s (mergeAt' i) Q st:=by
 rw [yN];refine wpS_bind (wpS_get ?_);rw [hB.pend,h1,h2];dsimp only;have sz:(arrOf st).size=a₀.size:=hB.size;have nW:∀p∈(arrOf st).toList,p∈a₀.toList:=fun p hp=>hB.mem hp;have Ou:∀i,i<a₀.size -> ∃p,(arrOf st)[i]? = some p/\p∈a₀.toList/\R rk (arrOf st) i=rk p.1:=fun i hi=>⟨(arrOf st)[i]'(by (clear hz cD na1 hsb h2 h1;lia)),getElem?_pos (arrOf st) i (by (clear hz cD na1 hsb h2 h1;lia)),hB.mem (by simp),gk (by (clear hz cD na1 hsb h2 h1;lia))⟩;refine wpS_bind (K5 ?_);have zx:SB κ a₀ ((pd.setIfInBounds i (sa,na+nb,pw)).eraseIdxIfInBounds (i+1)) (SortSt.mk' (kindOf st) (arrOf st) ((pd.setIfInBounds i (sa,na+nb,pw)).eraseIdxIfInBounds (i+1)) (gallopOf st) (failedOf st)):=⟨hB.perm,hB.kind,hB.failed,rfl⟩;have cg:arrOf (SortSt.mk' (kindOf st) (arrOf st) ((pd.setIfInBounds i (sa,na+nb,pw)).eraseIdxIfInBounds (i+1)) (gallopOf st) (failedOf st))=arrOf st:=rfl;generalize (pd.setIfInBounds i (sa,na+nb,pw)).eraseIdxIfInBounds (i+1)=pd1 at zx cg h ⊢;generalize SortSt.mk' (kindOf st) (arrOf st) pd1 (gallopOf st) (failedOf st)=st1 at zx cg ⊢;obtain ⟨p,ep,mp,rp⟩:=Ou sb (by (clear cg sz na1 hsb h2 h1;lia));refine wpS_bind (bC ep (wpS_bind (gB C zx.kind mp nW (by (clear rp ep cg cD na1 h2 h1;lia)) (by (clear rp ep cg sz hz cD hsb h2 h1;lia)) s1 fun k k1 k2 k3=> ?_)));dsimp only;refine aL (fun e=> ?_) (fun e=> ?_)
 ·have e:na - k=0:=eq_of_beq e
  refine wpS_pure (h st1 zx (fun j _=>by rw [cg]) fun i j a b c=> ?_);rw [cg]
  by_cases hj:j<sb
  ·exact s1 i j a b (by (clear c b a e k1 rp ep cg sz hz cD na1 h2 h1;lia))
  ·by_cases hi:i<sb
   ·have e1:=N_ (k2 (i - sa) (by (clear hj c b a k1 rp ep cg sz hz cD h2 h1;lia)))
    rw [show sa+(i - sa)=i by (clear e1 hi hj c b e k1 rp ep cg sz hz cD na1 hsb h2 h1;lia)] at e1;have e2:=s2 sb j (Nat.le_refl _) (by (clear e1 hi c b a e k1 rp ep cg sz hz cD na1 hsb h2 h1;lia)) c
    (clear hi hj c b a e k1 ep cg sz hz cD na1 hsb h2 h1;lia)
   ·exact s2 i j (by (clear hj c b a e k1 rp ep cg sz hz cD na1 hsb h2 h1;lia)) b c
 have ek:k<na:=by have:¬na - k=0:=fun z=>e (beq_iff_eq.mpr z);(clear e k1 rp ep cg sz hz cD na1 hsb h2 h1;lia)
 obtain ⟨q,eq,mq,rq⟩:=Ou (sa+k+(na - k) - 1) (by (clear ek e rp ep cg sz cD h2 h1;lia));refine wpS_bind (bC eq (wpS_bind (gB C zx.kind mq nW (by (clear rq eq ek e k1 rp ep cg cD na1 hsb h2 h1;lia)) (by (clear rq eq ek e k1 rp ep cg sz hz na1 hsb h2 h1;lia)) s2 fun n2 l1 l2 l3=> ?_)));dsimp only;have aM:sa+k+(na - k) - 1=sb - 1:=by (clear l1 rq eq ek e rp ep cg sz hz cD na1 h2 h1;lia)
 rw [aM] at rq;refine aL (fun e=> ?_) (fun e=> ?_)
 ·have e:n2=0:=eq_of_beq e
  refine wpS_pure (h st1 zx (fun j _=>by rw [cg]) fun i j a b c=> ?_);rw [cg]
  by_cases hj:j<sb
  ·exact s1 i j a b (by (clear c b a e aM l1 rq eq ek k1 rp ep cg sz hz cD na1 h2 h1;lia))
  ·by_cases hi:i<sb
   ·have e1:=z7 (l3 (j - sb) (by (clear hi hj c b a aM l1 rq eq ek k1 rp ep cg sz hz cD na1 hsb h2 h1;lia)) (by (clear hi hj b a e aM l1 rq eq ek k1 rp ep cg sz hz na1 hsb h2 h1;lia)))
    rw [show sb+(j - sb)=j by (clear e1 hi c b a e aM l1 rq eq ek k1 rp ep cg sz hz cD na1 hsb h2 h1;lia)] at e1;have e2:=s1 i (sb - 1) a (by (clear e1 hj c b a e aM l1 rq eq ek k1 rp ep cg sz hz cD na1 hsb h2 h1;lia)) (by (clear e1 hi hj c b a e aM l1 rq eq ek k1 rp ep cg sz hz cD h2 h1;lia))
    (clear hi hj c b a e aM l1 eq ek k1 rp ep cg sz hz cD na1 hsb h2 h1;lia)
   ·exact s2 i j (by (clear hj c b a e aM l1 rq eq ek k1 rp ep cg sz hz cD na1 hsb h2 h1;lia)) b c
 have e2:¬n2=0:=fun z=>e (beq_iff_eq.mpr z);have dN:((arrOf st).extract (sa+k) sb).size=sb - (sa+k):=by rw [Array.size_extract,Nat.min_eq_left (by (clear e2 e aM l1 rq eq ek k1 rp ep cg cD na1 hsb h2 h1;lia))]
 have dR:((arrOf st).extract sb (sb+n2)).size=n2:=by rw [Array.size_extract,Nat.min_eq_left (by (clear dN e2 e aM rq eq ek k1 rp ep cg cD na1 hsb h2 h1;lia))];(clear dN e2 e aM l1 rq eq ek k1 rp ep cg sz hz cD na1 hsb h2 h1;lia)
 have xin:∀p∈((arrOf st).extract (sa+k) sb).toList,p∈a₀.toList:=fun p hp=>nW p (by rw [bW] at hp;exact List.mem_of_mem_drop (List.mem_of_mem_take hp));have yin:∀p∈((arrOf st).extract sb (sb+n2)).toList,p∈a₀.toList:=fun p hp=>nW p (by rw [bW] at hp;exact List.mem_of_mem_drop (List.mem_of_mem_take hp))
 have sx:Seg rk ((arrOf st).extract (sa+k) sb) 0 ((arrOf st).extract (sa+k) sb).size:=fun i j a b c=>by
  rw [dN] at c;rw [p7 (by (clear a dR dN e2 e aM l1 rq eq ek k1 rp ep cg sz hz cD na1 hsb h2 h1;lia)) (by (clear c b a dR dN e2 e aM l1 rq eq ek k1 rp ep cg cD na1 hsb h2 h1;lia)),p7 (by (clear b a dR dN e2 e aM l1 rq eq ek k1 rp ep cg sz hz cD na1 hsb h2 h1;lia)) (by (clear c b a dR dN e2 e aM l1 rq eq ek k1 rp ep cg cD na1 hsb h2 h1;lia))];exact s1 _ _ (by (clear c b a dR dN e2 e aM l1 rq eq ek k1 rp ep cg sz hz cD na1 hsb h2 h1;lia)) (by (clear c a dR dN e2 e aM l1 rq eq ek k1 rp ep cg sz hz cD na1 hsb h2 h1;lia)) (by (clear b a dR dN e2 e aM l1 rq eq ek k1 rp ep cg sz hz cD na1 h2 h1;lia))
 have sy:Seg rk ((arrOf st).extract sb (sb+n2)) 0 ((arrOf st).extract sb (sb+n2)).size:=fun i j a b c=>by
  rw [dR] at c;rw [p7 (by (clear a dR dN e2 e aM l1 rq eq ek k1 rp ep cg sz hz cD na1 hsb h2 h1;lia)) (by (clear c b a dR dN e2 e aM rq eq ek k1 rp ep cg cD na1 hsb h2 h1;lia)),p7 (by (clear b a dR dN e2 e aM l1 rq eq ek k1 rp ep cg sz hz cD na1 hsb h2 h1;lia)) (by (clear c b a dR dN e2 e aM rq eq ek k1 rp ep cg cD na1 hsb h2 h1;lia))];exact s2 _ _ (by (clear c b a dR dN e2 e aM l1 rq eq ek k1 rp ep cg sz hz cD na1 hsb h2 h1;lia)) (by (clear c a dR dN e2 e aM l1 rq eq ek k1 rp ep cg sz hz cD na1 hsb h2 h1;lia)) (by (clear b a dR dN e2 e aM rq eq ek k1 rp ep cg sz hz cD na1 hsb h2 h1;lia))
 have h0:R rk ((arrOf st).extract sb (sb+n2)) 0<=R rk ((arrOf st).extract (sa+k) sb) 0:=by
  rw [p7 (by (clear dR dN e aM l1 rq eq ek k1 rp ep cg sz hz cD na1 hsb h2 h1;lia)) (by (clear dR dN e2 e aM rq eq ek k1 rp ep cg cD na1 hsb h2 h1;lia)),p7 (by (clear dR dN e2 e aM l1 rq eq k1 rp ep cg sz hz cD na1 h2 h1;lia)) (by (clear dR dN e2 e aM l1 rq eq ek k1 rp ep cg cD na1 hsb h2 h1;lia)),Nat.add_zero,Nat.add_zero,rp];have:=KH (k3 k (Nat.le_refl _) ek)
  (clear dR dN e2 e aM l1 rq eq ek k1 rp ep cg sz hz cD na1 hsb h2 h1;lia)
 have hl:R rk ((arrOf st).extract sb (sb+n2)) (((arrOf st).extract sb (sb+n2)).size - 1)<=R rk ((arrOf st).extract (sa+k) sb) (((arrOf st).extract (sa+k) sb).size - 1):=by
  rw [dN,dR,p7 (by (clear h0 dR dN e aM l1 rq eq ek k1 rp ep cg sz hz cD na1 hsb h2 h1;lia)) (by (clear h0 dR dN e2 e aM rq eq ek k1 rp ep cg cD na1 hsb h2 h1;lia)),p7 (by (clear h0 dR dN e2 e aM l1 rq eq k1 rp ep cg sz hz cD na1 h2 h1;lia)) (by (clear h0 dR dN e2 e aM l1 rq eq ek k1 rp ep cg cD na1 hsb h2 h1;lia)),show sa+k+(sb - (sa+k) - 1)=sb - 1 by (clear h0 dR dN e2 e aM l1 rq eq k1 rp ep cg sz hz cD na1 h2 h1;lia),rq];have:=SM (l2 (n2 - 1) (by (clear h0 dR dN e aM l1 rq eq ek k1 rp ep cg sz hz cD na1 hsb h2 h1;lia)))
  (clear h0 dR dN e2 e aM l1 rq eq ek k1 rp ep cg sz hz cD na1 hsb h2 h1;lia)
 have fin:∀r st2,xV st1 st2->Mg rk ((arrOf st).extract (sa+k) sb) ((arrOf st).extract sb (sb+n2)) r->wpS (model prog w) A E s (do
  modify fun s=>setArr s (List.foldl (fun a x=>a.setIfInBounds (sa+k+x.snd) x.fst) (arrOf s) r.toList.zipIdx)
  let __do_lift ←get
  pure (failedOf __do_lift).isNone) Q st2:=by
  intro r st2 k2' mg;have jx:arrOf st2=arrOf st:=k2'.a.trans cg;refine wpS_bind (wpS_modify ?_);refine wpS_bind (wpS_get ?_);have hf:failedOf (setArr st2 (List.foldl (fun a x=>a.setIfInBounds (sa+k+x.snd) x.fst) (arrOf st2) r.toList.zipIdx))=none:=k2'.f.trans zx.failed;rw [hf]
  have rl:r.toList.length=sb - (sa+k)+n2:=by
   rw [mg.perm.length_eq,List.length_append,Array.length_toList,Array.length_toList,dN,dR]
  have rp':r.toList.Perm (((arrOf st).toList.drop (sa+k)).take (sb - (sa+k)+n2)):=by
   refine mg.perm.trans (List.Perm.of_eq ?_);rw [bW,bW,List.take_add,List.drop_drop,show sb+n2 - sb=n2 by (clear rl hf jx hl h0 dR dN e2 e aM l1 rq eq ek k1 rp ep cg sz hz cD na1 hsb h2 h1;lia),show sa+k+(sb - (sa+k))=sb by (clear rl hf jx hl h0 dR dN e2 e aM l1 rq eq ek rp ep cg sz hz cD na1 h2 h1;lia)]
  have get:∀j,(arrOf (setArr st2 (List.foldl (fun a x=>a.setIfInBounds (sa+k+x.snd) x.fst) (arrOf st2) r.toList.zipIdx)))[j]? = if sa+k<=j/\j<sb+n2 then r.toList[j - (sa+k)]? else (arrOf st)[j]? :=fun j=>by
   show (List.foldl (fun a x=>a.setIfInBounds (sa+k+x.snd) x.fst) (arrOf st2) r.toList.zipIdx)[j]? = _;rw [jx,Cu (sa+k) r.toList 0 (arrOf st) j (by (clear hf jx hl h0 dR dN e2 e aM rq eq ek rp ep cg cD na1 h2 h1;lia)),rl]
   by_cases c:sa+k<=j/\j<sb+n2
   ·rw [if_pos c,if_pos (by (clear rl hf jx hl h0 dR dN e2 e aM l1 rq eq ek k1 rp ep cg sz hz cD na1 hsb h2 h1;lia))];rfl
   ·rw [if_neg c,if_neg (by (clear rl hf jx hl h0 dR dN e2 e aM l1 rq eq ek rp ep cg sz hz cD na1 h2 h1;lia))]
  have hB2:SB κ a₀ pd1 (setArr st2 (List.foldl (fun a x=>a.setIfInBounds (sa+k+x.snd) x.fst) (arrOf st2) r.toList.zipIdx)):=by
   refine ⟨?_,k2'.k.trans zx.kind,hf,k2'.p.trans zx.pend⟩;show (List.foldl (fun a x=>a.setIfInBounds (sa+k+x.snd) x.fst) (arrOf st2) r.toList.zipIdx).Perm a₀;rw [jx];exact (Hz rl (by (clear rl hf jx hl h0 dR dN e2 e aM rq eq ek rp ep cg cD na1 h2 h1;lia)) rp').trans hB.perm
  generalize setArr st2 (List.foldl (fun a x=>a.setIfInBounds (sa+k+x.snd) x.fst) (arrOf st2) r.toList.zipIdx)=st3 at get hB2 ⊢;have out:∀j,¬(sa+k<=j/\j<sb+n2)->R rk (arrOf st3) j=R rk (arrOf st) j:=fun j hj=>eO (by rw [get j,if_neg hj])
  have mid:∀j,sa+k<=j->j<sb+n2 -> ∃j0,sa+k<=j0/\j0<sb+n2/\R rk (arrOf st3) j=R rk (arrOf st) j0:=fun j j1 j2=>by
   have e:=get j;rw [if_pos ⟨j1,j2⟩,List.getElem?_eq_getElem (by (clear e j1 hf jx hl h0 dR dN e2 aM l1 rq eq k1 rp ep cg sz hz cD na1 h2 h1;lia))] at e;have hm:r.toList[j - (sa+k)]'(by (clear e j1 hf jx hl h0 dR dN e2 aM l1 rq eq k1 rp ep cg sz hz cD na1 h2 h1;lia))∈((arrOf st).toList.drop (sa+k)).take (sb - (sa+k)+n2):=rp'.mem_iff.mp (List.getElem_mem _);obtain ⟨j0,a1,a2,a3⟩:=h_ (rk:=rk) hm;exact ⟨sa+k+j0,by (clear a3 a2 a1 e j1 hf jx hl h0 dR dN e2 aM l1 rq eq k1 rp ep cg sz hz cD na1 h2 h1;lia),by (clear a3 a2 e j1 hf jx hl h0 dR dN e2 aM l1 rq eq k1 rp ep cg sz hz cD na1 h2 h1;lia),by rw [m_ e,a3]⟩
  refine wpS_pure (h st3 hB2 (fun j hj=>by rw [get j,if_neg (by (clear rl hf jx hl h0 dR dN e2 e aM rq eq ek k1 rp ep cg sz hz cD na1 hsb h2 h1;lia))]) fun i j a b c=> ?_)
  by_cases i1:i<sa+k
  ·have ei:=N_ (k2 (i - sa) (by (clear c b rl hf jx hl h0 dR dN e2 e aM l1 rq eq ek k1 rp ep cg sz hz cD na1 hsb h2 h1;lia)))
   rw [show sa+(i - sa)=i by (clear ei i1 c b rl hf jx hl h0 dR dN e2 e aM l1 rq eq ek k1 rp ep cg sz hz cD na1 hsb h2 h1;lia),←rp] at ei;rw [out i (by (clear ei c b a rl hf jx hl h0 dR dN e2 e aM l1 rq eq ek k1 rp ep cg sz hz cD na1 hsb h2 h1;lia))]
   have key:∀j0,sa+k<=j0->j0<sb+nb->R rk (arrOf st) i<=R rk (arrOf st) j0:=fun j0 b1 b2=>by
    by_cases c:j0<sb
    ·exact s1 i j0 a (by (clear c b2 ei b a rl hf jx hl h0 dR dN e2 e aM l1 rq eq ek k1 rp ep cg sz hz cD na1 hsb h2 h1;lia)) (by (clear b2 b1 ei i1 b a rl hf jx hl h0 dR dN e2 e aM l1 rq eq ek k1 rp ep cg sz hz cD na1 h2 h1;lia))
    ·have:=s2 sb j0 (Nat.le_refl _) (by (clear b2 b1 ei i1 b a rl hf jx hl h0 dR dN e2 e aM l1 rq eq ek k1 rp ep cg sz hz cD na1 hsb h2 h1;lia)) b2;(clear c b2 b1 i1 b a rl hf jx hl h0 dR dN e2 e aM l1 rq eq ek k1 rp ep cg sz hz cD na1 hsb h2 h1;lia)
   by_cases j1:sa+k<=j/\j<sb+n2
   ·obtain ⟨j0,b1,b2,b3⟩:=mid j j1.1 j1.2
    rw [b3];exact key j0 b1 (by (clear b3 b1 j1 ei i1 c b a rl hf jx hl h0 dR dN e2 e aM rq eq ek k1 rp ep cg sz hz cD na1 hsb h2 h1;lia))
   ·rw [out j j1]
    by_cases j2:j<sa+k
    ·exact s1 i j a b (by (clear j1 ei i1 c b a rl hf jx hl h0 dR dN e2 e aM l1 rq eq ek rp ep cg sz hz cD na1 hsb h2 h1;lia))
    ·exact key j (by (clear j1 ei i1 c b a rl hf jx hl h0 dR dN e2 e aM l1 rq eq ek k1 rp ep cg sz hz cD na1 hsb h2 h1;lia)) c
  ·by_cases i2:i<sb+n2
   ·by_cases j2:j<sb+n2
    ·have e1:=get i
     have e2:=get j;rw [if_pos ⟨by (clear e2 e1 j2 i2 c b a rl hf jx hl h0 dR dN e aM l1 rq eq ek k1 rp ep cg sz hz cD na1 hsb h2 h1;lia),i2⟩,List.getElem?_eq_getElem (by (clear e2 e1 j2 i1 c b a hf jx hl h0 dR dN e aM l1 rq eq ek k1 rp ep cg sz hz cD na1 hsb h2 h1;lia))] at e1;rw [if_pos ⟨by (clear e2 e1 j2 i2 c a rl hf jx hl h0 dR dN e aM l1 rq eq ek k1 rp ep cg sz hz cD na1 hsb h2 h1;lia),j2⟩,List.getElem?_eq_getElem (by (clear e2 e1 i2 i1 c b a hf jx hl h0 dR dN e aM l1 rq eq ek k1 rp ep cg sz hz cD na1 hsb h2 h1;lia))] at e2;rw [m_ e1,m_ e2]
     by_cases eij:i=j
     ·subst eij;exact Nat.le_refl _
     ·exact List.pairwise_iff_getElem.mp mg.mQ _ _ _ _ (by (clear e2 e1 j2 i2 c a rl hf jx hl h0 dR dN e aM l1 rq eq ek k1 rp ep cg sz hz cD na1 hsb h2 h1;lia))
    ·obtain ⟨i0,b1,b2,b3⟩:=mid i (by (clear j2 i2 c b a rl hf jx hl h0 dR dN e2 e aM l1 rq eq ek k1 rp ep cg sz hz cD na1 hsb h2 h1;lia)) i2
     rw [b3,out j (by (clear b3 b2 b1 i2 i1 c b a rl hf jx hl h0 dR dN e2 e aM l1 rq eq ek k1 rp ep cg sz hz cD na1 hsb h2 h1;lia))]
     by_cases c':i0<sb
     ·have e1:=s1 i0 (sb - 1) (by (clear c' b3 b2 j2 i2 i1 c b a rl hf jx hl h0 dR dN e2 e aM l1 rq eq ek k1 rp ep cg sz hz cD na1 hsb h2 h1;lia)) (by (clear b3 b2 b1 j2 i2 i1 c b a rl hf jx hl h0 dR dN e2 e aM l1 rq eq ek k1 rp ep cg sz hz cD na1 hsb h2 h1;lia)) (by (clear c' b3 b2 b1 j2 i2 i1 c b a rl hf jx hl h0 dR dN e2 e aM l1 rq eq ek k1 rp ep cg sz hz cD h2 h1;lia))
      have e2:=z7 (l3 (j - sb) (by (clear e1 c' b3 b2 b1 i2 i1 c b a rl hf jx hl h0 dR dN e2 e aM l1 rq eq ek k1 rp ep cg sz hz cD na1 hsb h2 h1;lia)) (by (clear e1 c' b3 b2 b1 j2 i2 i1 b a rl hf jx hl h0 dR dN e2 e aM l1 rq eq ek k1 rp ep cg sz hz na1 hsb h2 h1;lia)));rw [show sb+(j - sb)=j by (clear e2 e1 c' b3 b2 b1 i2 i1 c b a rl hf jx hl h0 dR dN e aM l1 rq eq ek k1 rp ep cg sz hz cD na1 hsb h2 h1;lia),←rq] at e2
      (clear c' b3 b2 b1 j2 i2 i1 c b a rl hf jx hl h0 dR dN e aM l1 rq eq ek k1 rp ep cg sz hz cD na1 hsb h2 h1;lia)
     ·exact s2 i0 j (by (clear b3 b2 b1 j2 i2 i1 c b a rl hf jx hl h0 dR dN e2 e aM l1 rq eq ek k1 rp ep cg sz hz cD na1 hsb h2 h1;lia)) (by (clear c' b3 b1 i2 i1 c b a rl hf jx hl h0 dR dN e2 e aM l1 rq eq ek k1 rp ep cg sz hz cD na1 hsb h2 h1;lia)) c
   ·rw [out i (by (clear i1 c b a rl hf jx hl h0 dR dN e2 e aM l1 rq eq ek k1 rp ep cg sz hz cD na1 hsb h2 h1;lia)),out j (by (clear i1 c a rl hf jx hl h0 dR dN e2 e aM l1 rq eq ek k1 rp ep cg sz hz cD na1 hsb h2 h1;lia))]
    exact s2 i j (by (clear i1 c b a rl hf jx hl h0 dR dN e2 e aM l1 rq eq ek k1 rp ep cg sz hz cD na1 hsb h2 h1;lia)) b c
 refine aL (fun _=> ?_) (fun _=> ?_)
 ·exact wpS_bind (xX C zx.kind xin yin (by (clear hl h0 dR e2 e aM l1 rq eq k1 rp ep cg sz hz cD na1 h2 h1;lia)) (by (clear hl h0 dN e2 e aM l1 rq eq k1 rp ep cg sz hz cD na1 hsb h2 h1;lia)) sx sy h0 hl fin)
 ·exact wpS_bind (xY C zx.kind xin yin (by (clear hl h0 dR e2 e aM l1 rq eq ek k1 rp ep cg sz hz cD na1 h2 h1;lia)) (by (clear hl h0 dN e aM l1 rq eq ek k1 rp ep cg sz hz cD na1 hsb h2 h1;lia)) sx sy h0 hl fin)
end
end Tim
set_option Elab.async false
set_option linter.all false
set_option maxRecDepth 100000
set_option maxHeartbeats 4000000
namespace Tim
open PySem PyProof.Rows
section
variable {prog:Program} {w:World} {A:Around} {E:Value->Shared->Prop} {s:Shared} {κ:SortKind} {a₀:Array Keyed} {rk:Value->Nat} {pd:Array (Nat×Nat×Nat)}
def Runs (rk:Value->Nat) (xs:Array Keyed):List (Nat×Nat×Nat)->Nat->Nat->Prop
 | [],a,e=>a=e
 | (s,n,_)::r,a,e=>s=a/\1<=n/\Seg rk xs a (a+n)/\Runs rk xs r (a+n) e
theorem Runs.le {xs:Array Keyed}:∀{l:List (Nat×Nat×Nat)} {a e:Nat},Runs rk xs l a e->a+l.length<=e
 | [],a,e,h=>Nat.le_of_eq h
 | (s,n,_)::r,a,e,h=>by
   have:=Runs.le h.2.2.2;have:=h.2.1;rw [List.length_cons];lia
theorem Runs.app {xs:Array Keyed} {r:List (Nat×Nat×Nat)}:∀{l:List (Nat×Nat×Nat)} {a e:Nat},Runs rk xs (l++r) a e ↔ ∃m,Runs rk xs l a m/\Runs rk xs r m e
 | [],a,e=>⟨fun h=>⟨a,rfl,h⟩,fun ⟨m,h1,h2⟩=>by
     have h1:a=m:=h1;subst h1;exact h2⟩
 | (s,n,_)::l,a,e=>by
   constructor
   ·rintro ⟨h1,h2,h3,h4⟩
    obtain ⟨m,m1,m2⟩:=Runs.app.mp h4;exact ⟨m,⟨h1,h2,h3,m1⟩,m2⟩
   ·rintro ⟨m,⟨h1,h2,h3,h4⟩,m2⟩
    exact ⟨h1,h2,h3,Runs.app.mpr ⟨m,h4,m2⟩⟩
theorem Runs.congr {xs ys:Array Keyed}:∀{l:List (Nat×Nat×Nat)} {a e:Nat},Runs rk xs l a e->(∀j,a<=j->j<e->R rk xs j=R rk ys j)->Runs rk ys l a e
 | [],a,e,h,_=>h
 | (s,n,_)::r,a,e,⟨h1,h2,h3,h4⟩,g=>by
   have le:=Runs.le h4;refine ⟨h1,h2,fun i j x y z=> ?_,Runs.congr h4 fun j x y=>g j (by (clear y le h2 h1;lia)) y⟩;rw [←g i x (by (clear x h2 h1;lia)),←g j (by (clear z le h2 h1;lia)) (by (clear y x h2 h1;lia))];exact h3 i j x y z
theorem Qi {α:Type} {l:List α} {i:Nat} (h:i+1<l.length):∃pre p q post,l=pre++p::q::post/\pre.length=i:=by
 refine ⟨l.take i,l[i],l[i+1],l.drop (i+2), ?_,by rw [List.length_take];lia⟩;rw [←List.drop_eq_getElem_cons,←List.drop_eq_getElem_cons,List.take_append_drop]
theorem lX {st:SortSt} {i e:Nat} {Q:Bool->SortSt->Prop} (C:z6 prog w A s κ a₀ rk) (hB:SB κ a₀ pd st) (hr:Runs rk (arrOf st) pd.toList 0 e) (he:e<=a₀.size) (hi:i+1<pd.size)
 (h:∀pd' st',SB κ a₀ pd' st'->Runs rk (arrOf st') pd'.toList 0 e->pd'.size+1=pd.size->(∀j,e<=j->(arrOf st')[j]? = (arrOf st)[j]?)->Q true st'):wpS (model prog w) A E s (mergeAt' i) Q st:=by
 obtain ⟨pre,⟨sa,na,pw⟩,⟨sb,nb,ZS⟩,post,el,pl⟩:=Qi (l:=pd.toList) (i:=i) (by rw [Array.length_toList];exact hi);rw [el] at hr;obtain ⟨m,r1,r2⟩:=Runs.app.mp hr;obtain ⟨e1,n1,s1,e2,n2,s2,r3⟩:=r2;subst e1;have fG:=Runs.le r3;have h1:pd[i]? = some (sa,na,pw):=by rw [←Array.getElem?_toList,el,List.getElem?_append_right (by (clear fG e2 n2 n1 el hi he;lia)),pl,Nat.sub_self];rfl
 have h2:pd[i+1]? = some (sb,nb,ZS):=by rw [←Array.getElem?_toList,el,List.getElem?_append_right (by (clear h1 fG e2 n2 n1 el hi he;lia)),pl,show i+1 - i=1 by (clear h1 fG e2 n2 n1 pl el hi he;lia)];rfl
 refine xZ C hB h1 h2 e2 n1 n2 (by (clear h2 h1 n2 n1 pl el hi;lia)) s1 (by rw [e2];exact s2) fun st' hB' out seg=> ?_
 have ep:((pd.setIfInBounds i (sa,na+nb,pw)).eraseIdxIfInBounds (i+1)).toList=pre++(sa,na+nb,pw)::post:=by
  rw [Array.toList_eraseIdxIfInBounds,Array.toList_setIfInBounds,el,List.set_append_right _ _ (by (clear h2 h1 fG e2 n2 n1 el hi he;lia)),pl,Nat.sub_self];rw [List.eraseIdx_append_of_length_le (by (clear h2 h1 fG e2 n2 n1 el hi he;lia)),pl,show i+1 - i=1 by (clear h2 h1 fG e2 n2 n1 pl el hi he;lia)];rfl
 refine h _ st' hB' ?_ ?_ fun j hj=>out j (.inr (by (clear ep h2 h1 n2 n1 pl el hi he;lia)))
 ·rw [ep]
  refine Runs.app.mpr ⟨sa,r1.congr fun j _ j2=>eO (out j (.inl j2)).symm,rfl,by (clear ep h2 h1 fG e2 n2 pl el hi he;lia), ?_, ?_⟩
  ·rw [show sa+(na+nb)=sb+nb by (clear ep h2 h1 fG n2 n1 pl el hi he;lia)];exact seg
  ·rw [←Nat.add_assoc]
   exact r3.congr fun j j1 j2=>eO (out j (.inr (by (clear j2 ep h2 h1 fG n2 n1 pl el hi he;lia)))).symm
 ·rw [←Array.length_toList,ep,←Array.length_toList,el]
  simp only [List.length_append,List.length_cons]
  (clear ep h2 h1 fG e2 n2 n1 pl el hi he;lia)
theorem Runs.modify {xs:Array Keyed} {f:Nat×Nat×Nat->Nat×Nat×Nat} (hf:∀x,(f x).1=x.1/\(f x).2.1=x.2.1) (l:List (Nat×Nat×Nat)):∀(i a e:Nat),Runs rk xs l a e->Runs rk xs (l.modify i f) a e:=by
 induction l with
 | nil=>intro i a e h;cases i<;>exact h
 | cons t r ih=>
   obtain ⟨s,n,p⟩:=t;intro i a e h;obtain ⟨h1,h2,h3,h4⟩:=h;cases i with
   | zero=>
     rw [List.modify_zero_cons];have e2:=hf (s,n,p);rcases hfp:f (s,n,p) with ⟨s',n',p'⟩
     rw [hfp] at e2;obtain ⟨q1,q2⟩:=e2;have q1:s'=s:=q1;have q2:n'=n:=q2;rw [q1,q2];exact ⟨h1,h2,h3,h4⟩
   | succ i=>
     rw [List.modify_succ_cons];exact ⟨h1,h2,h3,ih i _ _ h4⟩
theorem wpS_sortRuns {st:SortSt} {Q:Unit->SortSt->Prop} (C:z6 prog w A s κ a₀ rk) (hB:SB κ a₀ #[] st) (h2:2<=a₀.size)
 (h:∀st',(arrOf st').Perm a₀->failedOf st'=none->Seg rk (arrOf st') 0 a₀.size->Q () st'):wpS (model prog w) A E s sortRuns' Q st:=by
 rw [sortRuns'_eq];refine wpS_bind (wpS_get ?_);dsimp only;simp only [hB.size];generalize minRun' a₀.size a₀.size 0=mr
 refine wpS_bind (wpS_mono (wpS_forRange (I:=fun x c st'=>∃lo pd,c=(none,lo)/\x<=lo/\lo<=a₀.size/\SB κ a₀ pd st'/\Runs rk (arrOf st') pd.toList 0 lo)
  (Q:=fun c st'=>∃pd,c=(none,a₀.size)/\SB κ a₀ pd st'/\Runs rk (arrOf st') pd.toList 0 a₀.size) ?step ?fin ⟨0, #[],rfl,by (clear h2;lia),by (clear h2;lia),hB,rfl⟩) ?post)
 case fin=>
  rintro c st' ⟨lo,pd,rfl,x1,x2,hB',hr⟩;have:lo=a₀.size:=by (clear h2;lia)
  subst this;exact ⟨pd,rfl,hB',hr⟩
 case step=>
  rintro x c st' _ hx ⟨lo,pd,rfl,x1,x2,hB',hr⟩;dsimp only;refine aL (fun ge=> ?_) (fun ge=> ?_)
  ·have:lo=a₀.size:=by (clear x1 hx h2;lia)
   subst this;exact wpS_pure ⟨pd,rfl,hB',hr⟩
  refine wpS_bind (wpS_countRun C (by (clear ge x1 hx h2;lia)) (by (clear x2 x1 hx h2;lia)) hB' fun m st2 hB2 kb2 m1 m2 hs2=> ?_);dsimp only;have hr2:=hr.congr (ys:=arrOf st2) fun j _ j2=>eO (kb2 j j2).symm;apply aL
  case' h1=>
   intro lt;refine wpS_bind (wpS_lift (wpAny_rule ⟨rfl, ?_⟩));refine wpS_bind (wpS_binarySort C (by (clear lt m2 m1 ge x1 hx h2;lia)) (by (clear m1 ge x2 x1 hx h2;lia)) hB2 hs2 fun st3 hB3 kb3 hs3=> ?_);simp only [Bool.not_true,Bool.false_eq_true,if_false];have Vz:=hr2.congr (ys:=arrOf st3) fun j _ j2=>eO (kb3 j j2).symm;have n1:1<=min (a₀.size - lo) mr:=by (clear m2 m1 x2 x1 hx h2;lia)
   have n2:min (a₀.size - lo) mr<=a₀.size - lo:=by (clear n1 lt m2 m1 ge x2 x1 hx h2;lia)
   generalize min (a₀.size - lo) mr=n at hs3 n1 n2 ⊢
  case' h2=>
   intro lt;have Vz:=hr2;have hB3:=hB2;have hs3:=hs2;have n1:=m1;have n2:=m2;revert Vz hB3 hs3;generalize st2=st3;revert n1 n2;generalize m=n;intro n1 n2 Vz hB3 hs3
  all_goals
   refine wpS_bind (wpS_get ?_)
   have done:∀kh kW,SB κ a₀ kh kW->Runs rk (arrOf kW) kh.toList 0 lo->Seg rk (arrOf kW) lo (lo+n)->wpS (model prog w) A E s (do
    modify fun s=>setPending s ((pendingOf s).push (lo,n,0))
    pure (ForInStep.yield ((none:Option Unit),lo+n))) (fun r st'=>match r with
     | ForInStep.done c'=>∃pd,c'=(none,a₀.size)/\SB κ a₀ pd st'/\Runs rk (arrOf st') pd.toList 0 a₀.size
     | ForInStep.yield c'=>∃lo pd,c'=(none,lo)/\x+1<=lo/\lo<=a₀.size/\SB κ a₀ pd st'/\Runs rk (arrOf st') pd.toList 0 lo) kW:=by
    intro kh kW pB wI Rv;refine wpS_bind (wpS_modify (wpS_pure ⟨lo+n,kh.push (lo,n,0),rfl,by (clear n2 lt m2 m1 ge x2 hx h2;lia),by (clear n1 lt m2 m1 ge x1 hx h2;lia),⟨pB.perm,pB.kind,pB.failed,by show (pendingOf kW).push _=_;rw [pB.pend]⟩, ?_⟩));rw [Array.toList_push];exact Runs.app.mpr ⟨lo,wI,rfl,n1,Rv,rfl⟩
   cases hb:(pendingOf st3).back? with
   | none=>exact done _ _ hB3 Vz hs3
   | some t=>
     obtain ⟨s1,Rc,pw⟩:=t;dsimp only;generalize power' a₀.size (2*s1+Rc) (2*s1+Rc+Rc+n) a₀.size=pwr
     refine wpS_bind (wpS_mono (wpS_forRange (I:=fun y c kW=>∃kh,c=(none,())/\SB κ a₀ kh kW/\Runs rk (arrOf kW) kh.toList 0 lo/\Seg rk (arrOf kW) lo (lo+n))
      (Q:=fun c kW=>∃kh,c=(none,())/\SB κ a₀ kh kW/\Runs rk (arrOf kW) kh.toList 0 lo/\Seg rk (arrOf kW) lo (lo+n)) ?_ (fun _ _ z=>z) ⟨_,rfl,hB3,Vz,hs3⟩) ?_)
     ·rintro y c kW _ hy ⟨kh,rfl,pB,wI,Rv⟩
      refine wpS_bind (wpS_get ?_);rw [pB.pend];cases hg:(if kh.size>1 then kh[kh.size - 2]? else none) with
      | none=>exact wpS_pure ⟨kh,rfl,pB,wI,Rv⟩
      | some t=>
        obtain ⟨f1,f2,older⟩:=t;dsimp only
        have gt:kh.size>1:=by
         by_cases g:kh.size>1
         ·exact g
         ·rw [if_neg g] at hg;cases hg
        refine aL (fun _=> ?_) (fun _=> ?_)
        ·exact wpS_pure ⟨kh,rfl,pB,wI,Rv⟩
        ·refine wpS_bind (lX C pB wI x2 (by (clear hg hy hb n2 n1 lt m2 m1 ge x2 x1 hx h2;lia)) fun pd5 xQ hB5 hr5 _ UG=> ?_)
         simp only [Bool.not_true,Bool.false_eq_true,if_false];refine wpS_pure ⟨pd5,rfl,hB5,hr5,fun i j a b c=> ?_⟩;rw [eO (UG i a),eO (UG j (by (clear c gt hg hy hb n2 n1 lt m2 m1 ge x2 x1 hx h2;lia)))];exact Rv i j a b c
     ·rintro c kW ⟨kh,rfl,pB,wI,Rv⟩
      dsimp only;refine wpS_bind (wpS_modify ?_);refine done _ _ ⟨pB.perm,pB.kind,pB.failed,rfl⟩ ?_ Rv;rw [←pB.pend] at wI;rw [Array.toList_modify];refine Runs.modify (fun x=> ?_) _ _ _ _ wI;exact ⟨rfl,rfl⟩
 case post=>
  rintro c st' ⟨pd,rfl,hB',hr⟩;dsimp only;have le:=Runs.le hr;rw [Array.length_toList] at le
  refine wpS_bind (wpS_mono (wpS_forRange (I:=fun y c kW=>∃kh,c=(none,())/\SB κ a₀ kh kW/\Runs rk (arrOf kW) kh.toList 0 a₀.size/\kh.size<=max 1 (a₀.size - y))
   (Q:=fun c kW=>∃kh,c=(none,())/\SB κ a₀ kh kW/\Runs rk (arrOf kW) kh.toList 0 a₀.size/\kh.size<=1) ?_ ?_ ⟨pd,rfl,hB',hr,by (clear h2;lia)⟩) ?_)
  ·rintro y c kW _ hy ⟨kh,rfl,pB,wI,Vd⟩
   refine wpS_bind (wpS_get ?_);rw [pB.pend];refine aL (fun l1=> ?_) (fun l1=> ?_)
   ·exact wpS_pure ⟨kh,rfl,pB,wI,l1⟩
   ·have hix:∀(c:Prop) [Decidable c],(if c then kh.size - 2 - 1 else kh.size - 2)+1<kh.size:=by
     intro c _;split<;>(clear Vd hy le h2;lia)
    refine wpS_bind (lX C pB wI (Nat.le_refl _) (hix _) fun pd5 xQ hB5 hr5 z5 _=> ?_);simp only [Bool.not_true,Bool.false_eq_true,if_false];exact wpS_pure ⟨pd5,rfl,hB5,hr5,by (clear l1 hy le h2;lia)⟩
  ·rintro c kW ⟨kh,rfl,pB,wI,Vd⟩
   exact ⟨kh,rfl,pB,wI,by (clear le h2;lia)⟩
  ·rintro c kW ⟨kh,rfl,pB,wI,Vd⟩
   refine wpS_pure (h kW pB.perm pB.failed ?_);have ll:kh.toList.length<=1:=by rw [Array.length_toList];exact Vd
   match hl:kh.toList,ll,wI with
   | [],_,wI=>have:0=a₀.size:=wI;(clear hl ll Vd le;lia)
   | [(s,n,p)],_,wI=>
     obtain ⟨_,_,hs,e⟩:=wI;have e:0+n=a₀.size:=e;rw [e] at hs;exact hs
end
end Tim
set_option Elab.async false
set_option linter.all false
set_option maxRecDepth 100000
set_option maxHeartbeats 4000000
namespace Tim
open PySem PyProof.Rows
section
variable {prog:Program} {w:World} {A:Around} {E:Value->Shared->Prop} {s:Shared} {κ:SortKind} {rk:Value->Nat}
theorem QC {vs:List Value} {xs:Array Keyed} (hp:xs.Perm (pairsOf vs)) (hs:Seg rk xs 0 (pairsOf vs).size):(xs.map (·.2)).toList.Perm vs/\(xs.map (·.2)).toList.Pairwise (fun x y=>rk x<=rk y):=by
 have hl:xs.toList.Perm (vs.zip vs):=by rw [←pairsOf_toList];exact Array.perm_iff_toList_perm.mp hp
 have hmem:∀p,p∈xs.toList->p.1=p.2:=fun p hp'=>(mem_zip_self (hl.mem_iff.mp hp')).1
 have e:(xs.map (·.2)).toList=xs.toList.map (·.1):=by
  rw [Array.toList_map];exact List.map_congr_left fun p hp'=>(hmem p hp').symm
 rw [e];constructor
 ·have:=hl.map Prod.fst
  rwa [List.map_fst_zip (Nat.le_refl _)] at this
 ·rw [List.pairwise_map,List.pairwise_iff_getElem]
  intro i j hi hj hij;rw [Array.length_toList] at hi hj;have:=hs i j (Nat.zero_le _) (Nat.le_of_lt hij) (by rw [←hp.size_eq];exact hj);rw [gk hi,gk hj] at this;simpa using this
theorem mF {a:Addr} {vs:List Value} {n:Nat} {P:PySem.Fin->Shared->Prop} (ho:s.heap.get? a=some (seqObj "list" vs.toArray n)) (hz:vs.length<=sizeLine)
 (hk:2<=vs.length -> ∀h':Heap,(∀b o,b≠a->s.heap.get? b=some o->h'.get? b=some o)->(∀(Q:SortKind->Shared->Prop) (E:Value->Shared->Prop),Q κ {s with heap:=h'}->wpAny (model prog w) A (keyKind' vs.toArray) Q E {s with heap:=h'})/\z6 prog w A {s with heap:=h'} κ (pairsOf vs) rk)
 (h:∀out:List Value,out.Perm vs->out.Pairwise (fun x y=>rk x<=rk y)->P (.done (.ret .none)) {s with heap:=sortedHeap s.heap a vs out.toArray}):
 wpAny (model prog w) A (Builtin.«list.sort» ⟨[.ref a],[]⟩) P E s:=by
 rw [list_sort_plain];have ha:a<s.heap.objs.size:=Heap.lt_size ho;refine wpAny_bind (listItems_at ho rfl ?_);refine wpAny_bind (listUpdate_at ho rfl ?_ (by rw [List.size_toArray];exact hz) (Nat.zero_le _));obtain ⟨e1,ho1⟩:∃e1,(s.heap.update a (Obj.mapSeq fun _=> #[])).get? a=some (seqObj "list" #[] e1):=⟨_,get?_update_seq ho (fun _=> #[])⟩;refine wpAny_bind (seqEpoch_at ho1 rfl ?_);refine wpAny_bind (wpAny_newTuple ?_ (by show vs.length<=_;exact hz));refine wpAny_bind (wpAny_newList ?_ (Nat.zero_le _));refine wpAny_holding ?_
 have keep:∀b o,b≠a->s.heap.get? b=some o->(((s.heap.update a (Obj.mapSeq fun _=> #[])).push (seqObj "tuple" vs.toArray 0)).push (seqObj "list" #[] 0)).get? b=some o:=fun b o nb e=>by
  refine Heap.get?_push_of_some _ (Heap.get?_push_of_some _ ?_);rw [Heap.get?_update_ne _ _ _ _ nb];exact e
 have ho6:(((s.heap.update a (Obj.mapSeq fun _=> #[])).push (seqObj "tuple" vs.toArray 0)).push (seqObj "list" #[] 0)).get? a=some (seqObj "list" #[] e1):=Heap.get?_push_of_some _ (Heap.get?_push_of_some _ ho1);show wpAny (model prog w) A _ P E {s with heap:=((s.heap.update a (Obj.mapSeq fun _=> #[])).push (seqObj "tuple" vs.toArray 0)).push (seqObj "list" #[] 0)};dsimp only;have hsz:vs.toArray.size=vs.length:=by simp
 have fin:∀st':SortSt,(arrOf st').Perm (pairsOf vs)->Seg rk (arrOf st') 0 (pairsOf vs).size ->
  P (.done (.ret .none)) {s with heap:=sortedHeap s.heap a vs ((arrOf st').map (·.2))}:=by
  intro st' hp hs;obtain ⟨h1,h2⟩:=QC hp hs;have:=h _ h1 h2;rwa [Array.toArray_toList] at this
 by_cases h2:vs.toArray.size<2
 ·rw [if_pos h2,if_pos h2]
  refine wpAny_bind (wpAny_pure ?_);rw [StateT.run_pure];refine wpAny_bind (wpAny_pure ?_);dsimp only;refine wpAny_bind (seqEpoch_at ho6 rfl ?_);refine wpAny_bind (listUpdate_at ho6 rfl ?_ (Nat.zero_le _) (by rw [Array.size_map];show (pairsOf vs).size<=_;rw [pairsOf_size];omega));simp only [bne_self_eq_false,Bool.false_eq_true,if_false];refine wpAny_pure (fin (SortSt.mk' general' (vs.toArray.zip vs.toArray) #[] 7 none) (Array.Perm.refl _) ?_);intro i j _ hij hj;have:i=j:=by rw [pairsOf_size] at hj;omega
  subst this;exact Nat.le_refl _
 ·rw [if_neg h2,if_neg h2]
  obtain ⟨kk,kc⟩:=hk (by omega) _ keep;refine wpAny_bind (kk _ _ ?_)
  refine wpAny_bind (wpAny_mono (wpS_sortRuns (a₀:=pairsOf vs) (rk:=rk) (st:=SortSt.mk' κ (vs.toArray.zip vs.toArray) #[] 7 none)
   (Q:=fun _ st'=>(arrOf st').Perm (pairsOf vs)/\failedOf st'=none/\Seg rk (arrOf st') 0 (pairsOf vs).size)
   kc ⟨Array.Perm.refl _,rfl,rfl,rfl⟩ (by rw [pairsOf_size];omega) fun st' a1 a2 a3=>⟨a1,a2,a3⟩) ?_ fun _ _ e=>e)
  rintro ⟨⟨⟩,st'⟩ s' ⟨rfl,hp,hf,hs⟩;dsimp only;refine wpAny_bind (seqEpoch_at ho6 rfl ?_);refine wpAny_bind (listUpdate_at ho6 rfl ?_ (Nat.zero_le _) (Nat.le_trans (Nat.le_of_eq ((Array.size_map ..).trans (hp.size_eq.trans (pairsOf_size _)))) (Nat.le_succ_of_le hz)));rw [hf];simp only [bne_self_eq_false,Bool.false_eq_true,if_false];exact wpAny_pure (fin st' hp hs)
theorem Ag {l:Addr} {vs:List Value} {Q:Value->Shared->Prop} (hl:s.heap.IsList l vs.toArray) (hz:vs.length<=sizeLine)
 (hk:2<=vs.length -> ∀h':Heap,(∀b o,s.heap.get? b=some o->h'.get? b=some o)->(∀(Q:SortKind->Shared->Prop) (E:Value->Shared->Prop),Q κ {s with heap:=h'}->wpAny (model prog w) A.in1.in1 (keyKind' vs.toArray) Q E {s with heap:=h'})/\z6 prog w A.in1.in1 {s with heap:=h'} κ (pairsOf vs) rk)
 (h:∀(h':Heap) (D:Addr) (c:Nat) (out:List Value),(∀b o,s.heap.get? b=some o->h'.get? b=some o)->s.heap.objs.size<=D->h'.get? D=some (seqObj "list" out.toArray c)->out.Perm vs->out.Pairwise (fun x y=>rk x<=rk y)->Q (.ref D) {s with heap:=h'}):
 wpAny (model prog w) A (call (.builtin "sorted") [.ref l]) Q E s:=by
 refine Calls.call_function_entry kind_sorted plain_sorted entry_sorted (args_sorted1 _) ?_;unfold Builtin.«sorted»;refine wpAny_bind (m:=checkCount "sorted" 1 1 _) (wpAny_pure ?_);refine wpAny_bind (collect_list hl ?_ hz);refine wpAny_bind (wpAny_newList ?_ hz)
 have hsz:((s.heap.push (seqObj "list" #[] 0)).update s.heap.objs.size (Obj.mapSeq (· ++ vs.toArray))).objs.size=s.heap.objs.size+1:=by
  rw [Heap.size_update,size_push']
 have hoL:(((s.heap.push (seqObj "list" #[] 0)).update s.heap.objs.size (Obj.mapSeq (· ++ vs.toArray))).push (seqObj "list" vs.toArray 0)).get? (s.heap.objs.size+1)=some (seqObj "list" vs.toArray 0):=by
  rw [←hsz];exact Heap.get?_push_size _ rfl
 have keep:∀b o,s.heap.get? b=some o->(((s.heap.push (seqObj "list" #[] 0)).update s.heap.objs.size (Obj.mapSeq (· ++ vs.toArray))).push (seqObj "list" vs.toArray 0)).get? b=some o:=fun b o q=>by
  have hlt:b<s.heap.objs.size:=Heap.lt_size q;rw [Heap.get?_push_ne _ _ _ (by rw [hsz];exact Nat.ne_of_lt (Nat.lt_succ_of_lt hlt)),Heap.get?_update_ne _ _ _ _ (Nat.ne_of_lt hlt),Heap.get?_push_ne _ _ _ (Nat.ne_of_lt hlt)];exact q
 show wpAny _ _ _ _ _ {s with heap:=((s.heap.push (seqObj "list" #[] 0)).update s.heap.objs.size (Obj.mapSeq (· ++ vs.toArray))).push (seqObj "list" vs.toArray 0)};rw [hsz];generalize ((s.heap.push (seqObj "list" #[] 0)).update s.heap.objs.size (Obj.mapSeq (· ++ vs.toArray))).push (seqObj "list" vs.toArray 0)=h1 at keep hoL ⊢;have nD:∀b o,s.heap.get? b=some o->b≠s.heap.objs.size+1:=fun b o e=>Nat.ne_of_lt (Nat.lt_succ_of_lt (Heap.lt_size e));refine wpAny_bind (wpAny_holding (wpAny_call_entry slot_list_sort ⟨_,hoL,rfl⟩ entry_list_sort (mF (s:={s with heap:=h1}) hoL hz (fun h2 h' kp=>hk h2 h' fun b o e=>kp b o (nD b o e) (keep b o e)) fun out p1 p2=>⟨_,rfl, ?_⟩) (args_list_sort _)));refine wpAny_pure ⟨_,rfl, ?_⟩;obtain ⟨e1,ho1⟩:∃e1,(h1.update (s.heap.objs.size+1) (Obj.mapSeq fun _=> #[])).get? (s.heap.objs.size+1)=some (seqObj "list" #[] e1):=⟨_,get?_update_seq hoL (fun _=> #[])⟩;have ho2:(((h1.update (s.heap.objs.size+1) (Obj.mapSeq fun _=> #[])).push (seqObj "tuple" vs.toArray 0)).push (seqObj "list" #[] 0)).get? (s.heap.objs.size+1)=some (seqObj "list" #[] e1):=Heap.get?_push_of_some _ (Heap.get?_push_of_some _ ho1);refine h (sortedHeap h1 (s.heap.objs.size+1) vs out.toArray) _ _ out (fun b o e=> ?_) (Nat.le_succ _) (by unfold sortedHeap;exact get?_update_seq ho2 (fun _=>out.toArray)) p1 p2;unfold sortedHeap;rw [Heap.get?_update_ne _ _ _ _ (nD b o e)];refine Heap.get?_push_of_some _ (Heap.get?_push_of_some _ ?_);rw [Heap.get?_update_ne _ _ _ _ (nD b o e)];exact keep b o e
end
section
theorem vd {α:Type} {p q:α->Bool} {u:α}:∀{l:List α},u∈l->q u=true->p u=false->(∀x,p x=true->q x=true)->l.countP p<l.countP q
 | [],hm,_,_,_=>by simp at hm
 | x::l,hm,hq,hp,hi=>by
   have mono:l.countP p<=l.countP q:=List.countP_mono_left fun x _=>hi x;rw [List.countP_cons,List.countP_cons];rcases List.mem_cons.mp hm with rfl|hm
   ·rw [hq,hp];simp;omega
   ·have:=vd hm hq hp hi
    cases e:p x with
    | true=>rw [hi x e];simp;omega
    | false=>simp;omega
def gM {α:Type} (L:α->α->Bool) (vs:List α) (v:α):Nat:=vs.countP fun u=>L u v
structure Swo {α:Type} (L:α->α->Bool):Prop where
 irr:∀a,L a a=false
 tr:∀a b c,L a b=true->L b c=true->L a c=true
 ntr:∀a b c,L a b=false->L b c=false->L a c=false
theorem Cq {α:Type} {L:α->α->Bool} (S:Swo L) {vs:List α} {u v:α} (hu:u∈vs):decide (gM L vs u<gM L vs v)=L u v:=by
 cases e:L u v with
 | true=>exact decide_eq_true (vd hu e (S.irr u) fun x hx=>S.tr x u v hx e)
 | false=>
   refine decide_eq_false fun z=> ?_
   have:gM L vs v<=gM L vs u:=List.countP_mono_left fun x _ hx=>by
    cases e':L x u with
    | true=>rfl
    | false=>rw [S.ntr x u v e' e] at hx;cases hx
   omega
theorem vV {α:Type} {L:α->α->Bool} (S:Swo L) {vs:List α} {u v:α} (hv:v∈vs) (h:gM L vs u<=gM L vs v):L v u=false:=by
 have:=Cq S (u:=v) (v:=u) hv;rw [←this];exact decide_eq_false (by omega)
def cJ:List Int->List Int->Bool
 | _,[]=>false
 | [],_::_=>true
 | a::as,b::bs=>if a=b then cJ as bs else decide (a<b)
theorem yS (a:List Int):cJ a []=false:=by cases a<;>rfl
theorem yU:∀a,cJ a a=false
 | []=>rfl
 | a::as=>by unfold cJ;rw [if_pos rfl];exact yU as
theorem C_:∀a b c,cJ a b=true->cJ b c=true->cJ a c=true
 | a,[],_,h,_=>by rw [yS] at h;cases h
 | [],_::_,[],_,h=>by cases h
 | [],_::_,_::_,_,_=>rfl
 | _::_,_::_,[],_,h=>by cases h
 | a::as,b::bs,c::cs,h1,h2=>by
   unfold cJ at h1 h2 ⊢
   by_cases e1:a=b
   ·rw [if_pos e1] at h1
    by_cases e2:b=c
    ·rw [if_pos e2] at h2
     rw [if_pos (e1.trans e2)];exact C_ as bs cs h1 h2
    ·rw [if_neg e2] at h2
     rw [if_neg (e1▸e2),e1];exact h2
   ·rw [if_neg e1] at h1
    have h1:=of_decide_eq_true h1
    by_cases e2:b=c
    ·rw [←e2,if_neg e1];exact decide_eq_true h1
    ·rw [if_neg e2] at h2
     have h2:=of_decide_eq_true h2;rw [if_neg (by omega)];exact decide_eq_true (by omega)
theorem yR:∀a b c,cJ a b=false->cJ b c=false->cJ a c=false
 | a,_,[],_,_=>yS a
 | [],[],_::_,_,h=>by cases h
 | [],_::_,_::_,h,_=>by cases h
 | _::_,[],_::_,_,h=>by cases h
 | a::as,b::bs,c::cs,h1,h2=>by
   unfold cJ at h1 h2 ⊢
   by_cases e1:a=b
   ·rw [if_pos e1] at h1
    by_cases e2:b=c
    ·rw [if_pos e2] at h2
     rw [if_pos (e1.trans e2)];exact yR as bs cs h1 h2
    ·rw [if_neg e2] at h2
     rw [if_neg (e1▸e2),e1];exact h2
   ·rw [if_neg e1] at h1
    have h1:=of_decide_eq_false h1
    by_cases e2:b=c
    ·rw [←e2,if_neg e1];exact decide_eq_false h1
    ·rw [if_neg e2] at h2
     have h2:=of_decide_eq_false h2;rw [if_neg (by omega)];exact decide_eq_false (by omega)
theorem yQ:∀a b,cJ a b=false->cJ b a=false->a=b
 | [],[],_,_=>rfl
 | [],_::_,h,_=>by cases h
 | _::_,[],_,h=>by cases h
 | a::as,b::bs,h1,h2=>by
   unfold cJ at h1 h2
   by_cases e:a=b
   ·rw [if_pos e] at h1
    rw [if_pos e.symm] at h2;rw [e,yQ as bs h1 h2]
   ·rw [if_neg e] at h1
    rw [if_neg (Ne.symm e)] at h2;have h1:=of_decide_eq_false h1;have h2:=of_decide_eq_false h2;omega
theorem qH {α:Type} (key:α->List Int):Swo fun a b=>cJ (key a) (key b):=⟨fun a=>yU _,fun a b c=>C_ _ _ _,fun a b c=>yR _ _ _⟩
end
end Tim
set_option Elab.async false
set_option linter.all false
set_option maxRecDepth 100000
set_option maxHeartbeats 4000000
namespace L2
open PySem PySem.Spec PyProof.Rows PySem.W
section
variable {X:Cx}
def keyOf (h:Heap):Value->List Int
 | .int n _=>[n]
 | .ref a=>match h.get? a with
   | some o=>match o.data with
     | .seq xs _=>xs.toList.map numOf
     | _=>[]
   | none=>[]
 | _=>[]
theorem CZ {prog:Program} {w:World} {A:Around} {s:Shared} {Q:Bool->Shared->Prop}:∀(xs ys:List Value) (ns ms:List Int) (i:Nat),IntsAre xs ns->IntsAre ys ms -> ∀(fin:Bool),(ns.length=ms.length->fin=false)->ns.length=ms.length->Q (Tim.cJ ns ms) s->KatLex prog w A true fin Q (xs.zip ys) i s
 | _,_,[],[],i,.nil,.nil,fin,hf,_,h=>by
   show Q fin s;rw [hf rfl];exact h
 | _,_,_::_,[],_,_,_,_,_,hl,_=>by cases hl
 | _,_,[],_::_,_,_,_,_,_,hl,_=>by cases hl
 | _,_,n::ns,m::ms,i,.cons _ t hx,.cons _ u hy,fin,hf,hl,h=>by
   rw [List.zip_cons_cons];refine kat_cons (wpAny_eqBool_int ?_);have hl':ns.length=ms.length:=by simpa using hl
   by_cases e:n=m
   ·subst e
    rw [show (n==n)=true by simp];refine kat_yes (CZ _ _ ns ms (i+1) hx hy fin (fun z=>hf (by simpa using z)) hl' ?_);unfold Tim.cJ at h;rwa [if_pos rfl] at h
   ·rw [show (n==m)=false by simpa using e]
    unfold Tim.cJ at h;rw [if_neg e] at h;refine kat_no ?_;cases (true&&i==0) with
    | true=>exact oneLt_int h
    | false=>exact kat_one _ _ (lt_int (show W.BoolBack Q (.bool (decide (n<m))) s from h))
theorem gU {h:Heap} {a:Addr} {its:List Value} {ns:List Int} (ht:IsTup h a its.toArray) (hi:IntsAre its ns):keyOf h (.ref a)=ns:=by
 obtain ⟨o,e,_,n,d⟩:=ht
 show (match h.get? a with
  | some o=>match o.data with
    | .seq xs _=>xs.toList.map numOf
    | _=>[]
  | none=>[])=ns
 rw [e];dsimp only;rw [d];dsimp only;exact hi.nums
def vB (h:Heap) (k:Nat) (vs:List Value):Prop:=∀v∈vs,∃a its ns,v = .ref a/\IsTup h a its.toArray/\IntsAre its ns/\ns.length=k
theorem qW {prog:Program} {w:World} {A:Around} {s:Shared} {vs:List Value} {k:Nat} {h0:Heap} (T:vB h0 k vs) (kp:∀b o,h0.get? b=some o->s.heap.get? b=some o):
 Tim.z6 prog w A s (tuples' true) (pairsOf vs) (Tim.gM (fun a b=>Tim.cJ (keyOf h0 a) (keyOf h0 b)) vs):=by
 refine ⟨fun p hp q hq E Q h=> ?_⟩;rw [pairsOf_toList] at hp hq;obtain ⟨_,mp⟩:=mem_zip_self hp;obtain ⟨_,mq⟩:=mem_zip_self hq;rw [Tim.Cq (Tim.qH (keyOf h0)) mp] at h;obtain ⟨a,its,ns,ep,ta,ia,la⟩:=T _ mp;obtain ⟨b,jts,ms,eq,tb,ib,lb⟩:=T _ mq;rw [ep,eq] at h ⊢;rw [gU ta ia,gU tb ib] at h;obtain ⟨oa,ea,ca,n1,da⟩:=ta;obtain ⟨ob,eb,cb,n2,db⟩:=tb;have l1:its.length=ns.length:=ia.length;have l2:jts.length=ms.length:=ib.length;refine kat_lt (kp _ _ ea) da (kp _ _ eb) db ?_;have e1:its.toArray.toList=its:=by simp
 have e2:jts.toArray.toList=jts:=by simp
 rw [e1,e2];exact CZ its jts ns ms 0 ia ib _ (fun z=>decide_eq_false (by rw [List.size_toArray,List.size_toArray];omega)) (by omega) h
theorem pQ {h0 h1:Heap} {k:Nat} (hk:1<=k) (kp:∀b o,h0.get? b=some o->h1.get? b=some o):∀{vs:List Value},vB h0 k vs -> ∃fs,KatTups h1 vs fs/\fs.length=vs.length /\ ∀f∈fs,∃n t,f=Value.int n t
 | [],_=>⟨[],trivial,rfl,fun _ z=>absurd z (by simp)⟩
 | v::vs,T=>by
   obtain ⟨fs,t1,t2,t3⟩:=pQ hk kp (vs:=vs) fun u hu=>T u (List.mem_cons_of_mem _ hu);obtain ⟨a,its,ns,rfl,⟨o,e,c,n,d⟩,ia,la⟩:=T v (List.mem_cons_self ..)
   match its,ns,ia,la,d with
   | _,_,.nil,la,d=>simp at la;omega
   | _,_,.cons m t r,la,d=>
     refine ⟨_::fs,KatTups.cons (kp _ _ e) c d rfl t1,by simp [t2],fun f hf=> ?_⟩;rcases List.mem_cons.mp hf with rfl|hf
     ·exact ⟨_,_,rfl⟩
     ·exact t3 f hf
theorem oK {prog:Program} {w:World} {A:Around} {s:Shared} {vs:List Value} {k:Nat} {h0:Heap} {Q:SortKind->Shared->Prop} {E:Value->Shared->Prop} (hk:1<=k) (T:vB h0 k vs) (hv:2<=vs.length) (kp:∀b o,h0.get? b=some o->s.heap.get? b=some o)
 (h:Q (tuples' true) s):wpAny (model prog w) A (keyKind' vs.toArray) Q E s:=by
 obtain ⟨fs,t1,t2,t3⟩:=pQ hk kp T;refine kat_kind (T:= .type "int") t1 (by omega) (fun v hv=> ?_) rfl h;obtain ⟨n,t,rfl⟩:=t3 v hv;exact .now
theorem uG {ys:List V} {us out:List Value} (r:Vals ys us) (p:out.Perm us):∃zs,Vals zs out/\zs.Perm ys:=by
 induction p generalizing ys with
 | nil=>cases r;exact ⟨[],.nil,.refl _⟩
 | cons x p ih=>
   cases r with
   | cons rx rt=>
     obtain ⟨zs,z1,z2⟩:=ih rt;exact ⟨_::zs,.cons rx z1,.cons _ z2⟩
 | swap x y l=>
   cases r with
   | cons rx rt=>
     cases rt with
     | cons ry rl=>exact ⟨_,.cons ry (.cons rx rl),.swap _ _ _⟩
 | trans p q ih1 ih2=>
   obtain ⟨zs,z1,z2⟩:=ih2 r;obtain ⟨ws,w1,w2⟩:=ih1 z1;exact ⟨ws,w1,w2.trans z2⟩
theorem lN:∀{ns:List Int} {vs:List Value},Vals (ns.map V.int) vs->IntsAre vs ns
 | [],_,.nil=> .nil
 | n::ns,_,.cons ⟨t,e⟩ r=>by subst e;exact .cons n t (lN r)
theorem oJ {R:Value->Value->Prop} {S:V->V->Prop} (hRS:∀x y u v,RelV x u->RelV y v->R u v->S x y):∀{zs:List V} {out:List Value},Vals zs out->out.Pairwise R->zs.Pairwise S
 | _,_,.nil,_=> .nil
 | _,_,.cons rx rt,p=>by
   rw [List.pairwise_cons] at p;refine .cons (fun y hy=> ?_) (oJ hRS rt p.2);obtain ⟨i,hi,e⟩:=List.getElem_of_mem hy;obtain ⟨v,hv,ry⟩:=Vals.get rt (i:=i) (x:=y) (by rw [List.getElem?_eq_getElem hi,e]);exact hRS _ _ _ _ rx ry (p.1 v (List.mem_of_getElem? hv))
def adV (K:PySem.W.Frag) (H:Hp) (k:Nat) (f:V->List Int) (x:V):Prop:=∃a,x = .ref a/\bZ K H a ((f x).map V.int)/\(f x).length=k
def Ak (K:PySem.W.Frag):List V->Hp->VK->Prop:=fun xs H Q=>∃(p:Addr) (ys:List V) (k:Nat) (f:V->List Int),xs=[.ref p]/\aV K H p ys/\1<=k/\(∀y∈ys,adV K H k f y) /\
 ∀l zs,H l=none->zs.Perm ys->zs.Pairwise (fun x y=>Tim.cJ (f y) (f x)=false)->Q (.ref l) (upd H l (.lst zs))
theorem Bp:fO X (.builtin "sorted") (Ak X.K):=by
 intro pins s σ H xs us Q I r h;obtain ⟨p,ys,k,f,rfl,hq,hk,ht,q⟩:=h;obtain ⟨u,rfl,rx⟩:=vals1 r;cases rx;obtain ⟨its,rv,pl,hz⟩:=I.list hq;have hlen:its.length=ys.length:=by rw [←rv.length]
 have item:∀x v,x∈ys->RelV x v -> ∃a jts,v = .ref a/\IsTup s.heap a jts.toArray/\IntsAre jts (f x)/\(f x).length=k:=by
  intro x v hx rxv;obtain ⟨a,rfl,sq,hl⟩:=ht x hx;cases rxv;obtain ⟨jts,rj,tj,_⟩:=I.tuple sq;exact ⟨a,jts,rfl,tj,lN rj,hl⟩
 have T:vB s.heap k its:=fun v hv=>by
  obtain ⟨i,hi,e⟩:=List.getElem_of_mem hv;have hy:i<ys.length:=by omega
  obtain ⟨v',hv',ry⟩:=rv.get (i:=i) (x:=ys[i]) (by rw [List.getElem?_eq_getElem hy]);rw [List.getElem?_eq_getElem hi,e] at hv';cases hv';obtain ⟨a,jts,e1,e2,e3,e4⟩:=item _ _ (List.getElem_mem hy) ry;exact ⟨a,jts,_,e1,e2,e3,e4⟩
 refine Tim.Ag (κ:=tuples' true) (rk:=Tim.gM (fun a b=>Tim.cJ (keyOf s.heap a) (keyOf s.heap b)) its) pl.isList (by omega)
  (fun h2 h' kp=>⟨fun Q E hQ=>oK hk T h2 kp hQ,qW T kp⟩) fun h' D c out kp hD hd hp hs=> ?_
 obtain ⟨zs,z1,z2⟩:=uG rv hp;have hzl:zs.length<=sizeLine:=by rw [z2.length_eq];omega
 refine ⟨.ref D,_,I.laid (t':=s.toks) kp hD (show bR X.prog X.w _ h' _ (.lst zs) from ⟨hzl,out,c,z1,hd⟩),rfl,q D zs (I.hok.fresh hD) z2 ?_⟩
 have hs':out.Pairwise (fun u v=>u∈its/\v∈its/\Tim.cJ (keyOf s.heap v) (keyOf s.heap u)=false):=by
  refine List.Pairwise.imp_of_mem (fun {u v} hu hv huv=> ?_) hs;have mu:=hp.mem_iff.mp hu;have mv:=hp.mem_iff.mp hv;exact ⟨mu,mv,Tim.vV (Tim.qH (keyOf s.heap)) mv huv⟩
 have zin:∀z∈zs,z∈ys:=fun z hz=>z2.mem_iff.mp hz
 have zp:zs.Pairwise (fun x y=>x∈zs/\y∈zs):=by
  rw [List.pairwise_iff_getElem];intro i j hi hj _;exact ⟨List.getElem_mem hi,List.getElem_mem hj⟩
 have:=oJ (S:=fun x y=>x∈ys->y∈ys->Tim.cJ (f y) (f x)=false) (fun x y u v rx ry huv hx hy=>by
  obtain ⟨a,jts,rfl,e2,e3,e4⟩:=item x u hx rx;obtain ⟨b,kts,rfl,g2,g3,g4⟩:=item y v hy ry;have:=huv.2.2;rwa [gU e2 e3,gU g2 g3] at this) z1 hs'
 exact List.Pairwise.imp₂ (fun {x y} (h1:x∈ys->y∈ys->Tim.cJ (f y) (f x)=false) (h2:x∈zs/\y∈zs)=>h1 (zin _ h2.1) (zin _ h2.2)) this zp
theorem zK {K:PySem.W.Frag} (hK:X.K=K):fO X (.builtin "sorted") (Ak K):=by subst hK;exact Bp
end
end L2
set_option Elab.async false
set_option linter.all false
set_option maxRecDepth 100000
set_option maxHeartbeats 4000000
namespace L2
open PySem PySem.Spec PyProof.Rows
section
variable {prog:Program} {w:World} {A:Around} {E:Value->Shared->Prop} {s:Shared} {it d:Addr} {ep:Nat} {od:Obj} {es:Array DictEntry}
theorem Ba {Q:Value->Shared->Prop} (nsm:(d==sysModules)=false) (ho:s.heap.get? d=some od) (hx:od.ExactDict) (he:od.data = .dict es ep)
 (k:Q (.ref s.heap.objs.size) {s with heap:=s.heap.push {cls:= .type "dict_keyiterator",data:= .fields #[.ref d,.int 0 0,.int es.size 0,.int ep 0]}}):wpAny (model prog w) A (pyIter (.ref d)) Q E s:=by
 have ty:s.TypeIs (.ref d) "dict" :=⟨od,ho,hx.1⟩
 refine wpAny_pyIter_slot ty F.slot_dict_iter (wpAny_call_entry F.slot_dict_iter ty F.entry_dict_iter (by
  unfold Builtin.«dict.__iter__» Builtin.Dict.dictSlotNone;refine wpAny_bind (wpAny_bind (wpAny_notOrdered_dict ty ?_));show wpAny _ _ (pure (Value.ref d)) _ _ s;refine wpAny_pure ?_;show wpAny _ _ (Builtin.Dict.showsAll d >>= _) _ _ s;unfold Builtin.Dict.showsAll;rw [nsm];rw [if_neg Bool.false_ne_true];refine wpAny_bind (wpAny_pure (wpAny_bind (wpAny_dictEntries ho he (wpAny_bind (wpAny_dictEpoch ho he (wpAny_bind (wpAny_newObj_type (wpAny_pure ?_))))))));exact ⟨_,rfl,"dict_keyiterator",_,⟨_,Heap.get?_push_size _ rfl,rfl⟩,F.slot_dict_keyiterator_next.lookup,by simpa [rawInt] using k⟩) (F.args_dict_iter_1 _))
theorem Ft {i:Nat} {Q:Option Value->Shared->Prop} (st:s.heap.IsKeyIter it d i es.size ep) (ho:s.heap.get? d=some od) (he:od.data = .dict es ep) (hi:i<es.size)
 (k:∀h',h'.IsKeyIter it d (i+1) es.size ep->Heap.SameBut it s.heap h'->Q (some es[i].key) {s with heap:=h'}):wpAny (model prog w) A (pyNext (.ref it)) Q E s:=by
 obtain ⟨oi,hoi,ci,di⟩:=id st;have ty:=st.typeIs;have Fi:Builtin.Dict_items.ownsTuple "dict_keyiterator" = false:=by decide
 have Q8:¬((i:Int)<0):=by omega
 have st':(s.heap.update it (Obj.mapFields (·.setIfInBounds 1 (rawInt ((i:Int)+1))))).IsKeyIter it d (i+1) es.size ep:=
  ⟨_,Heap.get?_update_self _ hoi (Obj.isFreed_of_fields (Obj.data_mapFields di _)),by rw [Obj.cls_mapFields];exact ci,by rw [Obj.data_mapFields di];simp [rawInt]⟩
 unfold pyNext
 refine wpAny_bind (wpAny_attempt (wpAny_callSpecial?_slot (name:=Str.ofString "__next__") ty F.slot_dict_keyiterator_next (wpAny_call_entry F.slot_dict_keyiterator_next ty F.entry_dict_keyiterator_next (by
  refine wpAny_bind (wpAny_pure (wpAny_bind (wpAny_bind ?_)));refine wpAny_bind (wpAny_typeNameOfWhole_keyiter ty (wpAny_pure (wpAny_bind (wpAny_fieldsOf hoi di ?_))));rw [Fi];simp only [Bool.false_eq_true,if_false];show wpAny _ _ (if (Value.ref d==Value.none)=true then _ else _) _ _ s;rw [show (Value.ref d==Value.none)=false from rfl];rw [if_neg Bool.false_ne_true];refine wpAny_bind (wpAny_pure (wpAny_bind (wpAny_dictEntries ho he ?_)));rw [if_neg (by simp)];refine wpAny_bind (wpAny_pure (wpAny_bind (wpAny_dictEpoch ho he ?_)));rw [if_neg (by simp)];refine wpAny_pure ?_;simp only [Q8,if_false,Int.toNat_natCast,Array.getElem?_eq_getElem hi];refine wpAny_bind (wpAny_bind (wpAny_typeNameOfWhole_keyiter ty (wpAny_pure (wpAny_bind (wpAny_isOneOf_keyiter ty ?_)))));show wpAny _ _ (setField (.ref it) 1 (rawInt ((i:Int)+1)) >>= _) _ _ s;refine wpAny_bind (wpAny_setField hoi di (by simp) ?_);refine wpAny_bind (wpAny_holding (wpAny_bind (wpAny_isOneOf_keyiter (s:={s with heap:=s.heap.update it (Obj.mapFields (·.setIfInBounds 1 (rawInt ((i:Int)+1))))}) st'.typeIs ?_)));show wpAny _ _ (pure es[i].key) _ _ _;exact wpAny_pure (wpAny_pure ⟨_,rfl,wpAny_pure (k _ st' (Heap.SameBut.update ..))⟩)) (F.args_dict_keyiterator_next_1 _))))
theorem Jt {i:Nat} {Q:Option Value->Shared->Prop} (calm:A.handled=none) (st:s.heap.IsKeyIter it d i es.size ep) (ho:s.heap.get? d=some od) (he:od.data = .dict es ep) (hi:es.size<=i)
 (k:∀h',Heap.ExtBut it s.heap h'->Q none {s with heap:=h'}):wpAny (model prog w) A (pyNext (.ref it)) Q E s:=by
 obtain ⟨oi,hoi,ci,di⟩:=id st;have ty:=st.typeIs;have Fi:Builtin.Dict_items.ownsTuple "dict_keyiterator" = false:=by decide
 have Q8:¬((i:Int)<0):=by omega
 unfold pyNext
 refine wpAny_bind (wpAny_attempt (wpAny_callSpecial?_slot (name:=Str.ofString "__next__") ty F.slot_dict_keyiterator_next (wpAny_call_entry F.slot_dict_keyiterator_next ty F.entry_dict_keyiterator_next (by
  refine wpAny_bind (wpAny_pure (wpAny_bind (wpAny_bind ?_)));refine wpAny_bind (wpAny_typeNameOfWhole_keyiter ty (wpAny_pure (wpAny_bind (wpAny_fieldsOf hoi di ?_))));rw [Fi];simp only [Bool.false_eq_true,if_false];show wpAny _ _ (if (Value.ref d==Value.none)=true then _ else _) _ _ s;rw [show (Value.ref d==Value.none)=false from rfl];rw [if_neg Bool.false_ne_true];refine wpAny_bind (wpAny_pure (wpAny_bind (wpAny_dictEntries ho he ?_)));rw [if_neg (by simp)];refine wpAny_bind (wpAny_pure (wpAny_bind (wpAny_dictEpoch ho he ?_)));rw [if_neg (by simp)];refine wpAny_pure ?_;simp only [Q8,if_false,Int.toNat_natCast,Array.getElem?_eq_none hi];refine wpAny_bind (wpAny_bind (wpAny_typeNameOfWhole_keyiter ty (wpAny_pure ?_)));show wpAny _ _ (setField (.ref it) 0 .none >>= _) _ _ s;refine wpAny_bind (wpAny_setField hoi di (by simp) ?_);show wpAny _ _ (newExc (.type "StopIteration") [] >>= _) _ _ _;refine wpAny_bind ?_;simp only [newExc,newTuple];refine wpAny_bind (wpAny_newObj_type ?_ (by size_fits));refine wpAny_bind (m:=firstArgMember _ _) (wpAny_of_eq (a:=Value.none) (by first |rfl|(simp only [firstArgMember];rfl)) (wpAny_newObj_type ?_ (by size_fits)));simp only [raiseNew];refine wpAny_bind (wpAny_handled ?_);rw [show A.in1.handled=none from calm];refine wpAny_bind (wpAny_pure (wpAny_throw ?_));refine wpAny_bind (wpAny_isInstance (T:= "StopIteration") (b:=true) ⟨_,Heap.get?_push_size _ rfl,rfl⟩ isSubtype_stop ?_);exact wpAny_pure (k _ (((Heap.SameBut.update ..).extBut.push _).push _))) (F.args_dict_keyiterator_next_1 _))))
end
end L2
set_option Elab.async false
set_option linter.all false
set_option maxRecDepth 100000
set_option maxHeartbeats 4000000
namespace L2
open PySem PySem.Spec PyProof.Rows
section
variable {X:Cx} {pins:List (Addr×Obj)} {σ:St} {H:Hp} {s:Shared} {d:Addr}
end
section
variable {X:Cx} {tg:Expr}
end
section
variable {d D:Addr} {o:Obj} {kvs:List (List Key×V)} {tc:TT} {te:TE} {Q:VK} {rest:St} {H1:Hp}
end
end L2
set_option Elab.async false
set_option linter.all false
set_option maxRecDepth 100000
set_option maxHeartbeats 4000000
namespace L2
open PySem PySem.Spec PyProof.Rows
section
variable {prog:Program} {w:World} {A:Around} {E:Value->Shared->Prop} {s:Shared}
end
end L2
set_option Elab.async false
set_option linter.all false
set_option maxRecDepth 100000
set_option maxHeartbeats 4000000
namespace L2
open PySem PySem.Spec PyProof.Rows
section
variable {prog:Program} {w:World} {A:Around} {E:Value->Shared->Prop} {s:Shared}
end
section
variable {X:Cx}
end
section
variable {K:PySem.W.Frag} {D:Addr} {xs:List V} {tc:TT} {te:TE} {Q:VK} {rest:St} {H1:Hp}
end
end L2
set_option Elab.async false
set_option linter.all false
set_option maxRecDepth 100000
set_option maxHeartbeats 4000000
namespace L2
open PySem PySem.Spec PyProof.Rows
section
variable {prog:Program} {w:World} {K:Type} [DecidableEq K] {knd:HeapKind prog w K} {A:Around} {E:Value->Shared->Prop} {s:Shared}
end
section
variable {X:Cx}
end
end L2
set_option Elab.async false
set_option linter.all false
set_option maxRecDepth 100000
set_option maxHeartbeats 4000000
namespace L2
open PySem PySem.Spec PyProof.Rows
section
variable {prog:Program} {w:World} {K:Type} [DecidableEq K] {knd:HeapKind prog w K} {A:Around} {E:Value->Shared->Prop} {s:Shared} {d:Addr} {xs:List (K×Addr×Value)}
theorem kO (hm:s.heap.DictOfH knd d xs):s.TypeIs (.ref d) "dict" :=by
 obtain ⟨o,es,ep,ho,hc,_⟩:=hm;exact ⟨o,ho,hc.1⟩
end
section
variable {X:Cx} {pos:Pos} {k v a:Expr} {tk tv ta:TE}
theorem rP {kvs:List (List Key×V)} {H:Hp} {ys:List (List Key×Addr×Value)} (r:KT H kvs ys):ys.isEmpty=kvs.isEmpty/\ys.length=kvs.length:=by
 have e:ys.length=kvs.length:=(Paired.length r).symm;refine ⟨?_,e⟩;cases kvs<;>cases ys<;>simp at e ⊢
end
end L2
namespace L2
open PySem PySem.Spec PyProof.Rows
section
variable {d:Addr} {o:Obj} {kvs:List (List Key×V)} {g:TG} {tb:TS} {D:Ends} {σ:St} {H:Hp}
end
end L2
namespace L2
open PySem PySem.Spec PyProof.Rows
section
variable {X:Cx}
end
end L2
set_option Elab.async false
set_option linter.all false
set_option maxRecDepth 100000
set_option maxHeartbeats 4000000
namespace L2
open PySem PySem.Spec PyProof.Rows
section
variable {prog:Program} {w:World} {A:Around} {E:Value->Shared->Prop} {s:Shared}
theorem uO {h:Heap} {a:Addr} (l:h.objs.size<=a):h.get? a=none:=by
 cases e:h.get? a with
 | none=>rfl
 | some q=>exact absurd (Heap.lt_size e) (Nat.not_lt.mpr l)
end
section
variable {X:Cx}
variable {pos:Pos} {k v:Expr} {tk tv:TE}
end
end L2
set_option Elab.async false
set_option linter.all false
set_option maxRecDepth 100000
set_option maxHeartbeats 4000000
namespace L2
open PySem PySem.Spec PyProof.Rows PySem.W
section
variable {prog:Program} {w:World} {A:Around} {E:Value->Shared->Prop} {s:Shared} {d r:Addr} {o:Obj} {es:Array DictEntry} {ep:Nat}
theorem D_ (hh:A.handled=none) (it d:Addr) (hne:d≠it) (he:o.data = .dict es ep):
 Walks prog w A it [it,d] [it] es.size (fun i v=>∃e,es[i]? = some e/\v=e.key) (fun i h=>h.IsKeyIter it d i es.size ep/\h.get? d=some o) where
 sub:=fun b hb=>by rw [List.mem_singleton.mp hb];exact List.mem_cons_self ..
 frame:=fun _ _ _ st hk=>⟨st.1.at fun o e=>hk it (by simp) o e,hk d (by simp) _ st.2⟩
 item:=fun i s Q E hi st hQ=>Ft st.1 st.2 he hi fun h' st' sb=>hQ _ h' s.toks ⟨es[i],by simp [hi],rfl⟩ ⟨st',(sb.2 d hne).trans st.2⟩ fun b o hb e=>sb.extBut b o (fun h=>hb (by simp [h])) e
 done:=fun s Q E st hQ=>Jt hh st.1 st.2 he (Nat.le_refl _) fun h' eb=>hQ h' s.toks fun b o hb e=>eb b o (fun h=>hb (by simp [h])) e
 self:=fun _ _ _ _ st hQ=>wpAny_pyIter_keyiter st.1 hQ
theorem G_ (lo:(d==sysModules)=false) (hx:o.ExactDict) (he:o.data = .dict es ep):KdlSrc prog w "dict" d d es.size (fun i v=>∃e,es[i]? = some e/\v=e.key) (fun h=>h.get? d=some o) where
 type:=fun _ hm=>⟨o,hm,hx.1⟩
 there:=fun _ hm=>⟨Heap.lt_size hm,Heap.lt_size hm⟩
 keep:=fun _ _ hm hk=>hk d (.inl rfl) o hm
 notList:=by decide
 notTuple:=by decide
 hint:=fun _ _ s _ hm hq=>kdl_hint_dict ⟨o,hm,hx.1⟩ hq
 iter:=fun _ s hh hm=>⟨_,_,(fun _ _ hq=>Ba lo hm hx he hq),D_ hh _ d (Nat.ne_of_lt (Heap.lt_size hm)) he,⟨⟨_,Heap.get?_push_size _ rfl,rfl,rfl⟩,Heap.get?_push_of_some _ hm⟩⟩
end
end L2
namespace Tim
open PySem PySem.W PyProof.Rows
section
variable {prog:Program} {w:World} {A:Around} {E:Value->Shared->Prop} {s:Shared} {T:String} {r d:Addr} {n:Nat} {P:Nat->Value->Prop} {OK:Heap->Prop}
theorem Af {Q:Value->Shared->Prop} (S:KdlSrc prog w T r d n P OK) (hh:A.handled=none) (hok:OK s.heap) (hn:n<=sizeLine)
 (h:∀(vs:List Value) (tk:Nat),vs.length=n->(∀i v,vs[i]? = some v->P i v) -> ∃(κ:SortKind) (rk:Value->Nat),
   (2<=vs.length -> ∀h':Heap,(∀b o,s.heap.get? b=some o->h'.get? b=some o)->(∀(Q:SortKind->Shared->Prop) (E:Value->Shared->Prop),Q κ {s with heap:=h',toks:=tk}->wpAny (model prog w) A.in1.in1 (keyKind' vs.toArray) Q E {s with heap:=h',toks:=tk})/\z6 prog w A.in1.in1 {s with heap:=h',toks:=tk} κ (pairsOf vs) rk) /\
   ∀(h0 h':Heap) (D:Addr) (c:Nat) (out:List Value),(∀b o,s.heap.get? b=some o->h0.get? b=some o)->(∀b o,h0.get? b=some o->h'.get? b=some o)->h0.objs.size<=D->h'.get? D=some (seqObj "list" out.toArray c)->out.Perm vs->out.Pairwise (fun x y=>rk x<=rk y)->Q (.ref D) {s with heap:=h',toks:=tk}):
 wpAny (model prog w) A (call (.builtin "sorted") [.ref r]) Q E s:=by
 refine Calls.call_function_entry kind_sorted plain_sorted entry_sorted (args_sorted1 _) ?_;unfold Builtin.«sorted»;refine wpAny_bind (m:=checkCount "sorted" 1 1 _) (wpAny_pure ?_);refine wpAny_bind (kdu_collect S (show A.in1.handled=none from hh) hok hn fun h0 tk acc Jy hacc=> ?_);obtain ⟨κ,rk,hk,fin⟩:=h acc.toList tk (by rw [Array.length_toList];exact hacc.1) fun i v e=>hacc.2 i v (by rw [←Array.getElem?_toList];exact e);have hz:acc.toList.length<=sizeLine:=by rw [Array.length_toList,hacc.1];exact hn
 generalize acc.toList=vs at hk fin hz ⊢;refine wpAny_bind (wpAny_newList ?_ hz);have lt0:∀b o,h0.get? b=some o->b<h0.objs.size:=fun b o e=>Heap.lt_size e;have hoL:(h0.push (seqObj "list" vs.toArray 0)).get? h0.objs.size=some (seqObj "list" vs.toArray 0):=Heap.get?_push_size _ rfl;have keep:∀b o,h0.get? b=some o->(h0.push (seqObj "list" vs.toArray 0)).get? b=some o:=fun b o q=>Heap.get?_push_of_some _ q;show wpAny _ _ _ _ _ {s with heap:=h0.push (seqObj "list" vs.toArray 0),toks:=tk};generalize h0.push (seqObj "list" vs.toArray 0)=h1 at keep hoL ⊢;have le0:=Nat.le_refl h0.objs.size;generalize e0:h0.objs.size=Dl at hoL lt0 ⊢;rw [e0] at le0;have nD:∀b o,h0.get? b=some o->b≠Dl:=fun b o e=>Nat.ne_of_lt (lt0 b o e);refine wpAny_bind (wpAny_holding (wpAny_call_entry slot_list_sort ⟨_,hoL,rfl⟩ entry_list_sort (mF (s:={s with heap:=h1,toks:=tk}) hoL hz (fun h2 h' kp=>hk h2 h' fun b o e=>kp b o (nD b o (Jy b o e)) (keep b o (Jy b o e))) fun out p1 p2=>⟨_,rfl, ?_⟩) (args_list_sort _)));refine wpAny_pure ⟨_,rfl, ?_⟩;obtain ⟨e1,ho1⟩:∃e1,(h1.update Dl (Obj.mapSeq fun _=> #[])).get? Dl=some (seqObj "list" #[] e1):=⟨_,get?_update_seq hoL (fun _=> #[])⟩;have ho2:(((h1.update Dl (Obj.mapSeq fun _=> #[])).push (seqObj "tuple" vs.toArray 0)).push (seqObj "list" #[] 0)).get? Dl=some (seqObj "list" #[] e1):=Heap.get?_push_of_some _ (Heap.get?_push_of_some _ ho1);refine fin h0 (sortedHeap h1 Dl vs out.toArray) Dl _ out Jy (fun b o e=> ?_) (Nat.le_of_eq e0) (by unfold sortedHeap;exact get?_update_seq ho2 (fun _=>out.toArray)) p1 p2;unfold sortedHeap;rw [Heap.get?_update_ne _ _ _ _ (nD b o e)];refine Heap.get?_push_of_some _ (Heap.get?_push_of_some _ ?_);rw [Heap.get?_update_ne _ _ _ _ (nD b o e)];exact keep b o e
end
end Tim
namespace L2
open PySem PySem.Spec PyProof.Rows PySem.W
section
variable {prog:Program} {w:World} {d:Addr}
theorem Ey {α β:Type} {R:α->β->Prop} {as:List α} {bs:List β} (r:Paired R as bs):∀{i:Nat} {b:β},bs[i]? = some b -> ∃a,as[i]? = some a/\R a b:=by
 induction r with
 | nil=>intro i b e;cases e
 | @cons a b as bs h r ih=>
   intro i c e;cases i with
   | zero=>cases e;exact ⟨a,rfl,h⟩
   | succ i=>exact ih (by simpa using e)
end
section
variable {X:Cx}
def mZ (H:Hp):V->List Int
 | .ref a=>match H a with
   | some (.tup xs)=>xs.map fun x=>match x with
     | .int n=>n
     | _=>0
   | _=>[]
 | _=>[]
theorem mY {H:Hp} {a:Addr} {ns:List Int} (e:H a=some (.tup (ns.map V.int))):mZ H (.ref a)=ns:=by
 unfold mZ;dsimp only;rw [e];dsimp only;rw [List.map_map];exact (List.map_congr_left fun x _=>rfl).trans (List.map_id ns)
def Qs:List V->Hp->VK->Prop:=fun xs H Q=>∃(d:Addr) (kvs:List (List Key×V)) (k:Nat) (ls:List (List Int)),xs=[.ref d]/\H d=some (.dT kvs)/\kvs.map (·.1)=ls.map (fun l=>l.map (Sum.inl (β:=Str)))/\1<=k/\(∀l∈ls,l.length=k) /\
 ∀(p:Addr) (zs:List V) (ms:List (List Int)),H p=none->ms.Perm ls->ms.Pairwise (fun x y=>Tim.cJ y x=false)->zs.length=ms.length->(∀(i:Nat) m,ms[i]? = some m -> ∃a,zs[i]? = some (.ref a)/\H a=some (.tup (m.map V.int)))->Q (.ref p) (upd H p (.lst zs))
theorem Bq (hc:X.calm=true):fO X (.builtin "sorted") Qs:=by
 intro pins s σ H xs us Q I r h;obtain ⟨d,kvs,k,ls,rfl,hd,ek,hk,hl,q⟩:=h;obtain ⟨u,rfl,ru⟩:=vals1 r;cases ru;obtain ⟨z,lo,ys,rel,o,es,ep,ho,hx,he,hes,_⟩:=(show bR X.prog X.w H s.heap d (.dT kvs) from I.hok d _ hd);have lk:kvs.length=ys.length:=Paired.length rel;have le:es.size=ys.length:=by rw [←Array.length_toList,hes,List.length_map]
 have at':∀(i:Nat) y,ys[i]? = some y -> ∃l,ls[i]? = some l/\H y.2.1=some (.tup (l.map V.int)):=fun i y ey=>by
  obtain ⟨a,ea,e1,e2,_⟩:=Ey rel ey;have e3:(kvs.map (·.1))[i]? = some a.1:=by rw [List.getElem?_map,ea];rfl
  rw [ek,List.getElem?_map] at e3;cases el:ls[i]? with
  | none=>rw [el] at e3;cases e3
  | some l=>
    rw [el] at e3;have:a.1=l.map (Sum.inl (β:=Str)):=(Option.some.inj e3).symm;rw [this,List.map_map] at e2;exact ⟨l,rfl,e2⟩
 have lls:ls.length=ys.length:=by have:=congrArg List.length ek;simp at this;omega
 refine Tim.Af (G_ lo hx he) (I.ok.hd hc) ho (by rw [le,←lk];exact z) fun vs tk hv hP=> ?_
 have ev:vs=ys.map fun q=>Value.ref q.2.1:=by
  refine List.ext_getElem? fun i=> ?_;cases e:vs[i]? with
  | none=>
    rw [List.getElem?_eq_none_iff] at e;rw [List.getElem?_eq_none (by rw [List.length_map];omega)]
  | some v=>
    obtain ⟨en,ee,rfl⟩:=hP i v e;rw [←Array.getElem?_toList,hes,List.getElem?_map] at ee;cases ey:ys[i]? with
    | none=>rw [ey] at ee;cases ee
    | some y=>
      rw [ey] at ee;cases ee;rw [List.getElem?_map,ey];rfl
 have rv:∀l:List (List Key×Addr×Value),Vals (l.map fun q=>V.ref q.2.1) (l.map fun q=>Value.ref q.2.1):=fun l=>by
  induction l with
  | nil=>exact .nil
  | cons a l ih=>exact .cons rfl ih
 have tf:∀q∈ys,∃l,l∈ls/\H q.2.1=some (.tup (l.map V.int)):=fun q hq=>by
  obtain ⟨i,hi,e⟩:=List.getElem_of_mem hq;obtain ⟨l,el,eh⟩:=at' i q (by rw [List.getElem?_eq_getElem hi,e]);exact ⟨l,List.mem_of_getElem? el,eh⟩
 have item:∀q∈ys,∃jts,IsTup s.heap q.2.1 jts.toArray/\IntsAre jts (mZ H (.ref q.2.1))/\(mZ H (.ref q.2.1)).length=k:=fun q hq=>by
  obtain ⟨l,hl',eh⟩:=tf q hq;obtain ⟨jts,rj,tj,_⟩:=I.tuple (bZ.of eh);rw [mY eh];exact ⟨jts,tj,lN rj,hl l hl'⟩
 have T:vB s.heap k vs:=fun v hv'=>by
  rw [ev] at hv';obtain ⟨y,hy,rfl⟩:=List.mem_map.mp hv';obtain ⟨jts,e1,e2,e3⟩:=item y hy;exact ⟨_,jts,_,rfl,e1,e2,e3⟩
 refine ⟨tuples' true,Tim.gM (fun a b=>Tim.cJ (keyOf s.heap a) (keyOf s.heap b)) vs,fun h2 h' kp=>⟨fun Q E hQ=>oK (s:={s with heap:=h',toks:=tk}) hk T h2 kp hQ,qW (s:={s with heap:=h',toks:=tk}) T kp⟩,fun h0 h' D c out k0 kp hD hdl hp hs=> ?_⟩;have rvs:Vals (ys.map fun q=>V.ref q.2.1) vs:=by rw [ev];exact rv ys
 obtain ⟨zs,z1,z2⟩:=uG rvs hp;have hzl:zs.length<=sizeLine:=by rw [z2.length_eq,List.length_map,←lk];exact z
 have I1:Inv X pins σ H {s with heap:=h0,toks:=tk}:=I.kept (t':=tk) k0
 have zat:∀x∈zs,∃q∈ys,x=V.ref q.2.1:=fun x hx'=>by
  obtain ⟨q,hq,e⟩:=List.mem_map.mp (z2.mem_iff.mp hx');exact ⟨q,hq,e.symm⟩
 refine ⟨.ref D,_,I1.laid (t':=tk) kp hD (show bR X.prog X.w _ h' _ (.lst zs) from ⟨hzl,out,c,z1,hdl⟩),rfl,q D zs (zs.map (mZ H)) (I1.hok.fresh hD) ?_ ?_ (by rw [List.length_map]) fun i m e=> ?_⟩
 ·have:=z2.map (mZ H)
  have e:(ys.map fun q=>V.ref q.2.1).map (mZ H)=ls:=by
   refine List.ext_getElem (by simp;omega) fun i h1 h2=> ?_;obtain ⟨l,el,eh⟩:=at' i ys[i] (by simp);rw [List.getElem?_eq_getElem h2] at el;cases el;simp only [List.getElem_map];exact mY eh
  rw [e] at this;exact this
 ·have hs':out.Pairwise (fun u v=>u∈vs/\v∈vs/\Tim.cJ (keyOf s.heap v) (keyOf s.heap u)=false):=by
   refine List.Pairwise.imp_of_mem (fun {u v} hu hv huv=> ?_) hs;have mu:=hp.mem_iff.mp hu;have mv:=hp.mem_iff.mp hv;exact ⟨mu,mv,Tim.vV (Tim.qH (keyOf s.heap)) mv huv⟩
  rw [List.pairwise_map];refine oJ (fun x y u v rx ry huv=> ?_) z1 hs';obtain ⟨hu,hv',hlt⟩:=huv;rw [ev] at hu hv';obtain ⟨q1,hq1,rfl⟩:=List.mem_map.mp hu;obtain ⟨q2,hq2,rfl⟩:=List.mem_map.mp hv';obtain ⟨j1,a1,a2,a3⟩:=item q1 hq1;obtain ⟨j2,b1,b2,b3⟩:=item q2 hq2;rw [gU a1 a2,gU b1 b2] at hlt
  have ex:x=V.ref q1.2.1:=by
   cases x with
   | ref a=>cases rx;rfl
   | int n=>obtain ⟨t,e⟩:=rx;cases e
   | str n=>obtain ⟨t,e⟩:=rx;cases e
   | z9 n=>obtain ⟨t,e⟩:=rx;cases e
   | flt n=>obtain ⟨t,e⟩:=rx;cases e
   | bl b=>cases rx
   | non=>cases rx
   | _=>cases rx
  have ey:y=V.ref q2.2.1:=by
   cases y with
   | ref a=>cases ry;rfl
   | int n=>obtain ⟨t,e⟩:=ry;cases e
   | str n=>obtain ⟨t,e⟩:=ry;cases e
   | z9 n=>obtain ⟨t,e⟩:=ry;cases e
   | flt n=>obtain ⟨t,e⟩:=ry;cases e
   | bl b=>cases ry
   | non=>cases ry
   | _=>cases ry
  rw [ex,ey];exact hlt
 ·rw [List.getElem?_map] at e
  cases ez:zs[i]? with
  | none=>rw [ez] at e;cases e
  | some x=>
    rw [ez] at e;obtain ⟨q,hq,rfl⟩:=zat x (List.mem_of_getElem? ez);obtain ⟨l,_,eh⟩:=tf q hq;have em:m=l:=by rw [←Option.some.inj e];exact mY eh
    rw [em];exact ⟨_,rfl,eh⟩
end
end L2
set_option Elab.async false
set_option linter.all false
set_option maxRecDepth 100000
set_option maxHeartbeats 1000000
namespace L2
open PySem PySem.Spec PyProof.Rows PySem.W
section
variable {P:Program} {w:World} {H:Hp} {h h':Heap} {p:Addr} {ps:Array Value}
theorem Un.P0 {fs ex:List Addr} {more:Array Value} {c f:Addr} {o1 o2:HO} (hp:H p=some (.dU ps)) (k:∀b u,b≠p->h.get? b=some u->h'.get? b=some u) (hn:∃u,h'.get? p=some u) (hc:H c=none) (hf:H f=none) (sc:h.objs.size<=c) (sf:h.objs.size<=f):
 Un fs ex H (upd (upd (upd H p (.dU (ps++more))) c o1) f o2) h h':=by
 have np:∀b,H b=none->b≠p:=fun b n z=>by rw [z,hp] at n;cases n
 have at_:∀b u,H b=some u->b≠p->(upd (upd (upd H p (.dU (ps++more))) c o1) f o2) b=some u:=fun b u e n=>by
  rw [aN (aD e hf),aN (aD e hc),aN n];exact e
 have lt:∀b u,h.get? b=some u->b≠c/\b≠f:=fun b u e=>⟨Nat.ne_of_lt (Nat.lt_of_lt_of_le (Heap.lt_size e) sc),Nat.ne_of_lt (Nat.lt_of_lt_of_le (Heap.lt_size e) sf)⟩;refine ⟨fun b u q n _ _=>k b u (np b n) q,fun b u q n _ _=>⟨u.slots,k b u (np b n) q⟩,fun b u q n _=> ?_,fun b u q _=> ?_,fun b xs q=>at_ b _ q fun z=> ?_,fun b u xs q=>at_ b _ q fun z=> ?_,fun b qs q=> ?_⟩
 ·rw [aN (lt b u q).2,aN (lt b u q).1,aN (np b n)];exact n
 ·by_cases z:b=p
  ·rw [z];exact hn
  ·exact ⟨u,k b u z q⟩
 ·rw [z,hp] at q;cases q
 ·rw [z,hp] at q;cases q
 ·by_cases z:b=p
  ·subst z
   rw [hp] at q;cases q;exact ⟨more,by rw [aN (aD hp hf),aN (aD hp hc),ak]⟩
  ·exact ⟨#[],by rw [at_ b _ q z];simp⟩
theorem j_.P0 {more:Array Value} {c f:Addr} {o1 o2:HO} (ok:j_ P w H h) (hp:H p=some (.dU ps)) (k:∀b u,b≠p->h.get? b=some u->h'.get? b=some u) (new:h'.get? p=some (tabObj (ps++more))) (hc:H c=none) (hf:H f=none) (XJ:c≠f)
 (n1:bR P w (upd (upd (upd H p (.dU (ps++more))) c o1) f o2) h' c o1) (n2:bR P w (upd (upd (upd H p (.dU (ps++more))) c o1) f o2) h' f o2):j_ P w (upd (upd (upd H p (.dU (ps++more))) c o1) f o2) h':=fun b u q=>by
 by_cases hbf:b=f
 ·subst hbf;rw [ak] at q;cases q;exact n2
 rw [aN hbf] at q
 by_cases hbc:b=c
 ·subst hbc;rw [ak] at q;cases q;exact n1
 rw [aN hbc] at q
 by_cases hb:b=p
 ·subst hb;rw [ak] at q;cases q;exact new
 ·rw [aN hb] at q
  have at_:∀d u,H d=some u->d≠p->(upd (upd (upd H p (.dU (ps++more))) c o1) f o2) d=some u:=fun d u e n=>by
   rw [aN (aD e hf),aN (aD e hc),aN n];exact e
  refine (ok b u q).stay (fun d v hd r=>k d v ?_ r) (fun d r=>at_ d _ r fun z=> ?_) fun d xs r=>at_ d _ r fun z=> ?_
  ·rcases hd with rfl|hd
   ·exact hb
   ·intro z;rw [z,hp] at hd;cases hd
  ·rw [z,hp] at r;cases r
  ·rw [z,hp] at r;cases r
end
def Bm (mg:Str->Option Value) (h:Heap):Prop:=∃bm ob,mg "__builtins__" = some (.ref bm)/\bm≠builtinsNs/\h.get? bm=some ob/\ob.cls = .type "module" /\ ob.dict=some builtinsNs/\ob.data = .plain
abbrev YM (c:Addr) (qual:Str):HO:= .ext fun h=>h.CodeRec (.ref c) qual
abbrev YL (f:Addr) (o:Obj):HO:= .ext fun h=>h.get? f=some o
def pL (H:Hp) (p:Addr) (pos:Pos) (qual:Str):Prop:=H p=some (.dU #[]) \/ ∃c,H p=some (.dU #[rawInt pos.line,rawInt pos.col,.ref c])/\H c=some (YM c qual)
def xu (H:Hp) (f:Addr) (qual:Str) (params:Arguments) (body:Expr) (scope:Scope) (pm:Value):Prop:=∃c ctv,H f=some (YL f (kla_obj "<lambda>" qual params body scope [] pm c ctv))/\H c=some (YM c qual)
section
variable {X:Cx}
def Y6 (p:Addr) (pos:Pos) (qual:Str) (params:Arguments) (body:Expr) (scope:Scope) (pm:Value):TE:=fun _ H Q=>pL H p pos qual /\ ∀(f:Addr) (H':Hp),H f=none->xu H' f qual params body scope pm->pL H' p pos qual->Kp p H H'->Q (.ref f) H'
theorem Wq {P:Program} {w:World} {H:Hp} {h:Heap} {c:Addr} {qual:Str} (r:h.CodeRec (.ref c) qual):bR P w H h c (YM c qual):=by
 obtain ⟨c',o,vs,t,e,g,d⟩:=id r;cases e;exact ⟨r,⟨o,g⟩,fun h1 h2 ⟨c2,o2,vs2,t2,e2,g2,d2⟩ kp=>by cases e2;exact ⟨_,o2,vs2,t2,rfl,kp o2 g2,d2⟩⟩
theorem O4 {P:Program} {w:World} {H:Hp} {h:Heap} {f:Addr} {o:Obj} (e:h.get? f=some o):bR P w H h f (YL f o):=⟨e,⟨o,e⟩,fun h1 h2 e1 kp=>kp o e1⟩
theorem Ig {params:Arguments} {body:Expr} {scope:Scope} {pos:Pos} {c p:Addr} (BM:Bm X.mg X.base) (hcode:X.env.code = .ref c) (hcd:codeHdIn X.K c p=true) (hg:X.env.globals=mainGlobals:=by rfl) (hcl:closureFor scope X.env=pure []:=by rfl) (hdef:defaultsOf params X.env=([],[]):=by rfl):
 PE X (.Lambda params body scope pos) (Y6 p pos (X.env.qual ++ "<lambda>") params body scope ((X.mg "__name__").getD .none)):=by
 intro pins s σ H Q I h;obtain ⟨lt,q⟩:=h;have C:CodeHd s.heap c p:=codeHd_of_K I.xR hcd;have hns:s.heap.Ns mainGlobals X.mg:=I.ok.mod.glob.keeps I.bk;obtain ⟨bm,ob,b1,b2,b3,b4,b5,b6⟩:=BM;have W8:=I.bk _ _ b3;have tr:∃ps,H p=some (.dU ps):=by rcases lt with e|⟨_,e,_⟩<;>exact ⟨_,e⟩
 obtain ⟨ps0,hp0⟩:=tr;have hP0:s.heap.get? p=some (tabObj ps0):=(show bR X.prog X.w H s.heap p (.dU ps0) from I.hok p _ hp0)
 have hgP:mainGlobals≠p:=fun z=>by
  obtain ⟨o,es,ep,e,hd,_⟩:=hns;rw [z,hP0] at e;cases e;cases hd
 have hbP:bm≠p:=fun z=>by rw [z,hP0] at W8;cases W8;cases b4
 have hbG:bm≠mainGlobals:=fun z=>by
  obtain ⟨o,es,ep,e,hd,_⟩:=hns;rw [z,e] at W8;cases W8;rw [hd] at b6;cases b6
 have hb:s.heap.BuiltinsAt X.mg p:=⟨bm,ob,b1,b2,hbG,hbP,W8,b4,b5,b6⟩;refine kla_eval hdef ?_;rcases lt with hp|⟨c0,hp,hc0⟩
 ·have hP:s.heap.get? p=some (tabObj #[]):=(show bR X.prog X.w H s.heap p (.dU #[]) from I.hok p _ hp)
  refine kla_makeFunction hcl hg hns hcode C hP True.intro rfl hgP hb fun c' ctv h' tk hx hge hlt hrec htb=> ?_;have hsz:s.heap.objs.size<=h'.objs.size:=Nat.le_trans hge (Nat.le_of_lt hlt);have nc:H c'=none:=I.hok.fresh hge;have nf:H h'.objs.size=none:=I.hok.fresh hsz;have XJ:c'≠h'.objs.size:=Nat.ne_of_lt hlt;have kp:∀b u,b≠p->s.heap.get? b=some u->(h'.push (kla_obj "<lambda>" (X.env.qual ++ "<lambda>") params body scope [] ((X.mg "__name__").getD .none) c' ctv)).get? b=some u:=fun b u n e=>Heap.get?_push_of_some _ (hx b u n e);have htb':=Heap.get?_push_of_some (kla_obj "<lambda>" (X.env.qual ++ "<lambda>") params body scope [] ((X.mg "__name__").getD .none) c' ctv) htb;have hrec':=hrec.push (kla_obj "<lambda>" (X.env.qual ++ "<lambda>") params body scope [] ((X.mg "__name__").getD .none) c' ctv);have fo:(h'.push (kla_obj "<lambda>" (X.env.qual ++ "<lambda>") params body scope [] ((X.mg "__name__").getD .none) c' ctv)).get? h'.objs.size=some (kla_obj "<lambda>" (X.env.qual ++ "<lambda>") params body scope [] ((X.mg "__name__").getD .none) c' ctv):=Heap.get?_push_size _ rfl
  have I':=I.un (t':=tk) (Un.P0 (fs:=X.fs) (ex:=[]) (o1:=YM c' (X.env.qual ++ "<lambda>")) (o2:=YL h'.objs.size (kla_obj "<lambda>" (X.env.qual ++ "<lambda>") params body scope [] ((X.mg "__name__").getD .none) c' ctv)) hp kp ⟨_,htb'⟩ nc nf hge hsz)
   (j_.P0 I.hok hp kp htb' nc nf XJ (Wq hrec') (O4 fo))
  refine ⟨.ref h'.objs.size,_,I',rfl,q _ _ nf ⟨c',ctv,ak, ?_⟩ (.inr ⟨c', ?_, ?_⟩) fun b u e n=> ?_⟩
  ·rw [aN XJ,ak]
  ·have npc:p≠c':=aD hp nc
   have npf:p≠h'.objs.size:=aD hp nf;rw [aN npf,aN npc,ak];simp
  ·rw [aN XJ,ak]
  ·rw [aN (aD e nf),aN (aD e nc),aN n]
   exact e
 ·have hP:s.heap.get? p=some (tabObj #[rawInt pos.line,rawInt pos.col,.ref c0]):=(show bR X.prog X.w H s.heap p (.dU _) from I.hok p _ hp)
  refine kla_makeFunctionHit hcl hg hns hcode C hP (cv:= .ref c0) trivial (by simp [codeAmong,rawInt]) hb fun ctv h' tk hk hsz=> ?_;have nf:H h'.objs.size=none:=I.hok.fresh hsz;have fo:(h'.push (kla_obj "<lambda>" (X.env.qual ++ "<lambda>") params body scope [] ((X.mg "__name__").getD .none) c0 ctv)).get? h'.objs.size=some (kla_obj "<lambda>" (X.env.qual ++ "<lambda>") params body scope [] ((X.mg "__name__").getD .none) c0 ctv):=Heap.get?_push_size _ rfl;have I':=I.laid (t':=tk) (o:=YL h'.objs.size (kla_obj "<lambda>" (X.env.qual ++ "<lambda>") params body scope [] ((X.mg "__name__").getD .none) c0 ctv)) (fun b u e=>Heap.get?_push_of_some _ (hk b u e)) hsz (O4 fo);refine ⟨.ref h'.objs.size,_,I',rfl,q _ _ nf ⟨c0,ctv,ak, ?_⟩ (.inr ⟨c0, ?_, ?_⟩) fun b u e n=> ?_⟩
  ·rw [aN (aD hc0 nf)];exact hc0
  ·rw [aN (aD hp nf)];exact hp
  ·rw [aN (aD hc0 nf)];exact hc0
  ·rw [aN (aD e nf)];exact e
end
end L2
set_option Elab.async false
set_option linter.all false
set_option maxRecDepth 100000
set_option maxHeartbeats 1000000
namespace L2
open PySem PySem.Spec PyProof.Rows PySem.W
structure uc (P:Program) (w:World) (K:PySem.W.Frag) (mg:Str->Option Value) (base:Heap) (k:Nat) (N ps:List Str) (qual:Str) (params:Arguments) (body:Expr) (scope:Scope) (sp:List V->Hp->VK->Prop):Prop where
 sc:bh N ps scope
 bind:∀(pm ctv:Value) (c:Addr) (us:List Value),us.length=ps.length->bindArgs (kla_fn "<lambda>" qual params body scope [] pm (.ref c) ctv) ⟨us,[]⟩=pure (ps.zip us)
 len:∀vs H Q,sp vs H Q->vs.length=ps.length
 run:∀(f c:Addr) (A:Around) (outer:List Env) (s:Shared) (H:Hp) (vs:List V) (Q:VK),cU k (A.deeper (envOfC qual scope s.heap.objs.size f (.ref c)))->sp vs H Q ->
  ∃t,PE (wR jJ P w K mg base N qual scope f (.ref c) A outer s H E0).Q5 body t/\t (start N vs) H Q
theorem Dd {P:Program} {w:World} {K:PySem.W.Frag} {mg:Str->Option Value} {base:Heap} {k:Nat} {N ps:List Str} {qual:Str} {params:Arguments} {body:Expr} {scope:Scope} {sp:List V->Hp->VK->Prop} {pm:Value} {f:Addr} {A:Around} {outer:List Env} {s:Shared} {H:Hp} {us:List Value} {vs:List V} {Q:VK}
 (L:uc P w K mg base k N ps qual params body scope sp) (hr:cU (k+1) A) (e0:xM P w K mg base A outer s H) (F:xu H f qual params body scope pm) (r:Vals vs us) (hsp:sp vs H Q):
 codeAny (model P w) A (.call (.ref f) ⟨us,[]⟩) (CR jJ outer P w H s Q E0) s:=by
 obtain ⟨c,ctv,hf,hc⟩:=F;have hl:=L.len _ _ _ hsp;have S:=L.sc;have lim:s.heap.NoLimit:=e0.mod.nolimit.keeps fun b o e=>(e0.bs b o e).1;have fo:s.heap.get? f=some (kla_obj "<lambda>" qual params body scope [] pm c ctv):=(e0.hok f _ hf).1;have cd:s.heap.CodeRec (.ref c) qual:=(e0.hok c _ hc).1
 have hkind:∀y∈ps.zip us,scope.names.lookup y.1=some .local\/(scope.names.lookup y.1=some .cell/\((cellsFrom (s.heap.objs.size+1) scope.names []).lookup y.1).isSome=true):=fun ⟨n,v⟩ hy=>by
  rcases S.par n (List.of_mem_zip hy).1 with q|q
  ·exact .inl q
  ·exact .inr ⟨q,PySem.W.cellsFrom_some _ _ _ (.inl q)⟩
 refine kla_callFunE hr.depth fo rfl S.co S.gen rfl cd ?_;have hb:=L.bind pm ctv c us (by rw [←r.length];exact hl);refine wpAny_of_eq hb ?_;refine wpAny_newFunctionEnv_cells S.kind hkind fun env he s1 x=> ?_;subst he;refine ⟨lim.keeps x.toInCall.keep,kla_codeExpr ?_⟩;obtain ⟨t,ht,hq⟩:=L.run f c A outer s H vs Q (hr.deeper _) hsp;have I:Inv (wR jJ P w K mg base N qual scope f (.ref c) A outer s H E0) [] (start N vs) H s1:=uV S hr.hd e0 hl r x;refine wpAny_mono (ht [] s1 (start N vs) H _ (I.wish _) hq) (fun u s' hs=> ?_) fun e s' hs=>hs.elim;obtain ⟨v,H',J,rv,q⟩:=hs;exact ⟨v,H',J.os,J.bare,J.base,J.hok,rv,q⟩
section
variable {X:Cx} {k:Nat} {N ps:List Str} {qual:Str} {params:Arguments} {body:Expr} {scope:Scope} {sp:List V->Hp->VK->Prop} {pm:Value} {f:Addr}
theorem Mu {pins:List (Addr×Obj)} {σ:St} {H:Hp} {s:Shared} {Q:VK} {us:List Value} {vs:List V} (L:uc X.prog X.w X.K X.mg X.base k N ps qual params body scope sp) (hr:cU (k+2) X.A)
 (I:Inv X pins σ H s) (F:xu H f qual params body scope pm) (r:Vals vs us) (q:sp vs H Q):wpAny (model X.prog X.w) X.A.in1 (call (.ref f) us) (EP X pins σ Q) (fun _ _=>False) s:=by
 refine wpAny_call (codeAny_mono (Dd L (cU.in1 hr) I.env0.in1 F r q) fun res s' hq=> ?_)
 match res,hq with
 | .error ev,hq=>exact hq
 | .ok (.ret u),hq=>exact I.after hq
theorem xu.same {H H':Hp} (F:xu H f qual params body scope pm) (s:Same H H'):xu H' f qual params body scope pm:=by
 obtain ⟨c,ctv,a,b⟩:=F;exact ⟨c,ctv,s _ _ a,s _ _ b⟩
end
theorem lex_asymm:∀{a b:List Int},HT.lexLt a b=true->HT.lexLt b a=false
 | [],[],_=>rfl
 | [],_::_,_=>rfl
 | _::_,[],h=>by cases h
 | x::xs,y::ys,h=>by
   rw [HT.jh] at h ⊢
   by_cases e:x=y
   ·subst e
    rw [if_pos rfl] at h ⊢;exact lex_asymm h
   ·rw [if_neg e] at h
    rw [if_neg (Ne.symm e)];have:=of_decide_eq_true h;exact decide_eq_false (by omega)
theorem CW:∀{a b c:List Int},HT.lexLt a b=true->HT.lexLt c b=false->HT.lexLt a c=true
 | [],[],_,h,_=>by cases h
 | [],_::_,[],_,h=>by cases h
 | [],_::_,_::_,_,_=>rfl
 | _::_,[],_,h,_=>by cases h
 | _::_,_::_,[],_,h=>by cases h
 | x::xs,y::ys,z::zs,h,g=>by
   rw [HT.jh] at h g ⊢
   by_cases e:x=y
   ·subst e
    rw [if_pos rfl] at h
    by_cases e2:z=x
    ·subst e2
     rw [if_pos rfl] at g ⊢;exact CW h g
    ·rw [if_neg e2] at g
     rw [if_neg (Ne.symm e2)];have:=of_decide_eq_false g;exact decide_eq_true (by omega)
   ·rw [if_neg e] at h
    have h1:=of_decide_eq_true h
    by_cases e2:z=y
    ·subst e2
     rw [if_neg e];exact h
    ·rw [if_neg e2] at g
     have:=of_decide_eq_false g;rw [if_neg (by omega)];exact decide_eq_true (by omega)
def cN (kf:Nat->List Int) (n i:Nat):Prop:=∀j,j<n->HT.lexLt (kf j) (kf i)=false/\(j<i->HT.lexLt (kf i) (kf j)=true)
theorem lex_irrefl (a:List Int):HT.lexLt a a=false:=by
 cases h:HT.lexLt a a with
 | false=>rfl
 | true=>exact absurd h (by rw [lex_asymm h];decide)
theorem cN.one {kf:Nat->List Int}:cN kf 1 0:=fun j hj=>by
 obtain rfl:j=0:=by omega
 exact ⟨lex_irrefl _,fun z=>absurd z (Nat.lt_irrefl _)⟩
theorem cN.more {kf:Nat->List Int} {n i:Nat} (h:cN kf n i) (hi:i<n) (b:HT.lexLt (kf n) (kf i)=true):cN kf (n+1) n:=fun j hj=>by
 by_cases e:j=n
 ·subst e
  exact ⟨lex_irrefl _,fun z=>absurd z (Nat.lt_irrefl _)⟩
 ·have h1:=(h j (by omega)).1
  have h2:=CW b h1;exact ⟨lex_asymm h2,fun _=>h2⟩
theorem cN.less {kf:Nat->List Int} {n i:Nat} (h:cN kf n i) (hi:i<n) (b:HT.lexLt (kf n) (kf i)=false):cN kf (n+1) i:=fun j hj=>by
 by_cases e:j=n
 ·subst e
  exact ⟨b,fun z=>by omega⟩
 ·exact h j (by omega)
section
variable {X:Cx} {pins:List (Addr×Obj)} {σ:St} {H:Hp} {q l I S:Addr} {xs:List V}
theorem yj {H':Hp} (h:aV X.K H l xs) (sm:Same H H'):aV X.K H' l xs:=by
 rcases h with (h|⟨o,h⟩)|h
 ·exact .inl (.inl (sm _ _ h))
 ·exact .inl (.inr ⟨o,sm _ _ h⟩)
 ·exact .inr h
theorem dO.of {b:Addr} {H':Hp} (h:dO X pins H b) (n:H' b=none):dO X pins H' b:=⟨n,h.2⟩
theorem ints_of {H1:Hp} {s:Shared} {t:Addr} {ns:List Int} (J:Inv X pins σ H1 s) (h:H1 t=some (.tup (ns.map V.int))):∃its:List Value,IsTup s.heap t its.toArray/\IntsAre its.toArray.toList ns:=by
 obtain ⟨its,r,p,_⟩:=J.tuple (bZ.of h);exact ⟨its,p,intsAre_of r⟩
theorem Fj {R:Result->Shared->Prop} (kf:Nat->List Int) (hh:X.A.handled=none) (hu:X.A.in1.units<cLine) (hl:aV X.K H l xs) (hlI:l≠I) (hSI:S≠I)
 (turn:∀(gA:List (Addr×Obj)) (i:Nat) (v:V) (u:Value) (H1:Hp) (s1:Shared),xs[i]? = some v->Inv X gA σ H1 s1->RelV v u->Same H H1 ->
   wpAny (model X.prog X.w) X.A.in1 (call (.ref q) [u]) (EP X gA σ fun r H2=>∃t,r = .ref t/\H2 t=some (.tup ((kf i).map V.int))/\Same H1 H2) (fun _ _=>False) s1)
 (hR:∀(i:Nat) (v:V) (u:Value) (H1:Hp) (s1:Shared),xs[i]? = some v->RelV v u->cN kf xs.length i->Inv X pins σ H1 s1->Same H H1->R (.ok (.ret u)) s1):
 ∀(r j i:Nat) (H1:Hp) (s1:Shared) (vb:V) (ub:Value) (kb:Addr) (c:Nat),xs.length - (j+1)=r->j+1<=xs.length->Inv X pins σ H1 s1->Same H H1->dO X pins H1 I->dO X pins H1 S ->
  s1.heap.get? S=some (seqObj "list" #[ub,.ref kb] c)->H1 kb=some (.tup ((kf i).map V.int))->s1.heap.IsListIter I l (j+1)->xs[i]? = some vb->RelV vb ub->i<=j->cN kf (j+1) i ->
  codeAny (model X.prog X.w) X.A (.builtin "min.loop" ⟨[.ref I,.ref q,.ref S],[]⟩) R s1:=by
 have hname:(toString "min" ++ toString ".loop" :String) = "min.loop" :=by decide
 intro r
 induction r with
 | zero=>
   intro j i H1 s1 vb ub kb c hr hj J sm fI fS gS hkb hit hvb ZJ hij hbest;have hin:j+1=xs.length:=by omega
   obtain ⟨its,rv,pl,_⟩:=J.list (yj hl sm);have hlen:its.length=xs.length:=rv.length.symm;have W:=Walks.list (prog:=X.prog) (w:=X.w) (A:=X.A.in1) hh I l hlI its.toArray;have hsz:its.toArray.size=its.length:=List.size_toArray ..;refine codeAny_builtin PySem.F.entry_min_loop ?_;rw [Around.under_plainId PySem.F.plain_min_loop _];show wpAny _ X.A.in1 (seqItems? (.ref S) >>= _) _ _ _;refine wpAny_bind (wpAny_seqItems gS rfl ?_);show wpAny _ X.A.in1 (tryCatch (pyNext (.ref I)) _ >>= _) _ _ _;refine wpAny_bind (wpAny_tryCatch (W.done _ _ _ ⟨by rw [hsz,hlen,←hin];exact hit,pl.isList⟩ fun h' tk' hk'=> ?_));have J1:Inv X pins σ H1 {s1 with heap:=h',toks:=tk'}:=J.turned (fun b o nb e=>hk' b o (by simpa using nb) e) fI.1 fI.2.1 fI.2.2.2.1 fI.2.2.2.2.1 fI.2.2.2.2.2;have V0:=hk' S _ (by simpa using hSI) gS;show wpAny _ X.A.in1 (updateSeq S (fun _=> #[]) >>= _) _ _ _;refine wpAny_bind ?_;refine wpAny_updateSeq V0 rfl (wpAny_bind (wpAny_letGo (wpAny_pure ?_)));refine hR i vb ub H1 _ hvb ZJ (hin▸hbest) ?_ sm;exact J1.turned (t':=tk') (fun b o nb e=>(Heap.get?_update_other _ _ (Ne.symm nb)).trans e) fS.1 fS.2.1 fS.2.2.2.1 fS.2.2.2.2.1 fS.2.2.2.2.2
 | succ r ih=>
   intro j i H1 s1 vb ub kb c hr hj J sm fI fS gS hkb hit hvb ZJ hij hbest;have hlt:j+1<xs.length:=by omega
   obtain ⟨its,rv,pl,_⟩:=J.list (yj hl sm);have hlen:its.length=xs.length:=rv.length.symm;have W:=Walks.list (prog:=X.prog) (w:=X.w) (A:=X.A.in1) hh I l hlI its.toArray;have hsz:its.toArray.size=its.length:=List.size_toArray ..;refine codeAny_builtin PySem.F.entry_min_loop ?_;rw [Around.under_plainId PySem.F.plain_min_loop _];show wpAny _ X.A.in1 (seqItems? (.ref S) >>= _) _ _ _;refine wpAny_bind (wpAny_seqItems gS rfl ?_);show wpAny _ X.A.in1 (tryCatch (pyNext (.ref I)) _ >>= _) _ _ _;refine wpAny_bind (wpAny_tryCatch (W.item (j+1) _ _ _ (by rw [hsz,hlen];exact hlt) ⟨hit,pl.isList⟩ fun u h' tk' hP hst' hk'=> ?_));have hu':its[j+1]? = some u:=by simpa using hP
   obtain ⟨v,hv,Eo⟩:∃v,xs[j+1]? = some v/\RelV v u:=by
    obtain ⟨u',e1,e2⟩:=rv.get (i:=j+1) (x:=xs[j+1]'hlt) (by simp [hlt]);rw [hu'] at e1;cases e1;exact ⟨_,by simp [hlt],e2⟩
   obtain ⟨oI',hoI',hoc,hod⟩:=id hst'.1;have J1:Inv X pins σ H1 {s1 with heap:=h',toks:=tk'}:=J.turned (fun b o nb e=>hk' b o (by simpa using nb) e) fI.1 fI.2.1 fI.2.2.2.1 fI.2.2.2.2.1 fI.2.2.2.2.2;have V0:=hk' S _ (by simpa using hSI) gS
   have J2:Inv X (pins++[(I,oI'),(S,seqObj "list" #[ub,.ref kb] c)]) σ H1 {s1 with heap:=h',toks:=tk'}:=J1.nJ fun p hp=>by
    rcases List.mem_append.mp hp with hp|hp
    ·exact J1.pin p (List.mem_append_right _ hp)
    ·rcases List.mem_cons.mp hp with rfl|hp
     ·exact ⟨hoI',fI.1,fI.2.1,fI.2.2.1,fun v z=>by rw [hod] at z;cases z⟩
     ·rw [List.mem_singleton.mp hp]
      exact ⟨V0,fS.1,fS.2.1,fS.2.2.1,fun v z=>by cases z⟩
   show wpAny _ X.A.in1 (tryCatch (holding [u] (call (.ref q) [u])) _ >>= _) _ _ _;refine wpAny_bind (wpAny_tryCatch (wpAny_holding (wpAny_mono (turn _ (j+1) v u H1 _ hv J2 Eo sm) (fun x s'' he=> ?_) fun _ _ hF=>hF.elim)));obtain ⟨rr,H2,J3,rx,t,rfl,ht,s2⟩:=he;obtain rfl:x=Value.ref t:=rx;have pI:=J3.pin (I,oI') (List.mem_append_right _ (List.mem_append_right _ (.head _)));have pS:=J3.pin (S,seqObj "list" #[ub,.ref kb] c) (List.mem_append_right _ (List.mem_append_right _ (.tail _ (.head _))));have J4:Inv X pins σ H2 s'':=J3.je;have Yg:dO X pins H2 I:=fI.of pI.2.1;have Dz:dO X pins H2 S:=fS.of pS.2.1;have VJ:=s2 _ _ hkb;obtain ⟨is1,p1,i1⟩:=ints_of J4 ht;obtain ⟨is2,p2,i2⟩:=ints_of J4 VJ;show wpAny _ X.A.in1 (tryCatch (holding [u,.ref t] (richCompare .Lt (.ref t) (.ref kb) >>= _)) _ >>= _) _ _ _;refine wpAny_bind (wpAny_tryCatch (wpAny_holding (wpAny_bind (HT.A_ p1 p2 i1 i2 hu ?_))));refine wpAny_bind (wpAny_holding (wpAny_truthy_bool ?_));refine wpAny_bind (wpAny_letGo (wpAny_pure ?_));cases hb':HT.lexLt (kf (j+1)) (kf i) with
   | true=>
     obtain ⟨c2,hc2⟩:∃c2,(s''.heap.update S (Obj.mapSeq fun _=> #[u,.ref t])).get? S=some (seqObj "list" #[u,.ref t] c2):=⟨_,get?_update_seq pS.1 fun _=> #[u,.ref t]⟩;simp only [if_true];refine wpAny_bind ?_;refine wpAny_updateSeq pS.1 rfl (wpAny_bind (wpAny_letGo ?_));rw [hname];have J5:Inv X pins σ H2 {s'' with heap:=s''.heap.update S (Obj.mapSeq fun _=> #[u,.ref t])}:=J4.turned (t':=s''.toks) (fun b o nb e=>(Heap.get?_update_other _ _ (Ne.symm nb)).trans e) Dz.1 Dz.2.1 Dz.2.2.2.1 Dz.2.2.2.2.1 Dz.2.2.2.2.2;exact wpAny_pure ⟨plainId_quiet PySem.F.plain_min_loop _,ih (j+1) (j+1) H2 _ v u t c2 (by omega) hlt J5 (sm.trans s2) Yg Dz hc2 ht ⟨oI',(Heap.get?_update_other _ _ hSI).trans pI.1,hoc,hod⟩ hv Eo (Nat.le_refl _) (hbest.more (by omega) hb')⟩
   | false=>
     simp only [Bool.false_eq_true,if_false];refine wpAny_bind (wpAny_letGo ?_);rw [hname];exact wpAny_pure ⟨plainId_quiet PySem.F.plain_min_loop _,ih (j+1) i H2 _ vb ub kb c (by omega) hlt J4 (sm.trans s2) Yg Dz pS.1 VJ ⟨oI',pI.1,hoc,hod⟩ hvb ZJ (by omega) (hbest.less (by omega) hb')⟩
theorem Fl {s:Shared} {Q:Value->Shared->Prop} (kf:Nat->List Int) (hh:X.A.handled=none) (hu:X.A.in1.units<cLine) (J:Inv X pins σ H s) (hl:aV X.K H l xs) (hne:0<xs.length)
 (turn:∀(gA:List (Addr×Obj)) (i:Nat) (v:V) (u:Value) (H1:Hp) (s1:Shared),xs[i]? = some v->Inv X gA σ H1 s1->RelV v u->Same H H1 ->
   wpAny (model X.prog X.w) X.A.in1 (call (.ref q) [u]) (EP X gA σ fun r H2=>∃t,r = .ref t/\H2 t=some (.tup ((kf i).map V.int))/\Same H1 H2) (fun _ _=>False) s1)
 (hQ:∀(i:Nat) (v:V) (u:Value) (H1:Hp) (s1:Shared),xs[i]? = some v->RelV v u->cN kf xs.length i->Inv X pins σ H1 s1->Same H H1->Q u s1):
 wpAny (model X.prog X.w) X.A (call (.builtin "min") [.ref l] [(Str.ofString "key",.ref q)]) Q X.xe s:=by
 have hname:(toString "min" ++ toString ".loop" :String) = "min.loop" :=by decide
 obtain ⟨its,rv,pl,_⟩:=J.list hl;have hlen:its.length=xs.length:=rv.length.symm;have hls:=pl.isList;obtain ⟨ol,hol,_⟩:=id hls;have hll:l<s.heap.objs.size:=Heap.lt_size hol;refine kmk_tree PySem.F.kind_min PySem.F.plain_min PySem.F.entry_min (kmk_min_key _ _) ?_;show wpAny _ X.A.in1 (Builtin.Builtins.bindParams "min" ["key","default"] 0 ⟨[],[(Str.ofString "key",.ref q)]⟩ >>= _) _ _ s;refine wpAny_bind (wpAny_of_eq (show Builtin.Builtins.bindParams "min" ["key","default"] 0 ⟨[],[(Str.ofString "key",.ref q)]⟩=pure [some (.ref q),none] from rfl) ?_);refine wpAny_bind (wpAny_pure ?_);refine wpAny_bind (wpAny_pyIter_list hls ?_);refine wpAny_bind (wpAny_newList ?_ (Nat.zero_le _));rw [hname];have hS:(s.heap.push {cls:= .type "list_iterator",data:= .fields #[.ref l,.int 0 0]}).objs.size=s.heap.objs.size+1:=size_push' ..;have hlI:l≠s.heap.objs.size:=Nat.ne_of_lt hll;have hSI:(s.heap.push {cls:= .type "list_iterator",data:= .fields #[.ref l,.int 0 0]}).objs.size≠s.heap.objs.size:=by rw [hS];exact Nat.ne_of_gt (Nat.lt_succ_self _)
 refine wpAny_pure ⟨plainId_quiet PySem.F.plain_min_loop _, ?_⟩;have fI:dO X pins H s.heap.objs.size:=J.pC (Nat.le_refl _) (J.hok.fresh (Nat.le_refl _));have fS:dO X pins H (s.heap.push {cls:= .type "list_iterator",data:= .fields #[.ref l,.int 0 0]}).objs.size:=J.pC (by rw [hS];exact Nat.le_succ _) (J.hok.fresh (by rw [hS];exact Nat.le_succ _))
 have gI:((s.heap.push {cls:= .type "list_iterator",data:= .fields #[.ref l,.int 0 0]}).push (seqObj "list" #[] 0)).get? s.heap.objs.size=some {cls:= .type "list_iterator",data:= .fields #[.ref l,.int 0 0]}:=
  Heap.get?_push_of_some _ (Heap.get?_push_size _ rfl)
 have gS:((s.heap.push {cls:= .type "list_iterator",data:= .fields #[.ref l,.int 0 0]}).push (seqObj "list" #[] 0)).get? (s.heap.push {cls:= .type "list_iterator",data:= .fields #[.ref l,.int 0 0]}).objs.size=some (seqObj "list" #[] 0):=Heap.get?_push_size _ rfl;have J0:Inv X pins σ H {s with heap:=(s.heap.push {cls:= .type "list_iterator",data:= .fields #[.ref l,.int 0 0]}).push (seqObj "list" #[] 0)}:=J.kept (t':=s.toks) fun b u e=>Heap.get?_push_of_some _ (Heap.get?_push_of_some _ e);obtain ⟨Jz,rv0,pl0,_⟩:=J0.list hl;have VH:Jz.length=xs.length:=rv0.length.symm;have W:=Walks.list (prog:=X.prog) (w:=X.w) (A:=X.A.in1) hh s.heap.objs.size l hlI Jz.toArray;have hsz:Jz.toArray.size=Jz.length:=List.size_toArray ..;refine codeAny_builtin PySem.F.entry_min_loop ?_;rw [Around.under_plainId PySem.F.plain_min_loop _];show wpAny _ X.A.in1 (seqItems? (.ref _) >>= _) _ _ _;refine wpAny_bind (wpAny_seqItems gS rfl ?_);show wpAny _ X.A.in1 (tryCatch (pyNext (.ref s.heap.objs.size)) _ >>= _) _ _ _;refine wpAny_bind (wpAny_tryCatch (W.item 0 _ _ _ (by rw [hsz,VH];exact hne) ⟨⟨_,gI,rfl,rfl⟩,pl0.isList⟩ fun u h' tk' hP hst' hk'=> ?_));have hu':Jz[0]? = some u:=by simpa using hP
 obtain ⟨v,hv,Eo⟩:∃v,xs[0]? = some v/\RelV v u:=by
  obtain ⟨u',e1,e2⟩:=rv0.get (i:=0) (x:=xs[0]'hne) (by simp [hne]);rw [hu'] at e1;cases e1;exact ⟨_,by simp [hne],e2⟩
 obtain ⟨oI',hoI',hoc,hod⟩:=id hst'.1;have J1:Inv X pins σ H {s with heap:=h',toks:=tk'}:=J0.turned (fun b o nb e=>hk' b o (by simpa using nb) e) fI.1 fI.2.1 fI.2.2.2.1 fI.2.2.2.2.1 fI.2.2.2.2.2;have V0:=hk' _ _ (by simpa using hSI) gS;generalize (s.heap.push {cls:= .type "list_iterator",data:= .fields #[.ref l,.int 0 0]}).objs.size=S at *;generalize s.heap.objs.size=I at *
 have J2:Inv X (pins++[(I,oI'),(S,seqObj "list" #[] 0)]) σ H {s with heap:=h',toks:=tk'}:=J1.nJ fun p hp=>by
  rcases List.mem_append.mp hp with hp|hp
  ·exact J1.pin p (List.mem_append_right _ hp)
  ·rcases List.mem_cons.mp hp with rfl|hp
   ·exact ⟨hoI',fI.1,fI.2.1,fI.2.2.1,fun v z=>by rw [hod] at z;cases z⟩
   ·rw [List.mem_singleton.mp hp]
    exact ⟨V0,fS.1,fS.2.1,fS.2.2.1,fun v z=>by cases z⟩
 show wpAny _ X.A.in1 (tryCatch (holding [u] (call (.ref q) [u])) _ >>= _) _ _ _;refine wpAny_bind (wpAny_tryCatch (wpAny_holding (wpAny_mono (turn _ 0 v u H _ hv J2 Eo (Same.refl _)) (fun x s'' he=> ?_) fun _ _ hF=>hF.elim)));obtain ⟨rr,H2,J3,rx,t,rfl,ht,s2⟩:=he;obtain rfl:x=Value.ref t:=rx;have pI:=J3.pin (I,oI') (List.mem_append_right _ (List.mem_append_right _ (.head _)));have pS:=J3.pin (S,seqObj "list" #[] 0) (List.mem_append_right _ (List.mem_append_right _ (.tail _ (.head _))));have J4:Inv X pins σ H2 s'':=J3.je;have Yg:dO X pins H2 I:=fI.of pI.2.1;have Dz:dO X pins H2 S:=fS.of pS.2.1;obtain ⟨c2,hc2⟩:∃c2,(s''.heap.update S (Obj.mapSeq fun _=> #[u,.ref t])).get? S=some (seqObj "list" #[u,.ref t] c2):=⟨_,get?_update_seq pS.1 fun _=> #[u,.ref t]⟩;show wpAny _ X.A.in1 (updateSeq S (fun _=> #[u,.ref t]) >>= _) _ _ _;refine wpAny_bind ?_;refine wpAny_updateSeq pS.1 rfl ?_;rw [hname];have J5:Inv X pins σ H2 {s'' with heap:=s''.heap.update S (Obj.mapSeq fun _=> #[u,.ref t])}:=J4.turned (t':=s''.toks) (fun b o nb e=>(Heap.get?_update_other _ _ (Ne.symm nb)).trans e) Dz.1 Dz.2.1 Dz.2.2.2.1 Dz.2.2.2.2.1 Dz.2.2.2.2.2;exact wpAny_pure ⟨plainId_quiet PySem.F.plain_min_loop _,Fj (R:=fun r s'=>match r with | .ok (.ret v)=>Q v s' | .ok _=>False | .error e=>X.xe e s') kf hh hu hl hlI hSI turn hQ _ 0 0 H2 _ v u t c2 rfl hne J5 s2 Yg Dz hc2 ht ⟨oI',(Heap.get?_update_other _ _ hSI).trans pI.1,hoc,hod⟩ hv Eo (Nat.le_refl _) cN.one⟩
end
def T7 (K:PySem.W.Frag) (qual:Str) (params:Arguments) (body:Expr) (scope:Scope) (pm:Value) (sp:List V->Hp->VK->Prop) (ta:TA) (tk:TE):TE:=fun σ H Q=>ta σ H fun vs H1=>tk σ H1 fun kv H2=>∃(l q:Addr) (xs:List V) (kf:Nat->List Int),vs=[.ref l]/\kv = .ref q/\xu H2 q qual params body scope pm/\aV K H2 l xs/\0<xs.length /\
 (∀(i:Nat) (v:V) (H3:Hp),xs[i]? = some v->Same H2 H3->sp [v] H3 fun r H4=>∃t,r = .ref t/\H4 t=some (.tup ((kf i).map V.int))/\Same H3 H4) /\
 ∀(i:Nat) (v:V) (H3:Hp),xs[i]? = some v->cN kf xs.length i->Same H2 H3->Q v H3
section
variable {X:Cx} {a:Expr} {ta:TA} {tk:TE} {p pos kp Jh:Pos} {k:Nat} {N ps:List Str} {qual:Str} {params:Arguments} {body:Expr} {scope:Scope} {sp:List V->Hp->VK->Prop} {pm:Value}
theorem LC (L:uc X.prog X.w X.K X.mg X.base k N ps qual params body scope sp) (hr:cU (k+2) X.A) (hg:Gl X "min") (hm:X.mg "min" = none) (hv:bootBuiltins "min" = some (.builtin "min")) (ha:PA X [a] ta) (hd:PE X (.Lambda params body scope Jh) tk)
 (he:backTo pos (starEach [a] X.env)=(false,eval a X.env)::backTo pos (starEach [] X.env):=by rfl)
 (hplain:(backTo pos (starEach [a] X.env)).any (·.1)=false:=by rfl):
 PE X (.Call (.Name "min" p) [a] [⟨some "key",.Lambda params body scope Jh,kp⟩] pos) (T7 X.K qual params body scope pm sp ta tk):=by
 intro pins s σ H Q I h;refine wpAny_Call_Name_kw (lu I hg hm hv ?_ (by decide) (by decide));refine PyProof.Rows.callWith_kw (cR (ha pos pins s σ H _ I h) fun us s1 ⟨vs,H1,I1,r1,q1⟩=> ?_) he hplain;refine PyProof.Rows.kws_cons (cR (hd pins s1 σ H1 _ I1 q1) fun dv s2 ⟨x,H2,I2,r2,q2⟩=>PyProof.Rows.kws_nil ?_);obtain ⟨l,q,xs,kf,rfl,rfl,F,hq,hne,hsp,qq⟩:=q2;obtain ⟨u,rfl,rx⟩:=vals1 r1;cases rx;cases r2;show wpAny (model X.prog X.w) X.A (call (.builtin "min") [.ref l] [(Str.ofString "key",Value.ref q)]) _ _ s2;refine Fl kf hr.hd (cU.Pz (cU.in1 hr)) I2 hq hne (fun gA i v u H3 s3 e J Eo sm=> ?_) fun i v u H3 s3 e Eo fm J sm=>⟨v,H3,J,Eo,qq i v H3 e fm sm⟩;exact Mu L hr J (F.same sm) (.cons Eo .nil) (hsp i v H3 e sm)
end
end L2
set_option Elab.async false
set_option linter.all false
set_option maxRecDepth 100000
set_option maxHeartbeats 1000000
namespace L2
open PySem PySem.Spec PyProof.Rows PySem.W
structure BP (K:PySem.W.Frag) (x qual:Str) (st:Stmt) (p:Addr) (f:Addr) (fd:FuncData):Prop where
 ex:∃(oc:Value) (od:Option Addr) (kV doc pm:Value) (an:Option Addr) (c:Addr) (ct:Value) (osl:Array (Option Value)),
  fd=PySem.W.fnOf x qual (aH st) (aF st) (ao st) .none kV doc pm an (.ref c) ct/\K.lookup f=some ⟨oc,od,.func fd,osl⟩/\PySem.W.codeIn K (.ref c) qual=true/\codeHdIn K c p=true
 kp:PySem.W.keepIn K (.ref f)=true
section
variable {P:Program} {w:World} {K:PySem.W.Frag} {mg:Str->Option Value} {base:Heap}
theorem BP.fun {x qual:Str} {st:Stmt} {p f:Addr} {fd:FuncData} (F:BP K x qual st p f fd):lW K x qual st f fd:=by
 obtain ⟨oc,od,kV,doc,pm,an,c,ct,osl,e,l,cd,_⟩:=F.ex;exact ⟨⟨oc,od,kV,doc,pm,an,.ref c,ct,osl,e,l,cd⟩,F.kp⟩
theorem BP.ok {x qual:Str} {st:Stmt} {p f:Addr} {fd:FuncData} {N ps:List Str} {k:Nat} {sp:Sp} (F:BP K x qual st p f fd) (S:bh N ps (ao st)) (len:∀vs H Q E,sp vs H Q E->vs.length=ps.length)
 (hbody:∀(c:Addr) (A:Around) (outer:List Env) (s:Shared) (H:Hp) (vs:List V) (Q:VK) (E:XK),codeHdIn K c p=true->cU k (A.deeper (envOfC qual (ao st) s.heap.objs.size f (.ref c)))->sp vs H Q E ->
   ∃t,DX (wR jJ P w K mg base N qual (ao st) f (.ref c) A outer s H E).Q5 (aF st) t/\t {nx:=fun _ H'=>Q .non H',rt:=Q} (start N vs) H):cT P w K mg base jJ (k+1) f fd ps sp:=by
 obtain ⟨oc,od,kV,doc,pm,an,c,ct,osl,rfl,lk,hcd,hh⟩:=F.ex;refine O5 lk hcd S len fun A outer s H vs Q E hr hsp=> ?_;obtain ⟨t,h,q⟩:=hbody c A outer s H vs Q E hh hr hsp;exact ⟨t,h.Q5,q⟩
theorem Dr {x qual:Str} {st:Stmt} {p f c:Addr} {oc:Value} {od an:Option Addr} {osl:Array (Option Value)} {kV doc pm ct:Value} (l:K.lookup f=some ⟨oc,od,.func (PySem.W.fnOf x qual (aH st) (aF st) (ao st) .none kV doc pm an (.ref c) ct),osl⟩)
 (cd:PySem.W.codeIn K (.ref c) qual=true) (k:PySem.W.keepIn K (.ref f)=true) (h:codeHdIn K c p=true):BP K x qual st p f (PySem.W.fnOf x qual (aH st) (aF st) (ao st) .none kV doc pm an (.ref c) ct):=⟨⟨oc,od,kV,doc,pm,an,c,ct,osl,rfl,l,cd,h⟩,k⟩
end
end L2
set_option Elab.async false
set_option linter.all false
set_option maxRecDepth 100000
set_option maxHeartbeats 1000000
namespace L2
open PySem PySem.Spec PyProof.Rows PySem.W
section
variable {X:Cx} {pins:List (Addr×Obj)} {σ:St} {H:Hp} {q l:Addr} {xs:List V}
theorem Inv.TQ {s:Shared} {D:Addr} {zs:List V} {out:List Value} {c:Nat} (I:Inv X pins σ H s) (f:dO X pins H D) (e:s.heap.get? D=some (seqObj "list" out.toArray c)) (hz:zs.length<=sizeLine) (rv:Vals zs out):Inv X pins σ (upd H D (.lst zs)) s:=by
 have Q9:∀b u,H b=some u->b≠D:=fun b u e z=>by rw [z,f.1] at e;cases e
 have at_:∀b u,H b=some u->upd H D (.lst zs) b=some u:=fun b u e=>by rw [aN (Q9 b u e)];exact e
 refine I.step (g':=s.gens) (d':=s.drawn) (t':=s.toks) (h':=s.heap) (ch:=[D]) (fun b hb=> ?_) (fun b o _ _ _ e _=>e) (fun b o _ _ _ e _=>⟨o.slots,e⟩) (fun b o hc _ n=> ?_)
  (fun b o _ e=>⟨o,e⟩) (fun b u e=>at_ b _ e) (fun b o u e=>at_ b _ e) (fun b ps e=>⟨#[],by rw [at_ b _ e];simp⟩) (fun m hm=>hm) (fun b u e'=> ?_) I.bare
 ·have e:b=D:=by simpa using hb
  subst e;exact ⟨f.2.2.2.1,f.2.1,f.2.2.2.2.1,f.2.2.2.2.2⟩
 ·rw [aN (fun z=>hc (by simp [z]))];exact n
 ·by_cases hb:b=D
  ·subst hb
   rw [ak] at e';cases e';exact ⟨hz,out,c,rv,e⟩
  ·rw [aN hb] at e'
   exact (I.hok b u e').stay (fun c v _ q=>q) (fun d r=>at_ d _ r) fun d xs r=>at_ d _ r
theorem Ib {α β:Type} {g:α->β} {l:List α} {out:List β} (h:out.Perm (l.map g)):∃m:List α,m.Perm l/\out=m.map g:=by
 generalize e:l.map g=k at h
 induction h generalizing l with
 | nil=>exact ⟨[],by rw [List.map_eq_nil_iff.mp e],rfl⟩
 | @cons x a b p ih=>
   cases l with
   | nil=>cases e
   | cons y l=>
     rw [List.map_cons] at e;injection e with e1 e2
     obtain ⟨m,h1,h2⟩:=ih e2;exact ⟨y::m,h1.cons y,by rw [List.map_cons,e1,h2]⟩
 | swap x y a=>
   match l,e with
   | u::v::l,e=>
     rw [List.map_cons,List.map_cons] at e;injection e with e1 e2
     injection e2 with e2 e3
     exact ⟨v::u::l,.swap u v l,by rw [List.map_cons,List.map_cons,e1,e2,e3]⟩
 | trans p1 p2 ih1 ih2=>
   obtain ⟨m,h1,h2⟩:=ih2 e;obtain ⟨m',h3,h4⟩:=ih1 h2.symm;exact ⟨m',h3.trans h1,h4⟩
structure Sw (X:Cx) (pins:List (Addr×Obj)) (σ:St) (H:Hp) (D kS:Addr) (e1:Nat) (kf:Nat->List Int) (i:Nat) (s:Shared):Prop where
 ex:∃(H':Hp) (ks:List Addr) (e:Nat),Inv X pins σ H' s/\Same H H'/\dO X pins H' D/\dO X pins H' kS/\s.heap.get? kS=some (seqObj "list" (ks.map Value.ref).toArray e)/\s.heap.get? D=some (seqObj "list" #[] e1)/\ks.length=i /\ ∀(j:Nat) t,ks[j]? = some t->H' t=some (.tup ((kf j).map V.int))
theorem Jv {s:Shared} {D kS:Addr} {e1:Nat} {its:List Value} {Q:PUnit->Shared->Prop} {E:Value->Shared->Prop} (kf:Nat->List Int) (Te:kS≠D) (rv:Vals xs its) (hz:xs.length<sizeLine)
 (K0:Sw X pins σ H D kS e1 kf 0 s)
 (turn:∀(gA:List (Addr×Obj)) (i:Nat) (v:V) (u:Value) (H1:Hp) (s1:Shared),xs[i]? = some v->Inv X gA σ H1 s1->RelV v u->Same H H1 ->
   wpAny (model X.prog X.w) X.A.in1.in1 (call (.ref q) [u]) (EP X gA σ fun r H2=>∃t,r = .ref t/\H2 t=some (.tup ((kf i).map V.int))/\Same H1 H2) (fun _ _=>False) s1)
 {body:Value->PUnit->Sem (ForInStep PUnit)} (hb:∀x,body x ⟨⟩=(do
   match ←(call (.ref q) [x]).attempt with
   | .ok k=>do Builtin.List.listUpdate (.ref kS) (·.push k);pure (.yield ⟨⟩)
   | .error e=>do
     rule "list.sort.key-raised"
     let made ←Builtin.List.listItems (.ref kS)
     Builtin.List.listUpdate (.ref kS) fun _=> #[]
     letGo made.toList.reverse [e]
     Builtin.List.listUpdate (.ref D) fun _=>its.toArray
     throw e))
 (done:∀s',Sw X pins σ H D kS e1 kf its.length s'->Q ⟨⟩ s'):wpAny (model X.prog X.w) X.A.in1.in1 (forIn its PUnit.unit body) Q E s:=by
 refine ksk_fold (fun i s'=>Sw X pins σ H D kS e1 kf i s') its 0 s K0 ?_ (fun s' h=>done s' (by simpa using h));rintro j u s' hu ⟨H',ks,e,J,sm,fD,fK,gK,gD,kl,kt⟩;simp only [Nat.zero_add] at kl ⊢;have hj:j<its.length:=(List.getElem?_eq_some_iff.mp hu).1;have hlen:its.length=xs.length:=rv.length.symm
 obtain ⟨v,hv,Eo⟩:∃v,xs[j]? = some v/\RelV v u:=by
  obtain ⟨u',e1,e2⟩:=rv.get (i:=j) (x:=xs[j]'(by omega)) (by simp [show j<xs.length by omega]);rw [hu] at e1;cases e1;exact ⟨_,by simp [show j<xs.length by omega],e2⟩
 have J2:Inv X (pins++[(D,seqObj "list" #[] e1),(kS,seqObj "list" (ks.map Value.ref).toArray e)]) σ H' s':=J.nJ fun p hp=>by
  rcases List.mem_append.mp hp with hp|hp
  ·exact J.pin p (List.mem_append_right _ hp)
  ·rcases List.mem_cons.mp hp with rfl|hp
   ·exact ⟨gD,fD.1,fD.2.1,fD.2.2.1,fun v z=>by cases z⟩
   ·rw [List.mem_singleton.mp hp]
    exact ⟨gK,fK.1,fK.2.1,fK.2.2.1,fun v z=>by cases z⟩
 rw [hb];refine wpAny_bind (wpAny_attempt (wpAny_mono (turn _ j v u H' _ hv J2 Eo sm) (fun x s'' he=> ?_) fun _ _ hF=>hF.elim));obtain ⟨rr,H2,J3,rx,t,rfl,ht,s2⟩:=he;obtain rfl:x=Value.ref t:=rx;have pD:=J3.pin (D,seqObj "list" #[] e1) (List.mem_append_right _ (List.mem_append_right _ (.head _)));have pK:=J3.pin (kS,seqObj "list" (ks.map Value.ref).toArray e) (List.mem_append_right _ (List.mem_append_right _ (.tail _ (.head _))));have J4:Inv X pins σ H2 s'':=J3.je;have fD2:dO X pins H2 D:=fD.of pD.2.1;have Tf:dO X pins H2 kS:=fK.of pK.2.1;dsimp only;have ksz:(ks.map Value.ref).toArray.size=j:=by simp [kl]
 obtain ⟨c2,hc2⟩:∃c2,(s''.heap.update kS (Obj.mapSeq (·.push (.ref t)))).get? kS=some (seqObj "list" ((ks.map Value.ref).toArray.push (.ref t)) c2):=⟨_,get?_update_seq pK.1 (·.push (.ref t))⟩;refine wpAny_bind (listUpdate_at pK.1 rfl ?_ (by rw [ksz];omega) (by rw [Array.size_push,ksz];omega));have J5:Inv X pins σ H2 {s'' with heap:=s''.heap.update kS (Obj.mapSeq (·.push (.ref t)))}:=J4.turned (t':=s''.toks) (fun b o nb e=>(Heap.get?_update_other _ _ (Ne.symm nb)).trans e) Tf.1 Tf.2.1 Tf.2.2.2.1 Tf.2.2.2.2.1 Tf.2.2.2.2.2;refine wpAny_pure ⟨rfl,H2,ks++[t],c2,J5,sm.trans s2,fD2,Tf, ?_,(Heap.get?_update_other _ _ Te).trans pD.1,by simp [kl],fun i t' e=> ?_⟩
 ·rw [hc2]
  congr 2;simp
 ·by_cases hi:i<ks.length
  ·rw [List.getElem?_append_left hi] at e
   exact s2 _ _ (kt i t' e)
  ·have il:=(List.getElem?_eq_some_iff.mp e).1
   rw [List.length_append,List.length_singleton] at il;obtain rfl:i=ks.length:=by omega
   rw [List.getElem?_append_right (Nat.le_refl _),Nat.sub_self] at e;cases e;rw [kl];exact ht
theorem Jc {v:Value} {vs:List Value} (h:v∈vs):(v,v)∈vs.zip vs:=by
 induction vs with
 | nil=>simp at h
 | cons x vs ih=>
   rw [List.zip_cons_cons];rcases List.mem_cons.mp h with rfl|h
   ·exact .head _
   ·exact .tail _ (ih h)
def Jr (ks:List Addr) (its:List Value) (i:Nat):Keyed:=(Value.ref ((ks[i]?).getD 0),(its[i]?).getD .none)
theorem K4 {ks:List Addr} {its:List Value} (kl:ks.length=its.length):(ks.map Value.ref).zip its=(List.range its.length).map (Jr ks its):=by
 refine List.ext_getElem (by rw [List.length_zip,List.length_map,List.length_map,List.length_range];omega) fun i h1 h2=> ?_;rw [List.length_map,List.length_range] at h2;rw [List.getElem_zip,List.getElem_map,List.getElem_map,List.getElem_range];unfold Jr;rw [List.getElem?_eq_getElem (by omega),List.getElem?_eq_getElem h2];rfl
theorem Hu {rk:Value->Nat} {arr:Array Keyed} (hs:Tim.Seg rk arr 0 arr.size):arr.toList.Pairwise fun p q=>rk p.1<=rk q.1:=by
 rw [List.pairwise_iff_getElem];intro i j hi hj lt;rw [Array.length_toList] at hi hj;have:=hs i j (Nat.zero_le _) (Nat.le_of_lt lt) hj;rw [Tim.m_ (p:=arr[i]) (by simp [hi]),Tim.m_ (p:=arr[j]) (by simp [hj])] at this;simpa using this
theorem Ei {s:Shared} {A:Around} {D kS:Addr} {e1 e:Nat} {its:List Value} {ks:List Addr} {H1:Hp} {P:PySem.Fin->Shared->Prop} {E:Value->Shared->Prop} (kf:Nat->List Int) {k:Nat} (hk:1<=k) (hkl:∀j,j<its.length->(kf j).length=k) (Te:kS≠D)
 (J:Inv X pins σ H1 s) (fD:dO X pins H1 D) (fK:dO X pins H1 kS) (gK:s.heap.get? kS=some (seqObj "list" (ks.map Value.ref).toArray e)) (gD:s.heap.get? D=some (seqObj "list" #[] e1)) (kl:ks.length=its.length) (hz:its.length<sizeLine)
 (kt:∀(j:Nat) t,ks[j]? = some t->H1 t=some (.tup ((kf j).map V.int)))
 (h:∀(ms:List Nat) (c:Nat) (s':Shared),ms.Perm (List.range its.length)->ms.Pairwise (fun i j=>Tim.cJ (kf j) (kf i)=false)->Inv X pins σ H1 s'->s'.heap.get? D=some (seqObj "list" (ms.map fun i=>(its[i]?).getD .none).toArray c)->P (.done (.ret .none)) s'):
 wpAny (model X.prog X.w) A (ksk_end D false its.toArray e1 (.ref kS) (ks.map Value.ref).toArray) P E s:=by
 have T:vB s.heap k (ks.map Value.ref):=fun v hv=>by
  obtain ⟨t,ht,rfl⟩:=List.mem_map.mp hv;obtain ⟨j,ej⟩:=List.getElem?_of_mem ht;obtain ⟨jts,p,i⟩:=ints_of J (kt j t ej);exact ⟨t,jts,_,rfl,p,by simpa using i,hkl j (by have:=(List.getElem?_eq_some_iff.mp ej).1;omega)⟩
 have key:∀i,i<its.length->keyOf s.heap (Jr ks its i).1=kf i:=fun i hi=>by
  have ei:ks[i]? = some (ks[i]'(by omega)):=by simp [show i<ks.length by omega]
  obtain ⟨jts,p,ii⟩:=ints_of J (kt i _ ei);show keyOf s.heap (Value.ref ((ks[i]?).getD 0))=kf i;rw [ei];exact gU p (by simpa using ii)
 have hzs:((ks.map Value.ref).toArray.zip its.toArray).size=its.length:=by rw [Array.size_zip];simp [kl]
 have zl:((ks.map Value.ref).toArray.zip its.toArray).toList=(List.range its.length).map (Jr ks its):=by
  rw [←K4 kl,ksk_zip]
 have tail:∀st:SortSt,(arrOf st).Perm ((ks.map Value.ref).toArray.zip its.toArray)->Tim.Seg (Tim.gM (fun a b=>Tim.cJ (keyOf s.heap a) (keyOf s.heap b)) (ks.map Value.ref)) (arrOf st) 0 (arrOf st).size->failedOf st=none ->
  wpAny (model X.prog X.w) A (ksk_tail D false e1 (.ref kS) st) P E s:=by
  intro st hp hs hfl;have hl:(arrOf st).toList.Perm ((List.range its.length).map (Jr ks its)):=by rw [←zl];exact Array.perm_iff_toList_perm.mp hp
  obtain ⟨ms,m1,m2⟩:=Ib hl;have hin:∀i∈ms,i<its.length:=fun i hi=>List.mem_range.mp (m1.mem_iff.mp hi)
  have so:ms.Pairwise (fun i j=>Tim.cJ (kf j) (kf i)=false):=by
   have:=Hu hs;rw [m2,List.pairwise_map] at this;refine List.Pairwise.imp_of_mem (fun {i j} hi hj q=> ?_) this
   have q:=Tim.vV (Tim.qH (keyOf s.heap)) (List.mem_map.mpr ⟨(ks[j]?).getD 0,by
    have:=hin j hj;have ej:ks[j]? = some (ks[j]'(by omega)):=by simp [show j<ks.length by omega]
    rw [ej];exact List.getElem_mem _,rfl⟩) q
   rw [←key i (hin i hi),←key j (hin j hj)];exact q
  have eo:(arrOf st).map (·.2)=(ms.map fun i=>(its[i]?).getD .none).toArray:=by
   apply Array.toList_inj.mp;rw [Array.toList_map,m2,List.map_map];rfl
  have hsz2:(arrOf st).size=its.length:=by rw [hp.size_eq,hzs]
  have na1:(s.heap.update kS (Obj.mapSeq fun _=>(#[]:Array Value))).get? D=some (seqObj "list" #[] e1):=(Heap.get?_update_other _ _ Te).trans gD;have J1:Inv X pins σ H1 {s with heap:=s.heap.update kS (Obj.mapSeq fun _=>(#[]:Array Value))}:=J.turned (t':=s.toks) (fun b o nb e=>(Heap.get?_update_other _ _ (Ne.symm nb)).trans e) fK.1 fK.2.1 fK.2.2.2.1 fK.2.2.2.2.1 fK.2.2.2.2.2;obtain ⟨c2,hc2⟩:∃c2,((s.heap.update kS (Obj.mapSeq fun _=>(#[]:Array Value))).update D (Obj.mapSeq fun _=>(arrOf st).map (·.2))).get? D=some (seqObj "list" ((arrOf st).map (·.2)) c2):=⟨_,get?_update_seq na1 fun _=>(arrOf st).map (·.2)⟩;have J2:Inv X pins σ H1 {s with heap:=(s.heap.update kS (Obj.mapSeq fun _=>(#[]:Array Value))).update D (Obj.mapSeq fun _=>(arrOf st).map (·.2))}:=J1.turned (t':=s.toks) (fun b o nb e=>(Heap.get?_update_other _ _ (Ne.symm nb)).trans e) fD.1 fD.2.1 fD.2.2.2.1 fD.2.2.2.2.1 fD.2.2.2.2.2;unfold ksk_tail;dsimp only;refine wpAny_bind (listUpdate_at gK rfl ?_ (by simp [kl];omega) (Nat.zero_le _));refine wpAny_bind (wpAny_letGo ?_);refine wpAny_bind (seqEpoch_at na1 rfl ?_);simp only [Bool.false_eq_true,if_false];refine wpAny_bind (listUpdate_at na1 rfl ?_ (Nat.zero_le _) (by rw [Array.size_map,hsz2];omega));rw [hfl];simp only [bne_self_eq_false,Bool.false_eq_true,if_false];refine wpAny_pure (h ms c2 _ m1 so J2 ?_);rw [←eo];exact hc2
 unfold ksk_end;dsimp only;simp only [Bool.false_eq_true,if_false]
 by_cases h2:its.toArray.size<2
 ·rw [if_pos h2,if_pos h2]
  refine wpAny_bind (wpAny_pure ?_);rw [StateT.run_pure];refine wpAny_bind (wpAny_pure ?_);dsimp only;refine tail (SortSt.mk' general' ((ks.map Value.ref).toArray.zip its.toArray) #[] 7 none) (Array.Perm.refl _) ?_ rfl;intro i j _ hij hj;have hj:j<((ks.map Value.ref).toArray.zip its.toArray).size:=hj;rw [hzs] at hj;rw [List.size_toArray] at h2;have:i=j:=by omega
  subst this;exact Nat.le_refl _
 ·rw [if_neg h2,if_neg h2]
  rw [List.size_toArray] at h2;refine wpAny_bind (oK hk T (by rw [List.length_map];omega) (fun b o e=>e) ?_);have C0:=qW (prog:=X.prog) (w:=X.w) (A:=A) (s:=s) T (fun b o e=>e)
  have C:Tim.z6 X.prog X.w A s (tuples' true) ((ks.map Value.ref).toArray.zip its.toArray) (Tim.gM (fun a b=>Tim.cJ (keyOf s.heap a) (keyOf s.heap b)) (ks.map Value.ref)):=by
   have mm:∀p∈((ks.map Value.ref).toArray.zip its.toArray).toList,(p.1,p.1)∈(pairsOf (ks.map Value.ref)).toList:=fun p hp=>by
    rw [pairsOf_toList];rw [ksk_zip] at hp;exact Jc (List.of_mem_zip (by simpa using hp)).1
   exact ⟨fun p hp q hq E Q hh=>C0.ask (p.1,p.1) (mm p hp) (q.1,q.1) (mm q hq) E Q hh⟩
  refine wpAny_bind (wpAny_mono (Tim.wpS_sortRuns (a₀:=(ks.map Value.ref).toArray.zip its.toArray) (rk:=Tim.gM (fun a b=>Tim.cJ (keyOf s.heap a) (keyOf s.heap b)) (ks.map Value.ref)) (st:=SortSt.mk' (tuples' true) ((ks.map Value.ref).toArray.zip its.toArray) #[] 7 none)
   (Q:=fun _ st'=>(arrOf st').Perm ((ks.map Value.ref).toArray.zip its.toArray)/\failedOf st'=none/\Tim.Seg (Tim.gM (fun a b=>Tim.cJ (keyOf s.heap a) (keyOf s.heap b)) (ks.map Value.ref)) (arrOf st') 0 ((ks.map Value.ref).toArray.zip its.toArray).size)
   C ⟨Array.Perm.refl _,rfl,rfl,rfl⟩ (by rw [hzs];omega) fun st' a1 a2 a3=>⟨a1,a2,a3⟩) ?_ fun _ _ e=>e)
  rintro ⟨⟨⟩,st'⟩ s' ⟨rfl,hp,hf,hs⟩;dsimp only;exact tail st' hp (by rw [hp.size_eq];exact hs) hf
end
end L2
set_option Elab.async false
set_option linter.all false
set_option maxRecDepth 100000
set_option maxHeartbeats 1000000
namespace L2
open PySem PySem.Spec PyProof.Rows PySem.W
section
variable {X:Cx} {pins:List (Addr×Obj)} {σ:St} {H:Hp} {q l:Addr} {xs:List V}
theorem uF {its:List Value} (rv:Vals xs its):∀{ms:List Nat},(∀i∈ms,i<xs.length)->Vals (ms.map fun i=>(xs[i]?).getD .non) (ms.map fun i=>(its[i]?).getD .none)
 | [],_=> .nil
 | i::ms,h=>by
   have hi:=h i (.head _);obtain ⟨u,e1,e2⟩:=rv.get (i:=i) (x:=xs[i]) (by simp [hi]);refine .cons ?_ (uF rv fun j hj=>h j (.tail _ hj));dsimp only;rw [e1,List.getElem?_eq_getElem hi];exact e2
theorem Ah {s:Shared} {Q:Value->Shared->Prop} (kf:Nat->List Int) {k:Nat} (hk:1<=k) (hkl:∀j,j<xs.length->(kf j).length=k) (J:Inv X pins σ H s) (hl:aV X.K H l xs) (hz:xs.length<sizeLine)
 (turn:∀(gA:List (Addr×Obj)) (i:Nat) (v:V) (u:Value) (H1:Hp) (s1:Shared),xs[i]? = some v->Inv X gA σ H1 s1->RelV v u->Same H H1 ->
   wpAny (model X.prog X.w) X.A.in1.in1 (call (.ref q) [u]) (EP X gA σ fun r H2=>∃t,r = .ref t/\H2 t=some (.tup ((kf i).map V.int))/\Same H1 H2) (fun _ _=>False) s1)
 (hQ:∀(D:Addr) (ms:List Nat) (H1:Hp) (s1:Shared),ms.Perm (List.range xs.length)->ms.Pairwise (fun i j=>Tim.cJ (kf j) (kf i)=false)->H1 D=none->Same H H1->Inv X pins σ (upd H1 D (.lst (ms.map fun i=>(xs[i]?).getD .non))) s1->Q (.ref D) s1):
 wpAny (model X.prog X.w) X.A (call (.builtin "sorted") [.ref l] [(Str.ofString "key",.ref q)]) Q X.xe s:=by
 obtain ⟨its,rv,pl,_⟩:=J.list hl;have hlen:its.length=xs.length:=rv.length.symm;refine call_function_entry_kw kind_sorted plain_sorted entry_sorted (ksk_s1 _ _) ?_;unfold Builtin.«sorted»;refine wpAny_bind (m:=checkCount "sorted" 1 1 _) (wpAny_pure ?_);refine wpAny_bind (collect_list pl.isList ?_ (by omega));refine wpAny_bind (wpAny_newList ?_ (by show its.length<=_;omega));have hsz:((s.heap.push (seqObj "list" #[] 0)).update s.heap.objs.size (Obj.mapSeq (· ++ its.toArray))).objs.size=s.heap.objs.size+1:=by rw [Heap.size_update,size_push']
 have hoL:(((s.heap.push (seqObj "list" #[] 0)).update s.heap.objs.size (Obj.mapSeq (· ++ its.toArray))).push (seqObj "list" its.toArray 0)).get? (s.heap.objs.size+1)=some (seqObj "list" its.toArray 0):=by
  rw [←hsz];exact Heap.get?_push_size _ rfl
 have hsz2:(((s.heap.push (seqObj "list" #[] 0)).update s.heap.objs.size (Obj.mapSeq (· ++ its.toArray))).push (seqObj "list" its.toArray 0)).objs.size=s.heap.objs.size+2:=by rw [size_push',hsz]
 have keep:∀b o,s.heap.get? b=some o->(((s.heap.push (seqObj "list" #[] 0)).update s.heap.objs.size (Obj.mapSeq (· ++ its.toArray))).push (seqObj "list" its.toArray 0)).get? b=some o:=fun b o q=>by
  have hlt:b<s.heap.objs.size:=Heap.lt_size q;rw [Heap.get?_push_ne _ _ _ (by rw [hsz];exact Nat.ne_of_lt (Nat.lt_succ_of_lt hlt)),Heap.get?_update_ne _ _ _ _ (Nat.ne_of_lt hlt),Heap.get?_push_ne _ _ _ (Nat.ne_of_lt hlt)];exact q
 show wpAny _ _ _ _ _ {s with heap:=((s.heap.push (seqObj "list" #[] 0)).update s.heap.objs.size (Obj.mapSeq (· ++ its.toArray))).push (seqObj "list" its.toArray 0)};rw [hsz];have J1:Inv X pins σ H {s with heap:=((s.heap.push (seqObj "list" #[] 0)).update s.heap.objs.size (Obj.mapSeq (· ++ its.toArray))).push (seqObj "list" its.toArray 0)}:=J.kept (t':=s.toks) keep;have fD:dO X pins H (s.heap.objs.size+1):=J.pC (Nat.le_succ _) (J.hok.fresh (Nat.le_succ _));have fK0:∀n,s.heap.objs.size<=n->dO X pins H n:=fun n hn=>J.pC hn (J.hok.fresh hn);generalize hD:s.heap.objs.size+1=D at hoL fD ⊢;generalize ((s.heap.push (seqObj "list" #[] 0)).update s.heap.objs.size (Obj.mapSeq (· ++ its.toArray))).push (seqObj "list" its.toArray 0)=h1 at hoL hsz2 keep J1 ⊢;refine wpAny_bind (wpAny_holding (wpAny_call_entry_kw slot_list_sort ⟨_,hoL,rfl⟩ entry_list_sort ?body (ksk_l1 _ _)));show wpAny (model X.prog X.w) X.A.in1.in1 (Builtin.«list.sort» ⟨[.ref D],[(Str.ofString "key",.ref q)]⟩) _ _ {s with heap:=h1};rw [ksk_t1];unfold ksk_tree;obtain ⟨e1,ho1⟩:∃e1,(h1.update D (Obj.mapSeq fun _=>(#[]:Array Value))).get? D=some (seqObj "list" #[] e1):=⟨_,get?_update_seq hoL fun _=> #[]⟩;have J2:Inv X pins σ H {s with heap:=h1.update D (Obj.mapSeq fun _=>(#[]:Array Value))}:=J1.turned (t':=s.toks) (fun b o nb e=>(Heap.get?_update_other _ _ (Ne.symm nb)).trans e) fD.1 fD.2.1 fD.2.2.2.1 fD.2.2.2.2.1 fD.2.2.2.2.2;refine wpAny_bind (listItems_at hoL rfl ?_);refine wpAny_bind (listUpdate_at hoL rfl ?_ (by rw [List.size_toArray];omega) (Nat.zero_le _));refine wpAny_bind (seqEpoch_at ho1 rfl ?_);refine wpAny_bind (wpAny_newTuple ?_ (by show its.length<=_;omega));refine wpAny_bind (wpAny_newList ?_ (Nat.zero_le _));refine wpAny_holding ?_;have hkS:((h1.update D (Obj.mapSeq fun _=>(#[]:Array Value))).push (seqObj "tuple" its.toArray 0)).objs.size=s.heap.objs.size+3:=by rw [size_push',Heap.size_update,hsz2]
 have J3:Inv X pins σ H {s with heap:=((h1.update D (Obj.mapSeq fun _=>(#[]:Array Value))).push (seqObj "tuple" its.toArray 0)).push (seqObj "list" #[] 0)}:=J2.kept (t':=s.toks) fun b o e=>Heap.get?_push_of_some _ (Heap.get?_push_of_some _ e);have gK:(((h1.update D (Obj.mapSeq fun _=>(#[]:Array Value))).push (seqObj "tuple" its.toArray 0)).push (seqObj "list" #[] 0)).get? (s.heap.objs.size+3)=some (seqObj "list" #[] 0):=by rw [←hkS];exact Heap.get?_push_size _ rfl
 have gD:(((h1.update D (Obj.mapSeq fun _=>(#[]:Array Value))).push (seqObj "tuple" its.toArray 0)).push (seqObj "list" #[] 0)).get? D=some (seqObj "list" #[] e1):=Heap.get?_push_of_some _ (Heap.get?_push_of_some _ ho1);have fK:=fK0 (s.heap.objs.size+3) (by omega);have Te:s.heap.objs.size+3≠D:=by omega
 show wpAny (model X.prog X.w) X.A.in1.in1 (ksk_rest D (.ref q) false its.toArray e1 (.ref ((h1.update D (Obj.mapSeq fun _=>(#[]:Array Value))).push (seqObj "tuple" its.toArray 0)).objs.size)) _ _ {s with heap:=((h1.update D (Obj.mapSeq fun _=>(#[]:Array Value))).push (seqObj "tuple" its.toArray 0)).push (seqObj "list" #[] 0)};rw [hkS];unfold ksk_rest;refine wpAny_bind (wpAny_rule ?_)
 first
  | rw [List.forIn_toArray]
  | (rw [←Array.forIn_toList];simp only [List.toList_toArray])
  | rw [←Array.forIn_toList]
 refine wpAny_bind (Jv (q:=q) (D:=D) (kS:=s.heap.objs.size+3) (e1:=e1) kf Te rv hz ⟨H,[],0,J3,Same.refl _,fD,fK,gK,gD,rfl,fun j t e=>by simp at e⟩ turn (fun x=>rfl) fun s' KI=> ?_);obtain ⟨H',ks,e,J4,sm,fD4,fK4,gK4,gD4,kl,kt⟩:=KI;refine wpAny_bind (listItems_at gK4 rfl ?_);refine Ei kf hk (fun j hj=>hkl j (by omega)) Te J4 fD4 fK4 gK4 gD4 kl (by omega) kt fun ms c s2 m1 m2 J5 gD5=> ?_;rw [hlen] at m1;have hin:∀i∈ms,i<xs.length:=fun i hi=>List.mem_range.mp (m1.mem_iff.mp hi);have J6:=J5.TQ fD4 gD5 (by rw [List.length_map,m1.length_eq,List.length_range];omega) (uF rv hin);exact ⟨_,rfl,wpAny_pure ⟨_,rfl,hQ D ms H' s2 m1 m2 fD4.1 sm J6⟩⟩
end
def Qa (K:PySem.W.Frag) (qual:Str) (params:Arguments) (body:Expr) (scope:Scope) (pm:Value) (sp:List V->Hp->VK->Prop) (ta:TA) (tk:TE):TE:=fun σ H Q=>ta σ H fun vs H1=>tk σ H1 fun kv H2=>∃(l q:Addr) (xs:List V) (k:Nat) (kf:Nat->List Int),vs=[.ref l]/\kv = .ref q/\xu H2 q qual params body scope pm/\aV K H2 l xs/\xs.length<sizeLine/\1<=k/\(∀j,j<xs.length->(kf j).length=k) /\
 (∀(i:Nat) (v:V) (H3:Hp),xs[i]? = some v->Same H2 H3->sp [v] H3 fun r H4=>∃t,r = .ref t/\H4 t=some (.tup ((kf i).map V.int))/\Same H3 H4) /\
 ∀(D:Addr) (ms:List Nat) (H3:Hp),ms.Perm (List.range xs.length)->ms.Pairwise (fun i j=>Tim.cJ (kf j) (kf i)=false)->H3 D=none->Same H2 H3->Q (.ref D) (upd H3 D (.lst (ms.map fun i=>(xs[i]?).getD .non)))
section
variable {X:Cx} {a:Expr} {ta:TA} {tk:TE} {p pos kp Jh:Pos} {k:Nat} {N ps:List Str} {qual:Str} {params:Arguments} {body:Expr} {scope:Scope} {sp:List V->Hp->VK->Prop} {pm:Value} {f:Addr}
theorem Mt {pins:List (Addr×Obj)} {σ:St} {H:Hp} {s:Shared} {Q:VK} {us:List Value} {vs:List V} (L:uc X.prog X.w X.K X.mg X.base k N ps qual params body scope sp) (hr:cU (k+3) X.A)
 (I:Inv X pins σ H s) (F:xu H f qual params body scope pm) (r:Vals vs us) (q:sp vs H Q):wpAny (model X.prog X.w) X.A.in1.in1 (call (.ref f) us) (EP X pins σ Q) (fun _ _=>False) s:=by
 refine wpAny_call (codeAny_mono (Dd L (cU.in1 (cU.in1 hr)) I.env0.in1.in1 F r q) fun res s' hq=> ?_)
 match res,hq with
 | .error ev,hq=>exact hq
 | .ok (.ret u),hq=>exact I.after hq
theorem Ie (L:uc X.prog X.w X.K X.mg X.base k N ps qual params body scope sp) (hr:cU (k+3) X.A) (hg:Gl X "sorted") (hm:X.mg "sorted" = none) (hv:bootBuiltins "sorted" = some (.builtin "sorted")) (ha:PA X [a] ta) (hd:PE X (.Lambda params body scope Jh) tk)
 (he:backTo pos (starEach [a] X.env)=(false,eval a X.env)::backTo pos (starEach [] X.env):=by rfl)
 (hplain:(backTo pos (starEach [a] X.env)).any (·.1)=false:=by rfl):
 PE X (.Call (.Name "sorted" p) [a] [⟨some "key",.Lambda params body scope Jh,kp⟩] pos) (Qa X.K qual params body scope pm sp ta tk):=by
 intro pins s σ H Q I h;refine wpAny_Call_Name_kw (lu I hg hm hv ?_ (by decide) (by decide));refine PyProof.Rows.callWith_kw (cR (ha pos pins s σ H _ I h) fun us s1 ⟨vs,H1,I1,r1,q1⟩=> ?_) he hplain;refine PyProof.Rows.kws_cons (cR (hd pins s1 σ H1 _ I1 q1) fun dv s2 ⟨x,H2,I2,r2,q2⟩=>PyProof.Rows.kws_nil ?_);obtain ⟨l,q,xs,kk,kf,rfl,rfl,F,hq,hz,hk,hkl,hsp,qq⟩:=q2;obtain ⟨u,rfl,rx⟩:=vals1 r1;cases rx;cases r2;show wpAny (model X.prog X.w) X.A (call (.builtin "sorted") [.ref l] [(Str.ofString "key",Value.ref q)]) _ _ s2;refine Ah kf hk hkl I2 hq hz (fun gA i v u H3 s3 e J Eo sm=> ?_) fun D ms H3 s3 m1 m2 n sm J=>⟨.ref D,_,J,rfl,qq D ms H3 m1 m2 n sm⟩;exact Mt L hr J (F.same sm) (.cons Eo .nil) (hsp i v H3 e sm)
end
end L2
set_option Elab.async false
set_option linter.all false
set_option maxRecDepth 100000
set_option maxHeartbeats 1000000
namespace L2
open PySem
def uU:Nat->Nat->Nat
 | 0,x=>x
 | n+1,x=>uU n (5*x+1)
theorem Dk:∀(n m x:Nat),uU (n+m) x=uU m (uU n x)
 | 0,m,x=>by rw [Nat.zero_add];rfl
 | n+1,m,x=>by rw [Nat.succ_add];exact Dk n m (5*x+1)
theorem zc:∀(n x:Nat),4*uU n x+1=5 ^ n*(4*x+1)
 | 0,x=>by simp [uU]
 | n+1,x=>by
   have h:=zc n (5*x+1);have e:4*(5*x+1)+1=5*(4*x+1):=by omega
   rw [e,←Nat.mul_assoc,←Nat.pow_succ] at h;exact h
theorem wD (m:Nat):∀(n x:Nat),uU n (x % m) % m=uU n x % m
 | 0,x=>by simp [uU]
 | n+1,x=>by
   show uU n (5*(x % m)+1) % m=uU n (5*x+1) % m;rw [←wD m n (5*(x % m)+1),←wD m n (5*x+1)];congr 2;rw [Nat.add_mod,Nat.mul_mod,Nat.mod_mod,←Nat.mul_mod,←Nat.add_mod]
theorem Uw:∀k:Nat,∃u,5 ^ (2 ^ k)=1+4*2 ^ k*(2*u+1)
 | 0=>⟨0,rfl⟩
 | k+1=>by
   obtain ⟨u,h⟩:=Uw k;refine ⟨u+2 ^ k*(2*u+1)*(2*u+1), ?_⟩;rw [Nat.pow_succ,Nat.pow_mul,h];generalize 2 ^ k=P
   grind
theorem half (k x:Nat):∃v,uU (2 ^ k) x=x+2 ^ k*(2*v+1):=by
 obtain ⟨u,h⟩:=Uw k;have f:=zc (2 ^ k) x;rw [h] at f;refine ⟨u*(4*x+1)+2*x, ?_⟩;generalize uU (2 ^ k) x=y at f ⊢;generalize 2 ^ k=P at f ⊢;have e:(1+4*P*(2*u+1))*(4*x+1)=4*(x+P*(2*(u*(4*x+1)+2*x)+1))+1:=by grind
 rw [e] at f;omega
theorem cover:∀(k x j:Nat),j<2 ^ k -> ∃n,n<2 ^ k/\uU n x % 2 ^ k=j
 | 0,x,j,h=>⟨0,by decide,by simp at h;subst h;simp [Nat.mod_one]⟩
 | k+1,x,j,h=>by
   have hp:0<2 ^ k:=Nat.pow_pos (by decide);obtain ⟨n,hn,e⟩:=cover k x (j % 2 ^ k) (Nat.mod_lt _ hp);rw [Nat.pow_succ] at h ⊢;generalize hP:2 ^ k=P at *;have hj:j % P+P*(j / P % 2)=j:=by rw [←Nat.mod_mul,Nat.mod_eq_of_lt h]
   by_cases q:uU n x / P % 2=j / P % 2
   ·refine ⟨n,by omega, ?_⟩
    rw [Nat.mod_mul,e,q,hj]
   ·refine ⟨n+P,by omega, ?_⟩
    obtain ⟨v,hv⟩:=half k (uU n x);rw [hP] at hv;rw [Dk,hv,Nat.mod_mul,Nat.add_mul_mod_self_left,e,Nat.add_mul_div_left _ _ hp];have:(uU n x / P+(2*v+1)) % 2=j / P % 2:=by omega
    rw [this,hj]
def lps (mask:Nat):Nat->Nat×Nat->Nat×Nat
 | 0,s=>s
 | n+1,s=>lps mask n (SetTable.leap mask s.1 s.2)
theorem CV (mask:Nat):∀(n m:Nat) (s:Nat×Nat),lps mask (n+m) s=lps mask m (lps mask n s)
 | 0,m,s=>by rw [Nat.zero_add];rfl
 | n+1,m,s=>by rw [Nat.succ_add];exact CV mask n m _
theorem Jg (mask:Nat):∀(n:Nat) (s:Nat×Nat),s.1<=mask->(lps mask n s).1<=mask
 | 0,s,h=>h
 | n+1,s,_=>Jg mask n _ (Nat.le_of_lt_succ (Nat.mod_lt _ (Nat.succ_pos _)))
theorem yP (mask:Nat):∀(n:Nat) (s:Nat×Nat),(lps mask n s).2=s.2 / 32 ^ n
 | 0,s=>by simp [lps]
 | n+1,s=>by
   show (lps mask n _).2=_;rw [yP mask n];show s.2 / 32 / 32 ^ n=_;rw [Nat.div_div_eq_div_mul,Nat.pow_succ,Nat.mul_comm]
theorem yO (mask:Nat):∀(n i:Nat),i<=mask->lps mask n (i,0)=(uU n i % (mask+1),0)
 | 0,i,h=>by simp [lps,uU,Nat.mod_eq_of_lt (Nat.lt_succ_of_le h)]
 | n+1,i,h=>by
   show lps mask n ((i*5+1+0 / 32) % (mask+1),0 / 32)=_;rw [Nat.zero_div,Nat.add_zero,yO mask n _ (Nat.le_of_lt_succ (Nat.mod_lt _ (Nat.succ_pos _))),wD];show _=(uU n (5*i+1) % (mask+1),0);rw [Nat.mul_comm 5 i]
theorem reach {mask k:Nat} (hm:mask+1=2 ^ k) {i p j:Nat} (hi:i<=mask) (hp:p<2 ^ 64) (hj:j<=mask):∃n,n<=mask+13/\(lps mask n (i,p)).1=j:=by
 have h0:(lps mask 13 (i,p)).2=0:=by
  rw [yP];exact Nat.div_eq_of_lt (Nat.lt_of_lt_of_le hp (by decide))
 have h1:=Jg mask 13 (i,p) hi;obtain ⟨n,hn,e⟩:=cover k (lps mask 13 (i,p)).1 j (by omega);refine ⟨13+n,by omega, ?_⟩;rw [CV];have e2:lps mask 13 (i,p)=((lps mask 13 (i,p)).1,0):=by rw [←h0]
 rw [e2,yO mask n _ h1,hm];exact e
end L2
set_option Elab.async false
set_option linter.all false
set_option maxRecDepth 100000
set_option maxHeartbeats 1000000
namespace L2
open PySem
theorem sub_len {α:Type} [DecidableEq α]:∀{l m:List α},l.Nodup->(∀x∈l,x∈m)->l.length<=m.length
 | [],m,_,_=>Nat.zero_le _
 | x::l,m,nd,h=>by
   have hx:=h x (.head _);obtain ⟨n1,n2⟩:=List.nodup_cons.mp nd;have:=sub_len (l:=l) (m:=m.erase x) n2 fun y hy=>(List.mem_erase_of_ne (fun (e:y=x)=>n1 (by rw [←e];exact hy))).mpr (h y (.tail _ hy));rw [List.length_erase_of_mem hx] at this;have:0<m.length:=List.length_pos_of_mem hx;rw [List.length_cons];omega
section
variable {t:SetTable}
theorem rm (hd:t.dummies = #[]) (j:Nat):t.slot j ≠ .dummy:=by
 unfold SetTable.slot;dsimp only;split
 ·intro h;cases h
 ·rw [hd]
  have:SetTable.has #[] j=false:=rfl;rw [this];intro h;cases h
theorem uK {j i:Nat} (h:t.slot j = .live i):t.place[i]? = some j:=by
 unfold SetTable.slot at h;dsimp only at h;split at h
 ·rename_i q
  cases h;exact eq_of_beq q
 ·split at h<;>cases h
theorem FN (hd:t.dummies = #[]) (hs:t.place.size<=t.mask):∃j,j<=t.mask/\t.slot j = .empty:=by
 refine Classical.byContradiction fun no=> ?_
 have all:∀j∈List.range (t.mask+1),j∈t.place.toList:=fun j hj=>by
  have hj:j<=t.mask:=Nat.le_of_lt_succ (List.mem_range.mp hj);cases e:t.slot j with
  | empty=>exact absurd ⟨j,hj,e⟩ no
  | dummy=>exact absurd e (rm hd j)
  | live i=>
    have q:=uK e;rw [←Array.getElem?_toList] at q;exact List.mem_of_getElem? q
 have:=sub_len List.nodup_range all;rw [List.length_range,Array.length_toList] at this;omega
inductive zX (t:SetTable):Nat->SetTable.Probe->Prop
 | here {d:Nat} {p:SetTable.Probe}:t.slot p.j = .empty->zX t d p
 | next {d:Nat} {p:SetTable.Probe}:zX t d (t.advance p)->zX t (d+1) p
theorem zX.mono {d e:Nat} {p:SetTable.Probe} (h:zX t d p) (le:d<=e):zX t e p:=by
 induction h generalizing e with
 | here q=>exact .here q
 | next _ ih=>
   cases e with
   | zero=>omega
   | succ e=>exact .next (ih (by omega))
theorem JH (hd:t.dummies = #[]) (f:Nat->Int) (h:Int):∀(fuel d:Nat) (p:SetTable.Probe),zX t d p->d<fuel->p.dummy=none ->
 ∃met,SetTable.probe.go t f h fuel p=some met/\((∃j,met = .empty j none/\t.slot j = .empty) \/ ∃j i q d',met = .candidate j i q/\d'<d/\zX t d' q/\q.dummy=none/\t.slot j = .live i)
 | 0,d,p,_,lt,_=>absurd lt (Nat.not_lt_zero _)
 | fuel+1,d,p,r,lt,nd=>by
   have adv:(t.advance p).dummy=none:=by
    unfold SetTable.advance;split
    ·exact nd
    ·exact nd
   unfold SetTable.probe.go;cases e:t.slot p.j with
   | empty=>exact ⟨_,rfl,.inl ⟨p.j,by rw [nd],e⟩⟩
   | dummy=>exact absurd e (rm hd _)
   | live i=>
     cases r with
     | here q=>rw [e] at q;cases q
     | @next d' _ r=>
       dsimp only;split
       ·exact ⟨_,rfl,.inr ⟨p.j,i,_,d',rfl,Nat.lt_succ_self _,r,adv,e⟩⟩
       ·obtain ⟨met,a,b⟩:=JH hd f h fuel d' _ r (by omega) adv
        refine ⟨met,a, ?_⟩;rcases b with b|⟨j,i,q,d'',b1,b2,b3⟩
        ·exact .inl b
        ·exact .inr ⟨j,i,q,d'',b1,by omega,b3⟩
theorem Cp (mask i:Nat):SetTable.runEnd mask i - i<=9:=by
 unfold SetTable.runEnd;split<;>omega
theorem rH {j0:Nat} (e0:t.slot j0 = .empty):∀(n m:Nat) (p:SetTable.Probe),p.more=m->(lps t.mask n (SetTable.leap t.mask p.i p.perturb)).1=j0->zX t (m+1+10*n) p
 | n,m+1,p,hm,h=>by
   refine (zX.next (d:=m+1+10*n) ?_).mono (by omega);have e:t.advance p={p with j:=p.j+1,more:=p.more - 1}:=by unfold SetTable.advance;rw [if_pos (by omega)]
   rw [e];exact rH e0 n m _ (by show p.more - 1=m;omega) h
 | 0,0,p,hm,h=>by
   refine (zX.next (d:=0) ?_).mono (by omega);refine .here ?_;have e:(t.advance p).j=(SetTable.leap t.mask p.i p.perturb).1:=by unfold SetTable.advance;rw [if_neg (by omega)]
   rw [e,show (SetTable.leap t.mask p.i p.perturb).1=j0 from h];exact e0
 | n+1,0,p,hm,h=>by
   have e:t.advance p={p with j:=(SetTable.leap t.mask p.i p.perturb).1,more:=SetTable.runEnd t.mask (SetTable.leap t.mask p.i p.perturb).1 - (SetTable.leap t.mask p.i p.perturb).1,i:=(SetTable.leap t.mask p.i p.perturb).1,perturb:=(SetTable.leap t.mask p.i p.perturb).2}:=by unfold SetTable.advance;rw [if_neg (by omega)]
   have r:=rH e0 n _ (t.advance p) rfl (by rw [e];exact h);refine (zX.next (r.mono (e:=10*(n+1)) ?_)).mono (by omega);rw [e];have:=Cp t.mask (SetTable.leap t.mask p.i p.perturb).1;show SetTable.runEnd t.mask (SetTable.leap t.mask p.i p.perturb).1 - (SetTable.leap t.mask p.i p.perturb).1+1+10*n<=_;omega
termination_by n m=>(n,m)
theorem Et {k:Nat} (hm:t.mask+1=2 ^ k) (hd:t.dummies = #[]) (hs:t.place.size<=t.mask) (h:Int):zX t (10*(t.mask+14)) (t.probeStart h)/\(t.probeStart h).dummy=none:=by
 obtain ⟨j0,hj,e0⟩:=FN hd hs;have hb:SetTable.bits h<2 ^ 64:=by unfold SetTable.bits;omega
 have hl:(SetTable.leap t.mask (t.probeStart h).i (t.probeStart h).perturb).1<=t.mask:=Nat.le_of_lt_succ (Nat.mod_lt _ (Nat.succ_pos _));have hp:(SetTable.leap t.mask (t.probeStart h).i (t.probeStart h).perturb).2<2 ^ 64:=Nat.lt_of_le_of_lt (Nat.div_le_self _ _) hb;obtain ⟨n,hn,e⟩:=reach hm hl hp hj;have few:(t.probeStart h).more<=9:=Cp _ _;exact ⟨(rH e0 n _ _ rfl e).mono (by omega),rfl⟩
end
theorem Ds {owner:Array (Option Nat)} {mask:Nat}:∀(n fuel i p:Nat),n<fuel->owner[(lps mask n (i,p)).1]? = some none -> ∃j,SetTable.layClean.free mask owner fuel i p=some j/\owner[j]? = some none
 | n,0,i,p,lt,_=>absurd lt (Nat.not_lt_zero _)
 | n,fuel+1,i,p,lt,h=>by
   unfold SetTable.layClean.free;cases e:(List.range (SetTable.runEnd mask i+1 - i)).find? fun k=>(owner.getD (i+k) (some 0)).isNone with
   | some k=>
     refine ⟨i+k,rfl, ?_⟩;have q:=List.find?_some e;rw [Array.getD_eq_getD_getElem?] at q;cases e2:owner[i+k]? with
     | none=>rw [e2] at q;cases q
     | some o=>rw [e2] at q;cases o with
       | none=>rfl
       | some x=>cases q
   | none=>
     cases n with
     | zero=>
       exfalso;have h0:(0:Nat)∈List.range (SetTable.runEnd mask i+1 - i):=List.mem_range.mpr (by unfold SetTable.runEnd;split<;>omega);have q:=List.find?_eq_none.mp e 0 h0;apply q;rw [Array.getD_eq_getD_getElem?];have h:owner[i]? = some none:=h;show ((owner[i+0]?).getD (some 0)).isNone=true;rw [Nat.add_zero,h];rfl
     | succ n=>
       exact Ds n fuel _ _ (by omega) h
theorem Hs {l:List (Option Nat)} {j k:Nat} (h:l[j]? = some none):((l.set j (some k)).filterMap id).Perm (l.filterMap id++[k]):=by
 have hl:j<l.length:=(List.getElem?_eq_some_iff.mp h).1
 have e:l=l.take j++none::l.drop (j+1):=by
  have h1:=(List.take_append_drop j l).symm;rw [List.drop_eq_getElem_cons hl] at h1;have h2:l[j]=none:=(List.getElem?_eq_some_iff.mp h).2;rw [h2] at h1;exact h1
 have e2:l.set j (some k)=l.take j++some k::l.drop (j+1):=by
  rw [List.set_eq_take_append_cons_drop,if_pos hl]
 rw [e2]
 conv=>rhs;rw [e]
 simp only [List.filterMap_append,List.filterMap_cons,id];rw [List.append_assoc];exact List.Perm.append_left _ (List.perm_append_singleton k _).symm
theorem Mp {l:List (Option Nat)} {k:Nat} (h:(l.filterMap id).Perm (List.range k)) (lt:k<l.length):∃j:Nat,l[j]? = some none:=by
 refine Classical.byContradiction fun no=> ?_
 have all:∀l:List (Option Nat),(∀j:Nat,l[j]? ≠ some none)->(l.filterMap id).length=l.length:=by
  intro l
  induction l with
  | nil=>intro _;rfl
  | cons x l ih=>
    intro h;cases x with
    | none=>exact absurd rfl (h 0)
    | some x=>
      simp only [List.filterMap_cons,id,List.length_cons];rw [ih fun j=>h (j+1)]
 have a:=all l fun j e=>no ⟨j,e⟩;rw [h.length_eq,List.length_range] at a;omega
def nU (mask:Nat):Option (Array (Option Nat)×Nat)->Int->Option (Array (Option Nat)×Nat):=fun acc h=>do
 let (owner,k) ←acc
 let j ←SetTable.layClean.free mask owner (SetTable.turns mask) (SetTable.bits h % (mask+1)) (SetTable.bits h)
 pure (owner.setIfInBounds j (some k),k+1)
theorem Jj {mask e:Nat} (hm:mask+1=2 ^ e):∀(hs:List Int) (owner:Array (Option Nat)) (k:Nat),owner.size=mask+1->(owner.toList.filterMap id).Perm (List.range k)->k+hs.length<=mask ->
 ∃o',hs.foldl (nU mask) (some (owner,k))=some (o',k+hs.length)/\o'.size=mask+1/\(o'.toList.filterMap id).Perm (List.range (k+hs.length))
 | [],owner,k,h1,h2,_=>⟨owner,rfl,h1,h2⟩
 | h::hs,owner,k,h1,h2,h3=>by
   rw [List.length_cons] at h3;obtain ⟨j0,e0⟩:=Mp h2 (by rw [Array.length_toList];omega);rw [Array.getElem?_toList] at e0;have j0l:j0<owner.size:=(Array.getElem?_eq_some_iff.mp e0).1;have hb:SetTable.bits h<2 ^ 64:=by unfold SetTable.bits;omega
   obtain ⟨n,hn,q⟩:=reach hm (i:=SetTable.bits h % (mask+1)) (p:=SetTable.bits h) (j:=j0) (Nat.le_of_lt_succ (Nat.mod_lt _ (Nat.succ_pos _))) hb (by omega);obtain ⟨j,f1,f2⟩:=Ds (owner:=owner) (mask:=mask) n (SetTable.turns mask) _ _ (by unfold SetTable.turns;omega) (by rw [q];exact e0)
   have st:nU mask (some (owner,k)) h=some (owner.setIfInBounds j (some k),k+1):=by
    unfold nU;simp only [Option.bind_eq_bind,Option.bind_some,f1];rfl
   rw [List.foldl_cons,st]
   obtain ⟨o',a,b,c⟩:=Jj hm hs (owner.setIfInBounds j (some k)) (k+1) (by simp [h1]) (by
    rw [Array.toList_setIfInBounds];rw [←Array.getElem?_toList] at f2;exact (Hs f2).trans ((h2.append_right _).trans (by rw [List.range_succ]))) (by omega)
   refine ⟨o', ?_,b, ?_⟩
   ·rw [a,List.length_cons];congr 2;omega
   ·rw [List.length_cons,show k+(hs.length+1)=k+1+hs.length by omega];exact c
theorem yu:∀l:List (Option Nat),(List.range l.length).filterMap (fun j=>(l[j]?).getD none)=l.filterMap id
 | []=>rfl
 | x::l=>by
   rw [List.length_cons,List.range_succ_eq_map,List.filterMap_cons,List.filterMap_map,List.filterMap_cons];have e:List.filterMap ((fun j=>((x::l)[j]?).getD none)∘Nat.succ) (List.range l.length)=l.filterMap id:=by rw [←yu l];rfl
   rw [e];rfl
theorem Mw {mask e finger moves:Nat} {led plain:Bool} (hm:mask+1=2 ^ e) (hs:Array Int) (hl:hs.size<=mask):
 ∃t' order,SetTable.laid mask finger moves led plain hs=some (t',order)/\t'.mask=mask/\t'.dummies = #[]/\t'.place.size=hs.size/\t'.led=led/\t'.plain=plain/\t'.place.toList.Pairwise (· < ·)/\order.toList.Perm (List.range hs.size):=by
 obtain ⟨o',a,b,c⟩:=Jj hm hs.toList (Array.replicate (mask+1) none) 0 (by simp) (by
  have:∀n,(List.replicate n (none:Option Nat)).filterMap id=[]:=by
   intro n
   induction n with
   | zero=>rfl
   | succ n ih=>rw [List.replicate_succ,List.filterMap_cons];exact ih
  rw [Array.toList_replicate,this];exact List.Perm.refl _) (by rw [Array.length_toList];omega)
 have lc:SetTable.layClean mask hs=some o':=by
  unfold SetTable.layClean;rw [←Array.foldl_toList];have:hs.toList.foldl (nU mask) (some (Array.replicate (mask+1) none,0))=some (o',0+hs.toList.length):=a;unfold nU at this;rw [this];rfl
 have e2:(List.range (mask+1)).filterMap (fun j=>o'.getD j none)=o'.toList.filterMap id:=by
  rw [←yu,Array.length_toList,b];congr 1;funext j;rw [Array.getD_eq_getD_getElem?,Array.getElem?_toList]
 have e3:((List.range (mask+1)).filterMap fun j=>(o'.getD j none).map (j,·)).map (·.2)=o'.toList.filterMap id:=by
  rw [←e2,List.map_filterMap];congr 1;funext j;cases o'.getD j none<;>rfl
 rw [Nat.zero_add,Array.length_toList] at c;refine ⟨_,_,by unfold SetTable.laid;rw [lc];rfl,rfl,rfl, ?_,rfl,rfl, ?_, ?_⟩
 ·have:=congrArg List.length e3
  rw [List.length_map,c.length_eq,List.length_range] at this;simpa using this
 ·dsimp only
  rw [List.pairwise_map];refine List.Pairwise.filterMap _ (fun {x y} lt u hu v hv=> ?_) List.pairwise_lt_range;cases ex:o'.getD x none with
  | none=>rw [ex] at hu;cases hu
  | some p=>
    cases ey:o'.getD y none with
    | none=>rw [ey] at hv;cases hv
    | some q=>
      rw [ex] at hu;rw [ey] at hv;cases hu;cases hv;exact lt
 ·dsimp only
  rw [e3];exact c
end L2
set_option Elab.async false
set_option linter.all false
set_option maxRecDepth 100000
set_option maxHeartbeats 1000000
namespace L2
open PySem PySem.Spec PyProof.Rows
section
variable {prog:Program} {w:World} {A:Around} {E:Value->Shared->Prop} {s:Shared}
abbrev lY (prog:Program) (w:World):HeapKind prog w (List Int):=tupleKind (intKind prog w)
theorem items_int {ks:List Int} {vs:List Value} (h:ItemsAre (intKind prog w) ks vs):∀v∈vs,∃n t,v=Value.int n t:=by
 induction h with
 | nil=>intro v hv;cases hv
 | @cons k v' ks vs h1 _ ih=>
   intro v hv;rcases List.mem_cons.mp hv with rfl|hv
   ·obtain ⟨t,rfl⟩:=Value.isInt_shape h1
    exact ⟨_,t,rfl⟩
   ·exact ih v hv
theorem Kc {ks:List Int} {a:Addr} {Q:Bool->Shared->Prop} (hk:(lY prog w).is s.heap ks a) (h:Q true s):wpAny (model prog w) A (hashByValue 8 (.ref a)) Q E s:=by
 have hT:=IsTupleKey.typeIs hk;obtain ⟨o,items,n,ho,_,hd,hi⟩:=hk;unfold hashByValue;refine wpAny_bind (wpAny_specialOf hT F.slot_tuple_hash.lookup ?_);show wpAny _ _ (seqItems? (.ref a) >>= _) _ _ s;refine wpAny_bind (wpAny_seqItems ho hd ?_);refine wpAny_bind ?_;show wpAny _ _ (forIn items _ _) _ _ s;rw [←Array.forIn_toList];refine wpAny_forIn_list _ (fun rest r s'=>r.1=none/\s'=s /\ ∀v∈rest,∃n t,v=Value.int n t) _ ?_ ?_ _ _ ⟨rfl,rfl,items_int hi⟩
 ·rintro v rest r s' ⟨hr,rfl,hall⟩
  obtain ⟨m,t,rfl⟩:=hall v (.head _);refine wpAny_bind (wpAny_of_eq (show hashByValue 7 (.int m t)=pure true from rfl) ?_);exact wpAny_pure ⟨rfl,rfl,fun u hu=>hall u (.tail _ hu)⟩
 ·rintro ⟨r1,r2⟩ s' ⟨hr,rfl,_⟩
  simp only at hr;subst hr;exact wpAny_pure h
theorem yI {ks:List Int} {a:Addr} {Q:Bool->Shared->Prop} (hk:(lY prog w).is s.heap ks a) (h:Q false s):wpAny (model prog w) A (ofAClassStatement 8 (.ref a)) Q E s:=by
 have hT:=IsTupleKey.typeIs hk;obtain ⟨o,items,n,ho,_,hd,hi⟩:=hk;unfold ofAClassStatement;refine wpAny_bind (wpAny_typeOf hT ?_);dsimp only;rw [if_pos (by decide)];refine wpAny_bind (wpAny_pure ?_);simp only [Bool.not_true,Bool.false_eq_true,if_false];refine wpAny_bind (wpAny_seqItems ho hd ?_);dsimp only;refine wpAny_bind ?_;show wpAny _ _ (forIn items _ _) _ _ s;rw [←Array.forIn_toList];refine wpAny_forIn_list _ (fun rest r s'=>r.1=none/\s'=s /\ ∀v∈rest,∃n t,v=Value.int n t) _ ?_ ?_ _ _ ⟨rfl,rfl,items_int hi⟩
 ·rintro v rest r s' ⟨hr,rfl,hall⟩
  obtain ⟨m,t,rfl⟩:=hall v (.head _);refine wpAny_bind (wpAny_of_eq (show ofAClassStatement 7 (.int m t)=pure false from rfl) ?_);exact wpAny_pure ⟨rfl,rfl,fun u hu=>hall u (.tail _ hu)⟩
 ·rintro ⟨r1,r2⟩ s' ⟨hr,rfl,_⟩
  simp only at hr;subst hr;exact wpAny_pure h
theorem Py {ks:List Int} {a:Addr} {Q:Bool->Shared->Prop} (hk:(lY prog w).is s.heap ks a) (l:List Value) (hl:∀v∈l,∃b js,v = .ref b/\(lY prog w).is s.heap js b) (h:Q false s):wpAny (model prog w) A (searchCouldBeSeen (.ref a) l) Q E s:=by
 unfold searchCouldBeSeen;refine wpAny_bind ?_;refine wpAny_forIn_list _ (fun rest r s'=>r.1=none/\s'=s /\ ∀v∈rest,∃b js,v = .ref b/\(lY prog w).is s.heap js b) _ ?_ ?_ _ _ ⟨rfl,rfl,hl⟩
 ·rintro v rest r s' ⟨hr,rfl,hall⟩
  obtain ⟨b,js,rfl,hb⟩:=hall v (.head _);dsimp only;split
  ·exact wpAny_pure ⟨rfl,rfl,fun u hu=>hall u (.tail _ hu)⟩
  ·refine wpAny_bind ((lY prog w).quiet hk ?_)
   simp only [Bool.not_true,Bool.false_eq_true,if_false];refine wpAny_bind ((lY prog w).quiet hb ?_);simp only [Bool.not_true,Bool.false_eq_true,if_false];refine wpAny_bind (yI hk ?_);simp only [Bool.false_eq_true,if_false];refine wpAny_bind (yI hb ?_);simp only [Bool.false_eq_true,if_false];exact wpAny_pure ⟨rfl,rfl,fun u hu=>hall u (.tail _ hu)⟩
 ·rintro ⟨r1,r2⟩ s' ⟨hr,rfl,_⟩
  simp only at hr;subst hr;exact wpAny_pure h
def xr (mask n:Nat):Prop:=(mask=7/\n<=4)\/(mask=31/\n<=18)\/(mask=127/\n<=76)\/(mask=511/\n<=306)\/(mask=2047/\n<=1228)\/(mask=8191/\n<=4914)
structure TabOk (t:SetTable) (n:Nat):Prop where
 dm:t.dummies = #[]
 pl:t.place.size=n
 sz:xr t.mask n
 plain:t.plain=true
 ris:t.place.toList.Pairwise (· < ·)
theorem xr.pow {mask n:Nat} (h:xr mask n):(∃k,mask+1=2 ^ k)/\n<=mask/\mask<=8191/\mask % 2=1:=by
 rcases h with ⟨rfl,h⟩|⟨rfl,h⟩|⟨rfl,h⟩|⟨rfl,h⟩|⟨rfl,h⟩|⟨rfl,h⟩
 ·exact ⟨⟨3,by decide⟩,by omega,by omega,by decide⟩
 ·exact ⟨⟨5,by decide⟩,by omega,by omega,by decide⟩
 ·exact ⟨⟨7,by decide⟩,by omega,by omega,by decide⟩
 ·exact ⟨⟨9,by decide⟩,by omega,by omega,by decide⟩
 ·exact ⟨⟨11,by decide⟩,by omega,by omega,by decide⟩
 ·exact ⟨⟨13,by decide⟩,by omega,by omega,by decide⟩
theorem TabOk.fits {t:SetTable} {n:Nat} (h:TabOk t n):t.fits n=true:=by
 unfold SetTable.fits SetTable.fill;rw [h.dm,h.pl];have:=h.sz.pow.2.1;simp;omega
abbrev EK:=List Int×Addr
def Tg (prog:Program) (w:World) (x:EK):Int×Value:=((lY prog w).hash x.1,.ref x.2)
structure pJ (prog:Program) (w:World) (h:Heap) (a:Addr) (o:Obj) (es:Array (Int×Value)) (ep:Nat) (t:SetTable) (xs:List EK):Prop where
 at_:h.get? a=some o
 ex:o.ExactSet
 dat:o.data = .set es ep t
 els:es.toList=xs.map (Tg prog w)
 is_:∀x∈xs,(lY prog w).is h x.1 x.2
 tab:TabOk t es.size
def Xf (t:SetTable) (d:Nat) (met:SetTable.Met):Prop:=(∃j,met = .empty j none/\t.slot j = .empty) \/ ∃j i q d',met = .candidate j i q/\d'<d/\zX t d' q/\q.dummy=none/\t.slot j = .live i
theorem Am {t:SetTable} {d:Nat} {h:Int} {p:SetTable.Probe} (hd:t.dummies = #[]) (r:zX t d p) (le:d<=10*(t.mask+14)) (nd:p.dummy=none) {f:Nat->Int} (e:∀met,t.probe f h p=some met->False):False:=by
 obtain ⟨met,g1,_⟩:=JH hd f h (10*SetTable.turns t.mask) d p r (by unfold SetTable.turns;omega) nd;exact e met g1
theorem Al {t:SetTable} {d:Nat} {h:Int} {p:SetTable.Probe} (hd:t.dummies = #[]) (r:zX t d p) (le:d<=10*(t.mask+14)) (nd:p.dummy=none) {f:Nat->Int} {met:SetTable.Met} (e:t.probe f h p=some met):Xf t d met:=by
 obtain ⟨met',g1,g2⟩:=JH hd f h (10*SetTable.turns t.mask) d p r (by unfold SetTable.turns;omega) nd;unfold SetTable.probe at e;rw [g1] at e;cases e;exact g2
theorem Ek {a:Addr} {o:Obj} {es:Array (Int×Value)} {ep:Nat} {t:SetTable} {xs:List EK} {k:List Int} {x:Addr} {Q:SetFound->Shared->Prop} (hr:(lY prog w).room A) (S:pJ prog w s.heap a o es ep t xs) (hk:(lY prog w).is s.heap k x)
 (h1:∀j,t.slot j = .empty->Q (.free j false) s) (h2:(∃y∈xs,y.1=k)->Q (.there none) s):∀(fuel d:Nat) (stand:Option SetTable.Probe),zX t d (stand.getD (t.probeStart ((lY prog w).hash k)))->(stand.getD (t.probeStart ((lY prog w).hash k))).dummy=none->d<fuel->d<=10*(t.mask+14) ->
 wpAny (model prog w) A (setSearchFrom a (.ref x) ((lY prog w).hash k) true fuel stand) Q E s:=by
 intro fuel
 induction fuel with
 | zero=>intro d stand _ _ lt;exact absurd lt (Nat.not_lt_zero _)
 | succ fuel ih=>
   intro d stand r nd lt le;unfold setSearchFrom;refine wpAny_bind (wpAny_setState_of S.at_ S.dat S.tab.fits ?_);dsimp only
   have gw:t.gaveWay=false:=by
    unfold SetTable.gaveWay;rw [S.tab.sz.pow.2.2.2];rfl
   rw [gw];simp only [Bool.false_eq_true,if_false];split
   rotate_left
   ·rename_i e
    exact (Am S.tab.dm r le nd e).elim
   rename_i met e;have g2:=Al S.tab.dm r le nd e;rcases g2 with ⟨j,rfl,ej⟩|⟨j,i,q,d',rfl,aiu,r',nd',ej⟩
   ·exact wpAny_pure (h1 j ej)
   ·have pl:=uK ej
    have il:i<es.size:=by rw [←S.tab.pl];exact (Array.getElem?_eq_some_iff.mp pl).1
    obtain ⟨y,hy,ey⟩:∃y∈xs,es[i]? = some ((lY prog w).hash y.1,Value.ref y.2):=by
     have el:xs.length=es.size:=by rw [←Array.length_toList,S.els,List.length_map]
     have hx:xs[i]? = some (xs[i]'(by omega)):=by simp [show i<xs.length by omega]
     refine ⟨_,List.mem_of_getElem? hx, ?_⟩;rw [←Array.getElem?_toList,S.els,List.getElem?_map,hx];rfl
    have sm:t.sameMemory t.moves t.mask=some true:=by unfold SetTable.sameMemory;simp
    have seen:∀v∈((es.filter (·.1==(lY prog w).hash k)).toList.map (·.2)),∃b js,v=Value.ref b/\(lY prog w).is s.heap js b:=fun v hv=>by
     obtain ⟨e,he,rfl⟩:=List.mem_map.mp hv
     have he:e∈es.toList:=by
      rw [Array.toList_filter] at he;exact (List.mem_filter.mp he).1
     rw [S.els] at he;obtain ⟨z,hz,rfl⟩:=List.mem_map.mp he;exact ⟨z.2,z.1,rfl,S.is_ z hz⟩
    dsimp only;split
    ·refine wpAny_bind (Py hk _ seen ?_)
     simp only [Bool.false_eq_true,if_false];rw [ey];dsimp only;refine wpAny_bind (wpAny_holding ((lY prog w).eqBool hr (S.is_ y hy) hk ?_));refine wpAny_bind (wpAny_setState_of S.at_ S.dat S.tab.fits ?_)
     by_cases q1:y.1=k
     ·rw [decide_eq_true q1]
      exact wpAny_pure (h2 ⟨y,hy,q1⟩)
     ·rw [decide_eq_false q1]
      dsimp only;rw [sm];simp only [Bool.and_false,Bool.false_eq_true,if_false,if_true,ej,ey];refine wpAny_bind (wpAny_isSame_ref_self ?_);refine wpAny_bind (wpAny_pure ?_);exact ih d' (some q) r' nd' (by omega) (by omega)
    ·rw [ey]
     dsimp only;refine wpAny_bind (wpAny_holding ((lY prog w).eqBool hr (S.is_ y hy) hk ?_));refine wpAny_bind (wpAny_setState_of S.at_ S.dat S.tab.fits ?_)
     by_cases q1:y.1=k
     ·rw [decide_eq_true q1]
      exact wpAny_pure (h2 ⟨y,hy,q1⟩)
     ·rw [decide_eq_false q1]
      dsimp only;rw [sm];simp only [Bool.and_false,Bool.false_eq_true,if_false,if_true,ej,ey];refine wpAny_bind (wpAny_isSame_ref_self ?_);refine wpAny_bind (wpAny_pure ?_);exact ih d' (some q) r' nd' (by omega) (by omega)
end
end L2
set_option Elab.async false
set_option linter.all false
set_option maxRecDepth 100000
set_option maxHeartbeats 1000000
namespace L2
open PySem PySem.Spec PyProof.Rows
section
variable {prog:Program} {w:World} {A:Around} {E:Value->Shared->Prop} {s:Shared}
theorem Lb {mask n:Nat} (h:xr mask n) (hn:n+1<=4914):((n+1)*5<mask*3/\xr mask (n+1))\/(mask*3<=(n+1)*5/\xr (SetTable.sizeAbove (SetTable.grown (n+1)) - 1) (n+1)/\SetTable.sizeAbove (SetTable.grown (n+1))<=8192):=by
 have full:∀m,m=5\/m=19\/m=77\/m=307\/m=1229->xr (SetTable.sizeAbove (SetTable.grown m) - 1) m/\SetTable.sizeAbove (SetTable.grown m)<=8192:=by
  rintro m (rfl|rfl|rfl|rfl|rfl)
  ·exact ⟨.inr (.inl ⟨by decide,by decide⟩),by decide⟩
  ·exact ⟨.inr (.inr (.inl ⟨by decide,by decide⟩)),by decide⟩
  ·exact ⟨.inr (.inr (.inr (.inl ⟨by decide,by decide⟩))),by decide⟩
  ·exact ⟨.inr (.inr (.inr (.inr (.inl ⟨by decide,by decide⟩)))),by decide⟩
  ·exact ⟨.inr (.inr (.inr (.inr (.inr ⟨by decide,by decide⟩)))),by decide⟩
 rcases h with ⟨rfl,h⟩|⟨rfl,h⟩|⟨rfl,h⟩|⟨rfl,h⟩|⟨rfl,h⟩|⟨rfl,h⟩
 ·by_cases q:n+1<=4
  ·exact .inl ⟨by omega,.inl ⟨rfl,q⟩⟩
  ·exact .inr ⟨by omega,full _ (by omega)⟩
 ·by_cases q:n+1<=18
  ·exact .inl ⟨by omega,.inr (.inl ⟨rfl,q⟩)⟩
  ·exact .inr ⟨by omega,full _ (by omega)⟩
 ·by_cases q:n+1<=76
  ·exact .inl ⟨by omega,.inr (.inr (.inl ⟨rfl,q⟩))⟩
  ·exact .inr ⟨by omega,full _ (by omega)⟩
 ·by_cases q:n+1<=306
  ·exact .inl ⟨by omega,.inr (.inr (.inr (.inl ⟨rfl,q⟩)))⟩
  ·exact .inr ⟨by omega,full _ (by omega)⟩
 ·by_cases q:n+1<=1228
  ·exact .inl ⟨by omega,.inr (.inr (.inr (.inr (.inl ⟨rfl,q⟩))))⟩
  ·exact .inr ⟨by omega,full _ (by omega)⟩
 ·exact .inl ⟨by omega,.inr (.inr (.inr (.inr (.inr ⟨rfl,hn⟩))))⟩
theorem Jx {h h':Heap} {k:List Int} {x a:Addr} {o:Obj} {es:Array (Int×Value)} {ep:Nat} {t:SetTable} (hk:(lY prog w).is h k x) (ho:h.get? a=some o) (hd:o.data = .set es ep t) (hs:Heap.SameBut a h h'):(lY prog w).is h' k x:=by
 obtain ⟨o',items,n,ho',hc,hd',hi⟩:=hk
 have hne:x≠a:=by
  rintro rfl;obtain rfl:o'=o:=Option.some.inj (ho'.symm.trans ho);rw [hd] at hd';exact nomatch hd'
 exact ⟨o',items,n,(hs.2 x hne).trans ho',hc,hd',hi⟩
theorem Cr {h:Heap} {a:Addr} {o:Obj} {es es':Array (Int×Value)} {ep:Nat} {t t':SetTable} (ho:h.get? a=some o) (hex:o.ExactSet) (hd:o.data = .set es ep t):
 (h.update a (Obj.putSet es' t')).get? a=some {o with data:= .set es' (ep+1) t'}:=by
 have:=Heap.get?_update_self (Obj.putSet es' t') ho (by rw [putSet_of es' t' hd];rfl);rw [putSet_of es' t' hd] at this;exact this
theorem Ls {t:SetTable} (hd:t.dummies = #[]) (j:Nat):t.put j=({t with place:=SetTable.insertAt t.place (SetTable.below t.place j) j},SetTable.below t.place j):=by
 unfold SetTable.put;rw [hd];have:SetTable.has #[] j=false:=rfl;rw [this];obtain ⟨m,p,d,f,l,mo,pl⟩:=t;simp only at hd;subst hd;rfl
theorem zj {α:Type} (xs:Array α) (p:Nat) (x:α):(SetTable.insertAt xs p x).size=xs.size+1:=by
 rw [←Array.length_toList,(SetTable.insertAt_perm xs p x).length_eq,Array.length_toList,Array.size_push]
theorem Hw {a:Addr} {o:Obj} {es:Array (Int×Value)} {ep wanted:Nat} {t:SetTable} {xs:List EK} {Q:Unit->Shared->Prop} (ho:s.heap.get? a=some o) (hex:o.ExactSet) (hd:o.data = .set es ep t) (hf:t.fits es.size=true) (he:es.toList=xs.map (Tg prog w))
 (sz:xr (SetTable.sizeAbove wanted - 1) es.size) (le:SetTable.sizeAbove wanted<=8192)
 (h:∀(es':Array (Int×Value)) (t':SetTable) (xs':List EK),es'.toList=xs'.map (Tg prog w)->xs'.Perm xs->t'.dummies = #[]->t'.place.size=es'.size->xr t'.mask es'.size->t'.plain=t.plain->t'.led=t.led->t'.place.toList.Pairwise (· < ·)->Q () {s with heap:=s.heap.update a (Obj.putSet es' t')}):
 wpAny (model prog w) A (setRelay a wanted) Q E s:=by
 unfold setRelay;refine wpAny_bind (wpAny_setState_of ho hd hf ?_);dsimp only;rw [if_neg (by rw [sizeLine_eq];omega)];obtain ⟨⟨k,hm⟩,nle,mle,_⟩:=sz.pow;obtain ⟨t',order,l1,l2,l3,l4,l5,l6,l7,l8⟩:=Mw (finger:=t.finger) (moves:=t.movedTo (SetTable.sizeAbove wanted - 1)) (led:=t.led) (plain:=t.plain) hm (es.map (·.1)) (by rw [Array.size_map];exact nle);rw [Array.size_map] at l4 l8;have e1:t.relaid (es.map (·.1)) wanted=some (t',order):=l1;have el:xs.length=es.size:=by rw [←Array.length_toList,he,List.length_map]
 have p1:(order.filterMap (es[·]?)).toList=(order.toList.filterMap fun i=>xs[i]?).map (Tg prog w):=by
  rw [Array.toList_filterMap,List.map_filterMap];congr 1;funext i;rw [←Array.getElem?_toList,he,List.getElem?_map]
 have p2:(order.toList.filterMap fun i=>xs[i]?).Perm xs:=by
  have:=l8.filterMap fun i=>xs[i]?;rw [←el] at this;exact this.trans (by rw [List.filterMap_getElem?_range_length])
 have jo:(order.filterMap (es[·]?)).size=es.size:=by rw [←Array.length_toList,p1,List.length_map,p2.length_eq,el]
 show wpAny (model prog w) A ((do
  let some (t,order):=t.relaid (es.map (·.1)) wanted|unsupported "internal:set-table-without-room"
  let es':=order.filterMap (es[·]?)
  if es'.size != es.size then unsupported "internal:set-table-lost-an-element"
  pure (es',t):Sem (Array (Int×Value)×SetTable)) >>= fun x=>storeSet a x.1 x.2) Q E s
 rw [e1];dsimp only;rw [if_neg (by rw [jo];simp)];refine wpAny_bind (wpAny_pure ?_);refine wpAny_storeSet_of ho hd ?_ (by rw [sizeLine_eq,jo];omega);exact h _ _ _ p1 p2 l3 (by rw [jo];exact l4) (by rw [jo,l2];exact sz) l6 l5 l7
theorem tV {xs:Array Nat} {j:Nat} (hp:xs.toList.Pairwise (· < ·)):∀(fuel lo hi:Nat),hi<=xs.size->lo<=hi->hi - lo<=fuel->(∀(i v:Nat),i<lo->xs[i]? = some v->v<j)->(∀(i v:Nat),hi<=i->xs[i]? = some v->j<=v) ->
 SetTable.below.go xs j fuel lo hi<=xs.size/\(∀(i v:Nat),i<SetTable.below.go xs j fuel lo hi->xs[i]? = some v->v<j) /\ ∀(i v:Nat),SetTable.below.go xs j fuel lo hi<=i->xs[i]? = some v->j<=v
 | 0,lo,hi,h1,h2,h3,h4,h5=>by
   unfold SetTable.below.go;have:lo=hi:=by omega
   subst this;exact ⟨h1,h4,h5⟩
 | fuel+1,lo,hi,h1,h2,h3,h4,h5=>by
   have mono:∀(a b u v:Nat),a<=b->xs[a]? = some u->xs[b]? = some v->u<=v:=fun a b u v ab ea eb=>by
    rcases Nat.eq_or_lt_of_le ab with e|lt
    ·subst e
     rw [ea] at eb;cases eb;exact Nat.le_refl _
    ·rw [←Array.getElem?_toList] at ea eb
     obtain ⟨l1,q1⟩:=List.getElem?_eq_some_iff.mp ea;obtain ⟨l2,q2⟩:=List.getElem?_eq_some_iff.mp eb;have:=List.pairwise_iff_getElem.mp hp a b l1 l2 lt;rw [q1,q2] at this;exact Nat.le_of_lt this
   unfold SetTable.below.go;split
   ·rename_i lt
    dsimp only;have ml:(lo+hi) / 2<xs.size:=by omega
    have em:xs[(lo+hi) / 2]? = some xs[(lo+hi) / 2]:=by simp [ml]
    have eg:xs.getD ((lo+hi) / 2) j=xs[(lo+hi) / 2]:=by rw [Array.getD_eq_getD_getElem?,em];rfl
    rw [eg];split
    ·rename_i q
     exact tV hp fuel _ hi h1 (by omega) (by omega) (fun i v hi' e=>Nat.lt_of_le_of_lt (mono _ _ _ _ (by omega) e em) q) h5
    ·rename_i q
     exact tV hp fuel lo _ (by omega) (by omega) (by omega) h4 (fun i v hi' e=>Nat.le_trans (by omega) (mono _ _ _ _ hi' em e))
   ·have:lo=hi:=by omega
    subst this;exact ⟨h1,h4,h5⟩
theorem Ko {xs:Array Nat} {j:Nat} (hp:xs.toList.Pairwise (· < ·)):SetTable.below xs j<=xs.size/\(∀(i v:Nat),i<SetTable.below xs j->xs[i]? = some v->v<j) /\ ∀(i v:Nat),SetTable.below xs j<=i->xs[i]? = some v->j<=v:=by
 unfold SetTable.below;refine tV hp xs.size 0 xs.size (Nat.le_refl _) (Nat.zero_le _) (by omega) (fun i v h=>absurd h (Nat.not_lt_zero _)) (fun i v h e=> ?_);have:=(Array.getElem?_eq_some_iff.mp e).1;omega
theorem MK {t:SetTable} {j:Nat} (hd:t.dummies = #[]) (hp:t.place.toList.Pairwise (· < ·)) (e:t.slot j = .empty):(SetTable.insertAt t.place (SetTable.below t.place j) j).toList.Pairwise (· < ·):=by
 obtain ⟨b1,b2,b3⟩:=Ko (j:=j) hp
 have nj:∀i:Nat,t.place[i]? ≠ some j:=fun i q=>by
  have l1:i=SetTable.below t.place j:=by
   refine Classical.byContradiction fun ne=> ?_;rcases Nat.lt_or_gt_of_ne ne with lt|gt
   ·exact Nat.lt_irrefl _ (b2 i j lt q)
   ·have il:=(Array.getElem?_eq_some_iff.mp q).1
    have bl:SetTable.below t.place j<t.place.size:=by omega
    have eb:t.place[SetTable.below t.place j]? = some t.place[SetTable.below t.place j]:=by simp [bl]
    have r:=b3 _ _ (Nat.le_refl _) eb;rw [←Array.getElem?_toList] at q eb;obtain ⟨k1,q1⟩:=List.getElem?_eq_some_iff.mp q;obtain ⟨k2,q2⟩:=List.getElem?_eq_some_iff.mp eb;have:=List.pairwise_iff_getElem.mp hp _ i k2 k1 gt;rw [q1,q2] at this;omega
  rw [l1] at q;unfold SetTable.slot at e;dsimp only at e;rw [if_pos (by rw [q];simp)] at e;cases e
 rw [SetTable.toList_insertAt]
 have tk:∀x∈t.place.toList.take (SetTable.below t.place j),x<j:=fun x hx=>by
  obtain ⟨i,hi⟩:=List.getElem?_of_mem hx
  have il:i<SetTable.below t.place j:=by
   have:=(List.getElem?_eq_some_iff.mp hi).1;rw [List.length_take] at this;omega
  rw [List.getElem?_take_of_lt il,Array.getElem?_toList] at hi;exact b2 i x il hi
 have dr:∀x∈t.place.toList.drop (SetTable.below t.place j),j<x:=fun x hx=>by
  obtain ⟨i,hi⟩:=List.getElem?_of_mem hx;rw [List.getElem?_drop,Array.getElem?_toList] at hi;have:=b3 _ x (Nat.le_add_right _ i) hi;rcases Nat.eq_or_lt_of_le this with z|z
  ·subst z;exact absurd hi (nj _)
  ·exact z
 have hp':=hp;rw [←List.take_append_drop (SetTable.below t.place j) t.place.toList] at hp';obtain ⟨p1,p2,p3⟩:=List.pairwise_append.mp hp';refine List.pairwise_append.mpr ⟨p1,List.pairwise_cons.mpr ⟨dr,p2⟩,fun x hx y hy=> ?_⟩;rcases List.mem_cons.mp hy with rfl|hy
 ·exact tk x hx
 ·exact p3 x hx y hy
end
end L2
set_option Elab.async false
set_option linter.all false
set_option maxRecDepth 100000
set_option maxHeartbeats 1000000
namespace L2
open PySem PySem.Spec PyProof.Rows
section
variable {prog:Program} {w:World} {A:Around} {E:Value->Shared->Prop} {s:Shared}
theorem pJ.len {h:Heap} {a:Addr} {o:Obj} {es:Array (Int×Value)} {ep:Nat} {t:SetTable} {xs:List EK} (S:pJ prog w h a o es ep t xs):es.size=xs.length:=by rw [←Array.length_toList,S.els,List.length_map]
theorem Sg {a:Addr} {o:Obj} {es:Array (Int×Value)} {ep:Nat} {t:SetTable} {xs:List EK} {k:List Int} {x:Addr} {Q:Bool->Shared->Prop} (hr:(lY prog w).room A) (S:pJ prog w s.heap a o es ep t xs) (hk:(lY prog w).is s.heap k x) (hn:xs.length+1<=4914)
 (h1:(∃y∈xs,y.1=k)->Q false s)
 (h2:∀(h':Heap) (o':Obj) (es':Array (Int×Value)) (ep':Nat) (t':SetTable) (xs':List EK),Heap.SameBut a s.heap h'->pJ prog w h' a o' es' ep' t' xs'->xs'.Perm (xs++[(k,x)])->t'.led=t.led->Q true {s with heap:=h'}):
 wpAny (model prog w) A (setAddHashed a (.ref x) ((lY prog w).hash k)) Q E s:=by
 have sl:=S.len;unfold setAddHashed;refine wpAny_holding ?_;unfold setAddHashedIn;refine wpAny_bind (wpAny_setState_of S.at_ S.dat S.tab.fits ?_);dsimp only;rw [show byScan (Value.ref x) es=false from rfl];simp only [Bool.false_eq_true,if_false];obtain ⟨⟨k2,hm⟩,nle,mle,_⟩:=S.tab.sz.pow;obtain ⟨r0,d0⟩:=Et hm S.tab.dm (by rw [S.tab.pl];exact nle) ((lY prog w).hash k);unfold setSearch;refine wpAny_bind (Ek (Q:=fun r s'=>wpAny (model prog w) A (match r with | .free slot wasDummy=>_|_=>_) Q E s') hr S hk (fun j ej=> ?_) (fun hy=> ?_) 100000 (10*(t.mask+14)) none r0 d0 (by omega) (Nat.le_refl _))
 rotate_left
 ·exact wpAny_pure (h1 hy)
 dsimp only;refine wpAny_bind (wpAny_setState_of S.at_ S.dat S.tab.fits ?_);dsimp only;rw [Ls S.tab.dm j];dsimp only;rw [S.tab.plain];simp only [if_true];refine wpAny_bind (Kc hk ?_);simp only [if_true];have pz:(SetTable.insertAt t.place (SetTable.below t.place j) j).size=es.size+1:=by rw [zj,S.tab.pl]
 have ez:=zj es (SetTable.below t.place j) ((lY prog w).hash k,Value.ref x)
 have el:(SetTable.insertAt es (SetTable.below t.place j) ((lY prog w).hash k,Value.ref x)).toList=(xs.take (SetTable.below t.place j)++(k,x)::xs.drop (SetTable.below t.place j)).map (Tg prog w):=by
  rw [SetTable.toList_insertAt,S.els,List.map_append,List.map_cons,List.map_take,List.map_drop];rfl
 have pm:(xs.take (SetTable.below t.place j)++(k,x)::xs.drop (SetTable.below t.place j)).Perm (xs++[(k,x)]):=by
  refine (List.perm_middle).trans ?_;rw [List.take_append_drop];exact (List.perm_append_singleton _ _).symm
 have rs:=MK S.tab.dm S.tab.ris ej;generalize hes:SetTable.insertAt es (SetTable.below t.place j) ((lY prog w).hash k,Value.ref x)=es1 at ez el ⊢;generalize hxs:xs.take (SetTable.below t.place j)++(k,x)::xs.drop (SetTable.below t.place j)=xs1 at el pm;generalize hpl:SetTable.insertAt t.place (SetTable.below t.place j) j=nH at pz rs ⊢;have ho1:=Cr (es':=es1) (t':={t with place:=nH,plain:=true}) S.at_ S.ex S.dat
 have Zz:=Heap.SameBut.update s.heap a (Obj.putSet es1 {t with place:=nH,plain:=true})
 have is1:∀{h':Heap},Heap.SameBut a s.heap h' -> ∀{ys:List EK},ys.Perm (xs++[(k,x)]) -> ∀y∈ys,(lY prog w).is h' y.1 y.2:=fun {h'} sb {ys} p y hy=>by
  rcases List.mem_append.mp (p.mem_iff.mp hy) with q|q
  ·exact Jx (S.is_ y q) S.at_ S.dat sb
  ·rw [List.mem_singleton.mp q];exact Jx hk S.at_ S.dat sb
 refine wpAny_bind (wpAny_storeSet_of S.at_ S.dat ?_ (by rw [sizeLine_eq,ez];omega))
 have fl:SetTable.fill {t with place:=nH,plain:=true}=es.size+1:=by
  unfold SetTable.fill;show nH.size+t.dummies.size=_;rw [pz,S.tab.dm];rfl
 rcases Lb S.tab.sz (by omega) with ⟨lt,sz⟩|⟨ge,sz,le⟩
 ·have tf:SetTable.tooFull {t with place:=nH,plain:=true}=false:=by
   unfold SetTable.tooFull;rw [fl];exact decide_eq_false (by show ¬_≥t.mask*3;omega)
  rw [tf];simp only [Bool.and_false,Bool.false_eq_true,if_false];exact wpAny_pure (h2 _ _ _ _ _ _ Zz ⟨ho1,S.ex,rfl,el,is1 Zz pm,⟨S.tab.dm,by rw [ez];exact pz,by rw [ez];exact sz,rfl,rs⟩⟩ pm rfl)
 ·have tf:SetTable.tooFull {t with place:=nH,plain:=true}=true:=by
   unfold SetTable.tooFull;rw [fl];exact decide_eq_true (by show _≥t.mask*3;omega)
  rw [tf];simp only [Bool.not_false,Bool.and_self,if_true];refine wpAny_bind (Hw (s:={s with heap:=s.heap.update a (Obj.putSet es1 {t with place:=nH,plain:=true})}) ho1 S.ex rfl ?_ el (by rw [ez];exact sz) le (fun es' t' xs' q1 q2 q3 q4 q5 q6 q7 q8=> ?_))
  ·unfold SetTable.fits
   rw [fl,ez];show (nH.size==es.size+1&&decide (es.size+1<=t.mask))=true;rw [pz]
   have:es.size+1<=t.mask:=by
    rcases S.tab.sz with ⟨e,_⟩|⟨e,_⟩|⟨e,_⟩|⟨e,_⟩|⟨e,_⟩|⟨e,_⟩<;>omega
   simp [this]
  ·have sb2:=Heap.SameBut.update (s.heap.update a (Obj.putSet es1 {t with place:=nH,plain:=true})) a (Obj.putSet es' t')
   have ho2:=Cr (es':=es') (t':=t') ho1 S.ex rfl;have sb:=Zz.trans sb2;have Xz:=q2.trans pm;exact wpAny_pure (h2 _ _ _ _ _ _ sb ⟨ho2,S.ex,rfl,q1,is1 sb Xz,⟨q3,q4,q5,q6,q8⟩⟩ Xz q7)
end
end L2
set_option Elab.async false
set_option linter.all false
set_option maxRecDepth 100000
set_option maxHeartbeats 1000000
namespace L2
open PySem PySem.Spec PyProof.Rows
def ji (xs l:List EK):Prop:=(∀x∈xs,x∈l)/\(∀y∈l,∃x∈xs,x.1=y.1)/\((l.map (·.1)).Nodup->xs.Perm l)/\xs.length<=l.length
theorem ji.nil:ji [] []:=⟨fun _ h=>h,fun _ h=>(by cases h),fun _=> .refl _,Nat.le_refl _⟩
theorem ji.there {xs l:List EK} {k:List Int} {a:Addr} (h:ji xs l) (q:∃y∈xs,y.1=k):ji xs (l++[(k,a)]):=by
 obtain ⟨h1,h2,h3,h4⟩:=h;obtain ⟨y,hy,ey⟩:=q;refine ⟨fun x hx=>List.mem_append_left _ (h1 x hx),fun z hz=> ?_,fun nd=> ?_,by rw [List.length_append];omega⟩
 ·rcases List.mem_append.mp hz with q|q
  ·exact h2 z q
  ·rw [List.mem_singleton.mp q];exact ⟨y,hy,ey⟩
 ·rw [List.map_append] at nd
  exact absurd ey ((List.nodup_append.mp nd).2.2 y.1 (List.mem_map.mpr ⟨y,h1 y hy,rfl⟩) k (by simp))
theorem ji.laid {xs xs' l:List EK} {k:List Int} {a:Addr} (h:ji xs l) (p:xs'.Perm (xs++[(k,a)])):ji xs' (l++[(k,a)]):=by
 obtain ⟨h1,h2,h3,h4⟩:=h;refine ⟨fun x hx=> ?_,fun z hz=> ?_,fun nd=> ?_,by rw [p.length_eq,List.length_append,List.length_append];simp only [List.length_singleton];omega⟩
 ·rcases List.mem_append.mp (p.mem_iff.mp hx) with q|q
  ·exact List.mem_append_left _ (h1 x q)
  ·exact List.mem_append_right _ q
 ·rcases List.mem_append.mp hz with q|q
  ·obtain ⟨x,hx,e⟩:=h2 z q
   exact ⟨x,p.mem_iff.mpr (List.mem_append_left _ hx),e⟩
  ·exact ⟨z,p.mem_iff.mpr (List.mem_append_right _ q),rfl⟩
 ·rw [List.map_append] at nd
  exact p.trans ((h3 (List.nodup_append.mp nd).1).append_right _)
theorem fX:plainId "set.update.loop" = true:=by decide +kernel
section
variable {prog:Program} {w:World} {A:Around} {E:Value->Shared->Prop} {s:Shared}
theorem yX:∀{vs:List Value} {ns:List Int},IntsAre vs ns->ItemsAre (intKind prog w) ns vs
 | _,_,.nil=> .nil
 | _,_,.cons n t h=> .cons (intKind_is _ _ _ _) (yX h)
theorem Di {H:Hp} {h:Heap} {ks:List Int} {a:Addr} (ok:j_ prog w H h) (e:H a=some (.tup (ks.map V.int))):(lY prog w).is h ks a:=by
 obtain ⟨_,its,r,o,ho,hc,n,hd⟩:=ok _ _ e;exact ⟨o,its.toArray,n,ho,hc,hd,yX (lN r)⟩
theorem Ht {H:Hp} {h0:Heap} {d it p:Addr} {its:List Value} {as:List EK} {led:Bool} {R:Result->Shared->Prop} (hu:A.in1.units<cLine)
 (W:Walks prog w A.in1 it [it,p] [it] its.length (fun i v=>its[i]? = some v) (fun i h=>h.IsListIter it p i/\h.IsList p its.toArray))
 (ok:j_ prog w H h0) (ei:its=as.map fun x=>Value.ref x.2) (hk:∀x∈as,H x.2=some (.tup (x.1.map V.int))) (hd:h0.get? d=none) (hi0:h0.get? it=none) (hp:∃o,h0.get? p=some o) (ndi:d≠it) (hz:as.length<=4914):
 ∀(m i:Nat) (s:Shared) (o:Obj) (es:Array (Int×Value)) (ep:Nat) (t:SetTable) (xs:List EK),its.length - i=m->i<=its.length->(s.heap.IsListIter it p i/\s.heap.IsList p its.toArray)->(∀b o,h0.get? b=some o->s.heap.get? b=some o) ->
  pJ prog w s.heap d o es ep t xs->ji xs (as.take i)->t.led=led ->
  (∀h' tk o' es' ep' t' xs',(∀b o,h0.get? b=some o->h'.get? b=some o)->pJ prog w h' d o' es' ep' t' xs'->ji xs' as->t'.led=led->R (.ok (.ret .none)) {s with heap:=h',toks:=tk}) ->
  codeAny (model prog w) A (.builtin "set.update.loop" ⟨[.ref d,.ref it],[]⟩) R s:=by
 have lens:its.length=as.length:=by rw [ei,List.length_map]
 have dp:d≠p:=fun z=>by obtain ⟨o,ho⟩:=hp;rw [←z,hd] at ho;cases ho
 have moved:∀{h h':Heap} {o:Obj} {es:Array (Int×Value)} {ep:Nat} {t:SetTable} {xs:List EK} {n:Nat},(∀b o,b≠it->h.get? b=some o->h'.get? b=some o)->(∀b o,h0.get? b=some o->h.get? b=some o)->pJ prog w h d o es ep t xs->ji xs (as.take n) ->
  (∀b o,h0.get? b=some o->h'.get? b=some o)/\pJ prog w h' d o es ep t xs:=fun {h h' o es ep t xs n} k k0 S fl=>by
  have k1:∀b o,h0.get? b=some o->h'.get? b=some o:=fun b o e=>k b o (fun z=>by rw [z,hi0] at e;cases e) (k0 b o e);exact ⟨k1,k d o ndi S.at_,S.ex,S.dat,S.els,fun x hx=>Di (ok.kept k1) (hk x (List.mem_of_mem_take (fl.1 x hx))),S.tab⟩
 intro m
 induction m with
 | zero=>
   intro i s o es ep t xs hm hi st k0 S fl el hR;have hin:i=its.length:=by omega
   subst hin;refine codeAny_builtin F.entry_set_update_loop ?_;rw [Around.under_plainId fX _];show wpAny _ A.in1 (pyNext (.ref it) >>= _) _ _ s;refine wpAny_bind (W.done s _ _ st fun h' tk k=> ?_);obtain ⟨k1,S1⟩:=moved (h:=s.heap) (h':=h') (fun b o nb e=>k b o (by simpa using nb) e) k0 S fl;show wpAny _ A.in1 (ret Value.none) _ _ _;rw [lens,List.take_length] at fl;exact wpAny_pure (hR h' tk o es ep t xs k1 S1 fl el)
 | succ m ih=>
   intro i s o es ep t xs hm hi st k0 S fl el hR;have hlt:i<its.length:=by omega
   refine codeAny_builtin F.entry_set_update_loop ?_;rw [Around.under_plainId fX _];show wpAny _ A.in1 (pyNext (.ref it) >>= _) _ _ s;refine wpAny_bind (W.item i s _ _ hlt st fun v h1 tk hP st1 k=> ?_);obtain ⟨k1,S1⟩:=moved (h:=s.heap) (h':=h1) (fun b o nb e=>k b o (by simpa using nb) e) k0 S fl;have ha1:i<as.length:=by omega
   have ea:as[i]? = some as[i]:=by simp [ha1]
   have ev:v=Value.ref as[i].2:=by
    have hP:its[i]? = some v:=hP;rw [ei,List.getElem?_map,ea] at hP;exact (Option.some.inj hP).symm
   subst ev;have hka:=Di (ok.kept k1) (hk as[i] (List.getElem_mem ha1))
   have tk1:as.take (i+1)=as.take i++[(as[i].1,as[i].2)]:=by
    rw [List.take_succ,ea];rfl
   show wpAny _ A.in1 (holding [Value.ref as[i].2] (setAdd d (.ref as[i].2)) >>= _) _ _ _;refine wpAny_bind (wpAny_holding ?_);unfold setAdd;refine wpAny_holding (wpAny_bind ((lY prog w).pyHash hu hka ?_));have fll:=fl.2.2.2;rw [List.length_take] at fll;refine Sg (s:={s with heap:=h1,toks:=tk+(lY prog w).draws as[i].1}) hu S1 hka (by omega) (fun q=> ?_) (fun h2 o' es' ep' t' xs' sb S' pm el'=> ?_)
   ·refine wpAny_pure ⟨plainId_quiet fX _,ih (i+1) _ o es ep t xs (by omega) (by omega) st1 k1 S1 (by rw [tk1];exact fl.there q) el fun h' tk' o' es' ep' t' xs' k' S' f' l'=>hR h' tk' o' es' ep' t' xs' k' S' f' l'⟩
   ·have k2:∀b o,h0.get? b=some o->h2.get? b=some o:=fun b o e=>(sb.2 b (fun z=>by rw [z,hd] at e;cases e)).trans (k1 b o e)
    refine wpAny_pure ⟨plainId_quiet fX _,ih (i+1) _ o' es' ep' t' xs' (by omega) (by omega) (W.frame _ _ _ st1 fun b hb o e=> ?_) k2 S' (by rw [tk1];exact fl.laid pm) (el'.trans el) fun h' tk' o' es' ep' t' xs' k' S' f' l'=>hR h' tk' o' es' ep' t' xs' k' S' f' l'⟩
    have:b≠d:=fun z=>by
     subst z;rcases List.mem_cons.mp hb with rfl|hb
     ·exact ndi rfl
     ·exact dp (by simpa using hb)
    exact (sb.2 b this).trans e
end
end L2
set_option Elab.async false
set_option linter.all false
set_option maxRecDepth 100000
set_option maxHeartbeats 3200000
namespace L2
open PySem PySem.Spec PyProof.Rows
section
variable {prog:Program} {w:World} {A:Around} {E:Value->Shared->Prop} {s:Shared}
def lU (w:World):Bool:=w.params.followText "set-order"
def oX (led:Bool):Obj:={cls:= .type "set",dict:=none,data:= .set #[] 0 (.fresh 0 0 led)}
theorem Li (a:Value) {Q1:Value->Shared->Prop} (h:Q1 (.ref s.heap.objs.size) {s with heap:=s.heap.push (oX (!lU w))}):codeAny (model prog w) A (.call (.builtin "set.__new__") ⟨[.type "set",a],[]⟩) (wants Q1 E) s:=by
 refine codeAny_of_tree ?_;show wpAny _ A.in1 (do checkBuiltinCall "set.__new__" ⟨[Value.type "set",a],[]⟩;again (.builtin "set.__new__" ⟨[.type "set",a],[]⟩)) _ _ s;refine wpAny_bind (wpAny_of_eq (F.newCall_set_1 a) (wpAny_pure (And.intro (plainId_quiet F.plain_set_new _) (codeAny_builtin F.entry_set_new ?_))));rw [Around.under_plainId F.plain_set_new _];unfold Builtin.«set.__new__»;unfold Builtin.Frozenset.newClass;have hs1:=sub_set_self;obtain ⟨h0,g0,d0,t0,o0⟩:=s
 dsimp only;wp_walk;refine wpAny_askSetting (wpAny_pure ?_);dsimp only;simp only [newObj];exact wpAny_bind (wpAny_alloc (wpAny_pure (wpAny_pure h)))
theorem Lk (h:Heap) (led:Bool):pJ prog w (h.push (oX led)) h.objs.size (oX led) #[] 0 (.fresh 0 0 led) []:=
 ⟨Heap.get?_push_size _ rfl,⟨rfl,rfl,rfl⟩,rfl,rfl,fun x hx=>(by cases hx),⟨rfl,rfl,.inl ⟨rfl,Nat.zero_le _⟩,rfl,by simp [SetTable.fresh]⟩⟩
theorem Ga {H:Hp} {p:Addr} {its:List Value} {as:List EK} {Q:Value->Shared->Prop} (hh:A.handled=none) (hu:A.units+8<cLine) (pl:PlainL s.heap p its.toArray)
 (ok:j_ prog w H s.heap) (ei:its=as.map fun x=>Value.ref x.2) (hk:∀x∈as,H x.2=some (.tup (x.1.map V.int))) (hz:as.length<=4914)
 (h:∀h' tk o es ep t xs,(∀b o,s.heap.get? b=some o->h'.get? b=some o)->pJ prog w h' s.heap.objs.size o es ep t xs->ji xs as->t.led = !lU w->Q (.ref s.heap.objs.size) {s with heap:=h',toks:=tk}):
 wpAny (model prog w) A (call (.type "set") [.ref p]) Q E s:=by
 obtain ⟨o,n,ho,hc,hd,hs⟩:=id pl;obtain ⟨mc,mt,fm⟩:=F.called_set.mro;have fa:=F.called_set.made;have fb:=F.called_set.sub
 refine wpAny_call (codeAny_of_tree ?_);show wpAny _ _ (callAny (.type "set") _) _ _ _
 refine wpAny_pure (And.intro (Code.quiet_builtin _ (by decide +kernel)) (codeAny_builtin F.entry_type_call ?_));rw [Around.under_plain (weight_type_call_type "set" [.ref p] []) rfl];have fc:=F.called_set.notType;have fd:=F.called_set.canCreate;have fe:=F.typeCall_set_1 (.ref p)
 repeat (any_goals (first |assumption|wp_step))
 refine codeAny_mono (Li (.ref p) (E:=E) (Q1:=fun obj s1=>obj = .ref s.heap.objs.size/\s1={s with heap:=s.heap.push (oX (!lU w))}) ⟨rfl,rfl⟩) fun r s1 hr=> ?_;cases r with
 | error e=>exact hr
 | ok fl=>
   cases fl with
   | ret obj=>
     obtain ⟨rfl,rfl⟩:=hr;have S0:=Lk (prog:=prog) (w:=w) s.heap (!lU w);have hT:Shared.TypeIs {s with heap:=s.heap.push (oX (!lU w))} (.ref s.heap.objs.size) "set" :=⟨_,S0.at_,rfl⟩;have ff:=F.called_set.init.lookup;have fg:=F.called_set.init.bind (.ref s.heap.objs.size)
     repeat (any_goals (first |assumption|wp_step))
     refine codeAny_mono (codeAny_call_builtin (R:=wants (fun r s2=>r = .none /\ ∃h' tk o es ep t xs,s2={s with heap:=h',toks:=tk}/\(∀b o,s.heap.get? b=some o->h'.get? b=some o)/\pJ prog w h' s.heap.objs.size o es ep t xs/\ji xs as/\t.led = !lU w) E) F.called_set.init.plain F.entry_set_init (check_set_init_1 hT ?_)) fun r2 s2 hr2=> ?_
     ·have ho1:(s.heap.push (oX (!lU w))).get? p=some o:=Heap.get?_push_of_some _ ho
      obtain ⟨oc,od,odt,osl⟩:=o;simp only at hc hd hs;subst hc hd hs;have fh:=F.sub_list_set;have fi:=F.sub_list_frozenset
      have fj:(Value.type "list" == Value.type "dict")=false:=by decide
      have l1:(s.heap.push (oX (!lU w))).IsList p its.toArray:=⟨_,ho1,rfl,n,rfl⟩;have sat:=S0.at_
      unfold oX at sat ho1 ⊢;unfold Builtin.«set.__init__»;unfold noKeywords Builtin.Frozenset.updateFrom;generalize hPI:pyIter=PI;wp_walk;subst hPI;refine wpAny_pyIter_list l1 ?_;refine wpAny_bind (wpAny_runValue ?_);have hp0:s.heap.get? p=some {cls:= .type "list",dict:=none,data:= .seq its.toArray n,slots:=osl}:=ho;have lts:s.heap.objs.size<(s.heap.push (oX (!lU w))).objs.size:=by rw [Heap.size_push];exact Nat.lt_succ_self _
      have ltp:p<(s.heap.push (oX (!lU w))).objs.size:=Heap.lt_size (Heap.get?_push_of_some _ hp0);have S1:pJ prog w ((s.heap.push (oX (!lU w))).push {cls:= .type "list_iterator",data:= .fields #[.ref p,.int 0 0]}) s.heap.objs.size (oX (!lU w)) #[] 0 (.fresh 0 0 (!lU w)) []:=⟨Heap.get?_push_of_some _ S0.at_,S0.ex,S0.dat,S0.els,fun x hx=>(by cases hx),S0.tab⟩;have h3:A.in1.in1.in1.handled=none:=hh;refine Ht (A:=A.in1.in1) (H:=H) (h0:=s.heap) (d:=s.heap.objs.size) (it:=(s.heap.push (oX (!lU w))).objs.size) (p:=p) (led:= !lU w) (by show A.units+1+1+1<cLine;omega) (mO h3 _ p (fun z=>by rw [z] at ltp;exact Nat.lt_irrefl _ ltp) its) ok ei hk (uO (Nat.le_refl _)) (uO (Nat.le_of_lt lts)) ⟨_,hp0⟩ (Nat.ne_of_lt lts) hz its.length 0 _ _ _ _ _ [] (by omega) (Nat.zero_le _) ⟨⟨_,Heap.get?_push_size _ rfl,rfl,rfl⟩,_,Heap.get?_push_of_some _ ho1,rfl,n,rfl⟩ (fun b q eb=>Heap.get?_push_of_some _ (Heap.get?_push_of_some _ eb)) S1 ji.nil rfl ?_;intro h' tk o' es' ep' t' xs' k' S' f' l';show wpAny _ _ (pure ()) _ _ _;refine wpAny_pure ?_;show wpAny _ _ (ret Value.none) _ _ _;exact wpAny_pure ⟨rfl,h',tk,o',es',ep',t',xs',rfl,k',S',f',l'⟩
     ·cases r2 with
      | error e=>exact hr2
      | ok fl2=>
        cases fl2 with
        | ret r=>
          obtain ⟨rfl,h',tk,o',es,ep,t,xs,rfl,q1,q2,q3,q4⟩:=hr2
          repeat (any_goals (first |assumption|wp_step))
          exact h _ _ _ _ _ _ _ q1 q2 q3 q4
        | _=>exact hr2.elim
   | _=>exact hr.elim
end
end L2
set_option Elab.async false
set_option linter.all false
set_option maxRecDepth 100000
set_option maxHeartbeats 1000000
namespace L2
open PySem PySem.Spec PyProof.Rows
theorem R7:bootBuiltins "set" = some (.type "set"):=by kernel_rfl
def Pj (P:Program) (w:World) (q:Addr) (xs:List EK) (h:Heap):Prop:=∃o es ep t,h.get? q=some o/\o.ExactSet/\o.data = .set es ep t/\es.toList=xs.map (Tg P w)/\TabOk t es.size/\t.led = !lU w
def Gj (P:Program) (w:World) (q:Addr) (xs:List EK):HO:= .ext (Pj P w q xs)
section
variable {X:Cx}
theorem Lj {P:Program} {w:World} {H:Hp} {h:Heap} {q:Addr} {xs:List EK} (f:Pj P w q xs h):bR P w H h q (Gj P w q xs):=by
 refine ⟨f, ?_,fun h1 h2 f1 k=> ?_⟩
 ·obtain ⟨o,_,_,_,e,_⟩:=f
  exact ⟨o,e⟩
 ·obtain ⟨o,es,ep,t,e,r⟩:=f1
  exact ⟨o,es,ep,t,k _ e,r⟩
def Uo (P:Program) (w:World) (K:PySem.W.Frag):List V->Hp->VK->Prop:=fun vs H Q=>∃(p:Addr) (as:List EK),vs=[.ref p]/\aV K H p (as.map fun x=>V.ref x.2)/\(∀x∈as,H x.2=some (.tup (x.1.map V.int)))/\as.length<=4914 /\
 ∀q xs,H q=none->ji xs as->Q (.ref q) (upd H q (Gj P w q xs))
theorem Br {K:PySem.W.Frag} (hK:X.K=K) (hc:X.calm=true) (hu:X.A.in1.units+64<cLine):fO X (.type "set") (Uo X.prog X.w K):=by
 subst hK;intro pins s σ H xs us Q I r h;obtain ⟨p,as,rfl,hq,hk,hz,q⟩:=h;obtain ⟨u,rfl,rx⟩:=vals1 r;cases rx;obtain ⟨its,rv,pl,_⟩:=I.list hq
 have ei:its=as.map fun x=>Value.ref x.2:=by
  have:∀{as:List EK} {its:List Value},Vals (as.map fun x=>V.ref x.2) its->its=as.map fun x=>Value.ref x.2:=by
   intro as
   induction as with
   | nil=>intro its r;cases r;rfl
   | cons a as ih=>
     intro its r;cases r with
     | cons r1 r2=>
       cases r1;rw [ih r2];rfl
  exact this rv
 refine Ga (H:=H) (I.ok.hd hc) (by have:X.A.units<=X.A.in1.units:=Nat.le_succ _;omega) pl I.hok ei hk hz fun h' tk o es ep t xs kp S fl el=> ?_;have hn:=I.hok.fresh (Nat.le_refl s.heap.objs.size);exact ⟨.ref s.heap.objs.size,_,I.laid (a:=s.heap.objs.size) (o:=Gj X.prog X.w s.heap.objs.size xs) kp (Nat.le_refl _) (Lj ⟨o,es,ep,t,S.at_,S.ex,S.dat,S.els,S.tab,el⟩),rfl,q _ _ hn fl⟩
def Us (P:Program) (w:World):List V->Hp->VK->Prop:=fun vs H Q=>∃(q:Addr) (xs:List EK),vs=[.ref q]/\H q=some (Gj P w q xs)/\Q (.int (xs.length:Int)) H
theorem Gb:fO X (.builtin "len") (Us X.prog X.w):=by
 intro pins s σ H xs us Q I r h;obtain ⟨q,ys,rfl,hq,k⟩:=h;obtain ⟨u,rfl,rx⟩:=vals1 r;cases rx;obtain ⟨⟨o,es,ep,t,e1,e2,e3,e4,e5,e6⟩,_⟩:=(show bR X.prog X.w H s.heap q (Gj X.prog X.w q ys) from I.hok q _ hq);have le:es.size=ys.length:=by rw [←Array.length_toList,e4,List.length_map]
 have fit:((es.size:Nat):Int)<2 ^ 63:=by
  have:=e5.sz.pow;omega
 refine call_len_set e1 e2 e3 e5.fits fit ?_;exact ⟨.int (ys.length:Int),H,I.tok _,⟨_,by rw [le]⟩,k⟩
end
end L2
set_option Elab.async false
set_option linter.all false
set_option maxRecDepth 100000
set_option maxHeartbeats 3200000
namespace L2
open PySem PySem.Spec PyProof.Rows
section
variable {prog:Program} {w:World} {A:Around} {E:Value->Shared->Prop} {s:Shared} {q it:Addr} {o:Obj} {es:Array (Int×Value)} {ep:Nat} {t:SetTable}
end
end L2
set_option Elab.async false
set_option linter.all false
set_option maxRecDepth 100000
set_option maxHeartbeats 3200000
namespace L2
open PySem PySem.Spec PyProof.Rows
section
variable {prog:Program} {w:World} {A:Around} {E:Value->Shared->Prop} {s:Shared} {q it:Addr} {o:Obj} {es:Array (Int×Value)} {ep:Nat} {t:SetTable}
end
end L2
set_option Elab.async false
set_option linter.all false
set_option maxRecDepth 100000
set_option maxHeartbeats 1000000
namespace L2
open PySem PySem.Spec PyProof.Rows
section
variable {X:Cx}
end
end L2
set_option Elab.async false
set_option linter.all false
set_option maxRecDepth 100000
set_option maxHeartbeats 1000000
namespace L2
open PySem PySem.Spec PyProof.Rows PySem.W
def Kz (ps:List Addr) (H:Hp):Prop:=∀b,H b=none\/(∃o xs,H b=some (.xT o (.lst xs)))\/(b∈ps/\H b=some (.dU #[]))
theorem Fq {P:Program} {w:World} {K:PySem.W.Frag} {mg mb:Str->Option Value} {CX:Gp} {k:Nat} {fa a:Addr} {ps:List Addr} {fd:FuncData} {x:Str} {sp:Sp} {s₁:Shared} {vs:List Value} {ns:List Int}
 (KX:K.In s₁.heap) (hns:s₁.heap.Ns mainGlobals mg) (hb:s₁.heap.Ns builtinsNs mb) (hbb:∀x:Str,x ≠ "__name__" -> mb x=bootBuiltins x) (hlim:s₁.heap.NoLimit) (hbm:Bm mg s₁.heap) (hg:s₁.gens = #[])
 (hp:∀p∈ps,s₁.heap.get? p=some (tabObj #[])) (hc:∀p∈ps,∃c,codeHdIn K c p=true)
 (ha:s₁.heap.get? a=some {cls:= .type "list",data:= .seq vs.toArray}) (hi:IntsAre vs ns) (hl:ns.length<=sizeLine) (hr:cU k callerA) (hKp:∀p∈ps,K.lookup p=none)
 (F:∀base:Heap,K.In base->base.Ns mainGlobals mg->Bm mg base->cT P w K mg base CX k fa fd [x] sp) (hbind:∀(s:Shared) (u:Value),BindsTo s fd ⟨[u],[]⟩ [(x,u)])
 (hsp:∀H:Hp,Kz ps H->aV K H a (ns.map V.int)->(∀p∈ps,H p=some (.dU #[]))->sp [.ref a] H (fun v _=>v = .bl true) fun _ _ _=>False)
 (RK:∀H e s',CX [] H s₁ (fun _ _ _=>False) e s'->False):
 codeAny (model P w) callerA (.call (.ref fa) ⟨[.ref a],[]⟩) (fun r s'=>r = .ok (.ret (.bool true))/\OldK s₁.heap s'.heap/\s'.os=s₁.os/\AllBare s'.gens) s₁:=by
 have rv:=uH hi;have lenV:=hi.length;have npa:a∉ps:=fun z=>by have:=hp a z;rw [ha] at this;cases this
 have CT:∀p∈ps,isCodeTable s₁.heap p:=fun p z=>by
  obtain ⟨c,hc⟩:=hc p z;exact ((codeHd_of_K KX hc).tab (hp p z)).isCodeTable
 have core:∀H:Hp,Kz ps H->aV K H a (ns.map V.int)->(∀p∈ps,H p=some (.dU #[]))->j_ P w H s₁.heap->(∀b,H b≠none->b=a\/b∈ps)->(H a≠none->K.lookup a=none) ->
  codeAny (model P w) callerA (.call (.ref fa) ⟨[.ref a],[]⟩) (fun r s'=>r = .ok (.ret (.bool true))/\OldK s₁.heap s'.heap/\s'.os=s₁.os/\AllBare s'.gens) s₁:=by
  intro H hO hS hHp hok hA hK;have lQ:∀{b:Addr} {o:Obj},s₁.heap.get? b=some o->H b=none->(m5 s₁.heap H).get? b=some o:=fun e n=>zu e n
  have noO:∀{b:Addr} {o:Obj},s₁.heap.get? b=some o->(∀vs n,o.data ≠ .seq vs n)->(∀vs,o.data ≠ .fields vs)->H b=none:=fun {b o} e d1 d2=>by
   cases q:H b with
   | none=>rfl
   | some u=>
     rcases hA b (by rw [q];simp) with e'|e'
     ·subst e'
      rw [ha] at e;cases e;exact absurd rfl (d1 _ _)
     ·rw [hp b e'] at e;cases e
      exact absurd rfl (d2 _)
  have Q7:∀{b:Addr} {o:Obj} {es:Array DictEntry} {ep:Nat},s₁.heap.get? b=some o->o.data = .dict es ep->H b=none:=fun {b o es ep} e d=>noO e (fun _ _ z=>by rw [d] at z;cases z) (fun _ z=>by rw [d] at z;cases z);have Mj:∀{b:Addr} {m:Str->Option Value},s₁.heap.Ns b m->(m5 s₁.heap H).Ns b m:=fun {b m} ⟨o,es,ep,e,d,r⟩=>⟨o,es,ep,lQ e (Q7 e d),d,r⟩
  have VN:K.In (m5 s₁.heap H):=fun b o e=>lQ (KX b o e) (by
   cases q:H b with
   | none=>rfl
   | some u=>
     rcases hA b (by rw [q];simp) with e'|e'
     ·subst e'
      rw [hK (by rw [q];simp)] at e;cases e
     ·rw [hKp b e'] at e;cases e)
  have hM:Mod K mg (m5 s₁.heap H):=⟨VN,Mj hns,⟨mb,Mj hb,hbb⟩,let ⟨mc,h1,h2⟩:=hlim;⟨mc,Mj h1,h2⟩⟩
  have hBm:Bm mg (m5 s₁.heap H):=by
   obtain ⟨bm,ob,b1,b2,b3,b4,b5,b6⟩:=hbm;exact ⟨bm,ob,b1,b2,lQ b3 (noO b3 (fun _ _ z=>by rw [b6] at z;cases z) (fun _ z=>by rw [b6] at z;cases z)),b4,b5,b6⟩
  have e0:xM P w K mg (m5 s₁.heap H) callerA [] s₁ H:=⟨rfl,hM,fun b o e=>CG e,Nat.le_of_eq (uY _ _),trivial,fun b hb=>absurd (show b∈([]:List Addr) from hb) (by simp),hok,.of_eq hg⟩;refine codeAny_mono ((F _ VN (Mj hns) hBm).run callerA [] s₁ H ⟨[.ref a],[]⟩ [.ref a] [.ref a] _ _ hr e0 (hbind s₁ (.ref a)) (.cons rfl .nil) (hsp H hO hS hHp)) fun r s' h=> ?_;cases r with
  | error e=>exact (RK H e s' h).elim
  | ok fl=>
    cases fl with
    | next=>exact False.elim h
    | brk=>exact False.elim h
    | cont=>exact False.elim h
    | ret u=>
      obtain ⟨v,H',os,bare,un,hok',r',q⟩:=h;have q':v = .bl true:=q;subst q';obtain rfl:u=Value.bool true:=r'
      have each:∀b o,s₁.heap.get? b=some o->s'.heap.get? b=some o\/(b∈ps /\ ∃more,s'.heap.get? b=some (tabObj (#[]++more))):=fun b o e=>by
       cases q:H b with
       | none=>exact .inl (un.keep b o e q (by intro z;exact absurd (show b∈([]:List Addr) from z) (by simp)) (by simp))
       | some u=>
         rcases hO b with z|⟨ob,xs,z⟩|⟨z1,z⟩
         ·rw [q] at z;cases z
         ·have z2:=un.sJ b ob _ z
          obtain ⟨e1,_⟩:=hok b _ z;obtain ⟨e2,_⟩:=hok' b _ z2;rw [e] at e1;cases e1;exact .inl e2
         ·obtain ⟨more,z2⟩:=un.uo b _ z
          exact .inr ⟨z1,more,hok' b _ z2⟩
      refine ⟨rfl,⟨fun b o e=> ?_,fun b o e=> ?_⟩,os,bare⟩
      ·rcases each b o e with z|⟨hb,more,z⟩
       ·exact .inl z
       ·rw [hp b hb] at e
        cases e;exact .inr (.inl ⟨CT b hb,rfl, #[],more,rfl,z⟩)
      ·rcases each b o e with z|⟨hb,more,z⟩
       ·exact ⟨_,z⟩
       ·exact ⟨_,z⟩
 cases hk:K.lookup a with
 | some o=>
   have e:=KX a o hk;rw [ha] at e;cases e;refine core (fun b=>if b∈ps then some (.dU #[]) else none) (fun b=> ?_) (.inr ⟨_,vs.toArray,_,hk,rfl,rfl,rfl,by rw [List.size_toArray,lenV];exact hl,by simpa using rv⟩) (fun p hb=>if_pos hb) (fun b u z=> ?_) (fun b z=> ?_) fun z=>absurd (if_neg npa) z
   ·by_cases hb:b∈ps
    ·exact .inr (.inr ⟨hb,if_pos hb⟩)
    ·exact .inl (if_neg hb)
   ·by_cases hb:b∈ps
    ·have z':=(if_pos hb).symm.trans z
     cases z';exact hp b hb
    ·have z':=(if_neg hb).symm.trans z
     cases z'
   ·by_cases hb:b∈ps
    ·exact .inr hb
    ·exact absurd (if_neg hb) z
 | none=>
   refine core (fun b=>if b∈ps then some (.dU #[]) else if b=a then some (.xT {cls:= .type "list",data:= .seq vs.toArray} (.lst (ns.map V.int))) else none) (fun b=> ?_) (.inl (.inr ⟨{cls:= .type "list",data:= .seq vs.toArray},(if_neg npa).trans (if_pos rfl)⟩)) (fun p hb=>if_pos hb) (fun b u z=> ?_) (fun b z=> ?_) fun _=>hk
   ·by_cases hb:b∈ps
    ·exact .inr (.inr ⟨hb,if_pos hb⟩)
    ·by_cases hb2:b=a
     ·exact .inr (.inl ⟨_,_,(if_neg hb).trans (if_pos hb2)⟩)
     ·exact .inl ((if_neg hb).trans (if_neg hb2))
   ·by_cases hb:b∈ps
    ·have z':=(if_pos hb).symm.trans z
     cases z';exact hp b hb
    ·have z:=(if_neg hb).symm.trans z
     by_cases hb2:b=a
     ·have z':=(if_pos hb2).symm.trans z
      cases z';subst hb2;exact ⟨ha,by rw [List.length_map];exact hl,vs,_,rv,ha⟩
     ·have z':=(if_neg hb2).symm.trans z
      cases z'
   ·by_cases hb:b∈ps
    ·exact .inr hb
    ·by_cases hb2:b=a
     ·exact .inl hb2
     ·exact absurd ((if_neg hb).trans (if_neg hb2)) z
theorem GK {l:PySem.W.OpenLaw} {n k:Nat} {q:Program} {loose:List Str} {XP:(Str->Option Value)->Heap->Prop} {YP:World->Heap->Prop} {d:DefRec} {K:Params->PySem.W.Frag} {CX:World->Gp} {sp:World->Sp} {x:Str} {ps:List Addr}
 (hn:l.most=some n) (hn2:n<=sizeLine) (hdf:d.params.defaults=[]) (hr:cU k callerA)
 (hY:∀(w:World) (h:Heap),YP w h->(K w.params).In h) (hT:∀(w:World) (h:Heap),YP w h -> ∀p∈ps,h.get? p=some (tabObj #[]))
 (F:∀(w:World) (mg:Str->Option Value) (fa:Addr) (h:Heap),(K w.params).In h->h.Ns mainGlobals mg->mg d.name=some (.ref fa) ->
   (∀p∈ps,(K w.params).lookup p=none /\ ∃c,codeHdIn (K w.params) c p=true) /\ ∃fd:FuncData,(∀(s:Shared) (u:Value),BindsTo s fd ⟨[u],[]⟩ [(x,u)]) /\
     ∀base:Heap,(K w.params).In base->base.Ns mainGlobals mg->Bm mg base->cT l.prog w (K w.params) mg base (CX w) k fa fd [x] (sp w))
 (hsp:∀(w:World) (H:Hp) (a:Addr) (ns:List Int),ns.length<=n->Kz ps H->aV (K w.params) H a (ns.map V.int)->(∀p∈ps,H p=some (.dU #[]))->sp w [.ref a] H (fun v _=>v = .bl true) fun _ _ _=>False)
 (RK:∀(w:World) (H:Hp) (s:Shared) (e:Value) (s':Shared),CX w [] H s (fun _ _ _=>False) e s'->False):
 PySem.W.WalkO q loose XP YP l.row.toRowW d [] (fun f vs=>PySem.call f vs):=by
 refine Att.pY hn hdf fun w s₀ s₁ mg mb fa o pm cd doc a vs ns G Y ho hd hcd hmg hobj hints hlen hg=> ?_;have KX:=hY w _ Y;obtain ⟨kph,fd,hb,hF⟩:=F w mg fa _ KX G.T.g hmg;exact Fq KX G.T.g G.T.b G.T.builtins G.T.nolimit G.T.bmain hg (hT w _ Y) (fun p z=>(kph p z).2) hobj hints (Nat.le_trans hlen hn2) hr (fun p z=>(kph p z).1) hF hb (fun H hO hS hH=>hsp w H a ns hlen hO hS hH) fun H e s'=>RK w H s₁ e s'
end L2
set_option Elab.async false
set_option linter.all false
set_option maxRecDepth 100000
set_option maxHeartbeats 4000000
namespace L2
open PySem PySem.Spec PyProof.Rows PySem.Calls PyProof.V
section
variable {prog:Program} {w:World} {K:Type} [DecidableEq K] {knd:HeapKind prog w K} {A:Around} {E:Value->Shared->Prop} {s:Shared}
theorem QB {nm:String} {a b:Addr} {xa xb:List (K×Addr×Value)} {Q:Bool->Shared->Prop} (hr:knd.room A) (za:(a==sysModules)=false) (zb:(b==sysModules)=false)
 (da:s.heap.DictOfH knd a xa) (db:s.heap.DictOfH knd b xb) (el:xa.length=xb.length)
 (hv:∀x∈xa,∃y∈xb,y.1=x.1/\SeqAt.EqAt A s x.2.2 y.2.2 true) (h:Q true s):wpAny (model prog w) A (Builtin.Dict.samePairs nm a b) Q E s:=by
 obtain ⟨oa,es,ep,hoa,_,hda,hea,hia,hna⟩:=da;obtain ⟨ob,fs,fp,hob,_,hdb,heb,hib,hnb⟩:=db;have la:es.size=xa.length:=by rw [←Array.length_toList,hea,List.length_map]
 have lb:fs.size=xb.length:=by rw [←Array.length_toList,heb,List.length_map]
 unfold Builtin.Dict.samePairs Builtin.Dict.showsAll;rw [if_neg (show ¬(a==sysModules)=true by rw [za];decide),if_neg (show ¬(b==sysModules)=true by rw [zb];decide)];refine wpAny_bind (wpAny_pure (wpAny_bind (wpAny_pure (wpAny_bind (wpAny_dictEntries hoa hda ?_)))));dsimp only;refine wpAny_bind (wpAny_dictEntries hob hdb ?_);rw [if_neg (show ¬(es.size != fs.size)=true by simp [la,lb,el])];refine wpAny_bind (wpAny_dictEpoch hoa hda (wpAny_bind ?_));rw [Std.Legacy.Range.forIn_eq_forIn_range'];simp only [Std.Legacy.Range.size,Nat.sub_zero,Nat.add_sub_cancel,Nat.div_one];refine wpAny_forIn_list _ (fun rest q s'=>s'=s/\q=(none,()) /\ ∃i,i<=es.size/\rest=List.range' i (es.size - i)) _ ?_ ?_ _ _ ⟨rfl,rfl,0,Nat.zero_le _,rfl⟩
 ·rintro m rest q s' ⟨rfl,rfl,i,hi,er⟩
  have lt:i<es.size:=by
   refine Nat.lt_of_not_le fun z=> ?_;rw [Nat.sub_eq_zero_of_le z] at er;cases er
  obtain ⟨rfl,V7⟩:m=i/\rest=List.range' (i+1) (es.size - (i+1)):=by
   rw [show es.size - i=es.size - (i+1)+1 by omega,List.range'_succ] at er;injection er with e1 e2
   exact ⟨e1,e2⟩
  refine wpAny_bind (wpAny_dictEntries hoa hda ?_);rw [Array.getElem?_eq_getElem lt];have lx:m<xa.length:=by omega
  have e1:es[m]=entryOfKey knd xa[m]:=by
   have:es.toList[m]? = some (entryOfKey knd xa[m]):=by rw [hea,List.getElem?_map,List.getElem?_eq_getElem lx];rfl
   rw [Array.getElem?_toList,Array.getElem?_eq_getElem lt] at this;exact Option.some.inj this
  obtain ⟨y,hy,ey,eq⟩:=hv xa[m] (List.getElem_mem lx);obtain ⟨j,hj⟩:=List.getElem?_of_mem hy;show wpAny _ _ (holding [es[m].key,es[m].val] _ >>= _) _ _ _;rw [e1];refine wpAny_bind (wpAny_holding (wpAny_bind (wpAny_dictFind_heap (knd:=knd) hr (hia _ (List.getElem_mem lx)) hob hdb heb hib hnb (fun no=> ?_) (fun j' p hj'=> ?_))))
  ·exact absurd (show xb[j]? = some (xa[m].1,y.2) by rw [hj,←ey]) (no j y.2)
  ·have ejj:p=y.2:=by
    have h1:=m7 hnb hj';have h2:=m7 (k:=xa[m].1) (p:=y.2) hnb (show xb[j]? = some (xa[m].1,y.2) by rw [hj,←ey]);exact Option.some.inj (h1.symm.trans h2)
   subst ejj;refine wpAny_bind (wpAny_dictEntries hob hdb ?_);have jl:j'<fs.size:=by have:=(List.getElem?_eq_some_iff.mp hj').1;omega
   rw [Array.getElem?_eq_getElem jl]
   have e2:fs[j']=entryOfKey knd (xa[m].1,y.2):=by
    have:fs.toList[j']? = some (entryOfKey knd (xa[m].1,y.2)):=by rw [heb,List.getElem?_map,hj'];rfl
    rw [Array.getElem?_toList,Array.getElem?_eq_getElem jl] at this;exact Option.some.inj this
   rw [e2];refine wpAny_holding (eq prog w _ _ ?_);show wpAny _ _ (if (!true)=true then _ else _) _ _ _;rw [if_neg (by decide)];refine wpAny_bind (wpAny_dictEpoch hoa hda ?_);rw [if_neg (by simp)];exact wpAny_pure ⟨rfl,rfl,m+1,lt,V7⟩
 ·rintro q s' ⟨rfl,rfl,i,hi,er⟩
  exact wpAny_pure h
theorem neH {a b:Addr} {xa xb:List (K×Addr×Value)} {Q:Value->Shared->Prop} (hu:A.units<cLine) (hr:knd.room A.in1) (za:(a==sysModules)=false) (zb:(b==sysModules)=false)
 (da:s.heap.DictOfH knd a xa) (db:s.heap.DictOfH knd b xb) (el:xa.length=xb.length)
 (hv:∀x∈xa,∃y∈xb,y.1=x.1/\SeqAt.EqAt A.in1 s x.2.2 y.2.2 true) (h:Q (.bool false) s):wpAny (model prog w) A (compareOp .NotEq (.ref a) (.ref b)) Q E s:=by
 refine wpAny_richCompare_same_room (op:= .NotEq) (kO da) (kO db) PySem.F.slot_dict_ne (wpAny_call_entry PySem.F.slot_dict_ne (kO da) PySem.F.entry_dict_ne ?_ (PySem.F.args_dict_ne_2 _ _)) hu;show wpAny _ _ (Builtin.Dict.dictSlotArgs "__ne__" ⟨[.ref a,.ref b],[]⟩ >>= _) _ _ s;refine wpAny_bind ?_;unfold Builtin.Dict.dictSlotArgs;refine wpAny_bind (wpAny_notOrdered_dict (kO da) ?_);show wpAny _ _ (pure (Value.ref a,Value.ref b)) _ _ s;refine wpAny_pure (wpAny_bind (wpAny_isInstance (T:= "dict") (kO db) PySem.F.sub_dict_dict ?_));simp only [Bool.not_true,Bool.false_eq_true,if_false];refine wpAny_bind (wpAny_pure (wpAny_bind (wpAny_pure (wpAny_bind (QB hr za zb da db el hv ?_)))));refine wpAny_pure ⟨_,rfl, ?_, ?_⟩
 ·exact fun x=>nomatch x
 ·exact h
end
section
variable {X:Cx}
theorem uN {α β:Type} {F:α->β->Prop}:∀{l:List α} {m:List β},Paired F l m -> ∀b∈m,∃a∈l,F a b
 | _,_,.nil,b,h=>by cases h
 | _,_,.cons h r,b,hb=>by
   rcases List.mem_cons.mp hb with rfl|hb
   ·exact ⟨_,.head _,h⟩
   ·obtain ⟨a,ha,q⟩:=uN r b hb
    exact ⟨a,.tail _ ha,q⟩
def ZM:R2:=fun x y H Q=>∃(a b:Addr) (ka kb:List (List Key×V)),x = .ref a/\y = .ref b/\H a=some (.dT ka)/\H b=some (.dT kb)/\ka.length=kb.length/\(∀kv∈ka,∃n:Int,kv.2 = .int n/\cG kb kv.1=some (.int n))/\Q (.bl false) H
theorem QF (hu:X.A.in1.units+64<cLine) (hu0:X.A.units<cLine):ni X (compareOp .NotEq) ZM:=by
 intro pins s σ H x y v u Q I rx ry h;obtain ⟨a,b,ka,kb,rfl,rfl,ha,hb,el,hv,q⟩:=h;cases rx;cases ry;obtain ⟨za,hda,ya,ra,da⟩:=DG I.hok ha;obtain ⟨zb,hdb,yb,rb,db⟩:=DG I.hok hb;refine neH hu0 (show (tupleKind (cF X.prog X.w)).room X.A.in1 from by show X.A.in1.units<cLine;omega) hda hdb da db (by rw [(rP ra).2,(rP rb).2,el]) (fun z hz=> ?_) ⟨.bl false,H,I,rfl,q⟩;obtain ⟨kv,ekv,rk1,_,rk⟩:=uN ra z hz;obtain ⟨n,en,ev⟩:=hv kv ekv;have ro:=rb.val kv.1;rw [ev] at ro;cases e:atKey yb kv.1 with
 | none=>rw [e] at ro;exact ro.elim
 | some p=>
   rw [e] at ro;obtain ⟨t1,h1⟩:∃t,p.2=Value.int n t:=ro;obtain ⟨t2,h2⟩:∃t,z.2.2=Value.int n t:=by have:=rk;rw [en] at this;exact this
   unfold atKey at e;cases f:yb.find? (fun x=>decide (x.1=kv.1)) with
   | none=>rw [f] at e;cases e
   | some y=>
     rw [f] at e;cases e;have f1:=List.find?_some f;have f2:y.1=kv.1:=of_decide_eq_true f1;refine ⟨y,List.mem_of_find?_eq_some f,f2.trans rk1, ?_⟩;rw [h1,h2];have:=SeqAt.EqAt.int_int (A:=X.A.in1) (s:=s) n t2 n t1;simpa using this
end
end L2
set_option Elab.async false
set_option linter.all false
set_option maxRecDepth 100000
set_option maxHeartbeats 4000000
namespace Prf
open PySem L2
def top (i:Nat):Stmt:=PySem.Challenge.pw_fewnotes_k33_whole_no_fewer_strict_notes.main.body.getD i (.Pass ⟨0,0,0,0⟩)
abbrev cW:Stmt:=top 4
abbrev iM:Stmt:=top 6
abbrev bL:Stmt:=top 7
abbrev d9:Stmt:=top 9
abbrev cI:Stmt:=top 10
abbrev bN:Stmt:=top 11
abbrev cH:Stmt:=top 12
abbrev cA:Stmt:=top 14
abbrev bM:Stmt:=top 15
abbrev bV:Stmt:=top 16
abbrev bK:Stmt:=top 17
abbrev d8:Stmt:=top 18
abbrev iQ:Stmt:=top 19
abbrev cX:Stmt:=top 20
abbrev aZ:Stmt:=top 21
abbrev bD:Stmt:=top 22
abbrev cV:Stmt:=top 23
abbrev d_:Stmt:=top 25
abbrev iT:Stmt:=top 26
abbrev jQ:Stmt:=top 27
abbrev fV:Stmt:=top 28
abbrev fQ:Stmt:=top 29
abbrev iR:Stmt:=top 30
abbrev cY:Stmt:=top 31
abbrev cZ:Stmt:=top 32
abbrev eE:Stmt:=top 33
abbrev fU:Stmt:=top 34
abbrev cB:Stmt:=top 35
abbrev lq:Stmt:=top 36
structure xW (mg:Str->Option Value):Prop where
 Pa:mg "abs" = none
 zU:mg "all" = none
 W6:mg "any" = none
 Sd:mg "bool" = none
 zT:mg "enumerate" = none
 O_:mg "int" = none
 gj:mg "isinstance" = none
 iI:mg "len" = none
 w5:mg "list" = none
 afA:mg "max" = none
 Kr:mg "min" = none
 iZ:mg "range" = none
 R_:mg "reversed" = none
 W0:mg "set" = none
 tW:mg "sorted" = none
 Nv:mg "tuple" = none
 WY:mg "zip" = none
theorem yq:bh ["value"] ["value"] (ao cW):=⟨rfl,rfl,rfl,by decide +kernel,rfl,by decide +kernel,by decide +kernel⟩
theorem k_:bh ["web","counts","told","touch","k"] ["web"] (ao iM):=⟨rfl,rfl,rfl,by decide +kernel,rfl,by decide +kernel,by decide +kernel⟩
theorem qb:bh ["one","other"] ["one","other"] (ao bL):=⟨rfl,rfl,rfl,by decide +kernel,rfl,by decide +kernel,by decide +kernel⟩
theorem Aj:bh ["value"] ["value"] (ao d9):=⟨rfl,rfl,rfl,by decide +kernel,rfl,by decide +kernel,by decide +kernel⟩
theorem vQ:bh ["places","note"] ["places","note"] (ao cI):=⟨rfl,rfl,rfl,by decide +kernel,rfl,by decide +kernel,by decide +kernel⟩
theorem qe:bh ["places","some"] ["places","some"] (ao bN):=⟨rfl,rfl,rfl,by decide +kernel,rfl,by decide +kernel,by decide +kernel⟩
theorem iK:bh ["web","places","place","name"] ["web"] (ao cH):=⟨rfl,rfl,rfl,by decide +kernel,rfl,by decide +kernel,by decide +kernel⟩
theorem lZ:bh ["web","note","want","places"] ["web","note","want"] (ao cA):=⟨rfl,rfl,rfl,by decide +kernel,rfl,by decide +kernel,by decide +kernel⟩
theorem qd:bh ["web"] ["web"] (ao bM):=⟨rfl,rfl,rfl,by decide +kernel,rfl,by decide +kernel,by decide +kernel⟩
theorem rC:bh ["web"] ["web"] (ao bV):=⟨rfl,rfl,rfl,by decide +kernel,rfl,by decide +kernel,by decide +kernel⟩
theorem dW:bh ["web","wants","places","in_turn","want","following"] ["web","wants"] (ao bK):=⟨rfl,rfl,rfl,by decide +kernel,rfl,by decide +kernel,by decide +kernel⟩
theorem Ai:bh ["web","places","note"] ["web","places","note"] (ao d8):=⟨rfl,rfl,rfl,by decide +kernel,rfl,by decide +kernel,by decide +kernel⟩
theorem Hv:bh ["note","want"] ["note","want"] (ao iQ):=⟨rfl,rfl,rfl,by decide +kernel,rfl,by decide +kernel,by decide +kernel⟩
theorem yr:bh ["note"] ["note"] (ao cX):=⟨rfl,rfl,rfl,by decide +kernel,rfl,by decide +kernel,by decide +kernel⟩
theorem bx:bh ["web","places","wants","found","hands","left","want","note"] ["web"] (ao aZ):=⟨rfl,rfl,rfl,by decide +kernel,rfl,by decide +kernel,by decide +kernel⟩
theorem b_:bh ["web","named","wants","later","earlier","want"] ["web"] (ao bD):=⟨rfl,rfl,rfl,by decide +kernel,rfl,by decide +kernel,by decide +kernel⟩
theorem pU:bh ["web","places","want","ahead"] ["web","places","want"] (ao cV):=⟨rfl,rfl,rfl,by decide +kernel,rfl,by decide +kernel,by decide +kernel⟩
theorem gH:bh ["script","figures","stir","cell"] ["script"] (ao d_):=⟨rfl,rfl,rfl,by decide +kernel,rfl,by decide +kernel,by decide +kernel⟩
theorem rE:bh ["spring","many","found","stir"] ["spring","many"] (ao iT):=⟨rfl,rfl,rfl,by decide +kernel,rfl,by decide +kernel,by decide +kernel⟩
theorem d7:bh ["spring","most","shape","size","hands","first","room","base","kinds","web","at","hand","kind"] ["spring","most"] (ao jQ):=⟨rfl,rfl,rfl,by decide +kernel,rfl,by decide +kernel,by decide +kernel⟩
theorem jc:bh ["web","many","found","hand","kind","cell"] ["web"] (ao fV):=⟨rfl,rfl,rfl,by decide +kernel,rfl,by decide +kernel,by decide +kernel⟩
theorem Em:bh ["one","other"] ["one","other"] (ao fQ):=⟨rfl,rfl,rfl,by decide +kernel,rfl,by decide +kernel,by decide +kernel⟩
theorem rD:bh ["calls","note","one","other"] ["calls","note"] (ao iR):=⟨rfl,rfl,rfl,by decide +kernel,rfl,by decide +kernel,by decide +kernel⟩
theorem pW:bh ["web","calls","note","ends"] ["web","calls","note"] (ao cY):=⟨rfl,rfl,rfl,by decide +kernel,rfl,by decide +kernel,by decide +kernel⟩
theorem iw:bh ["web","calls","told","ends","j","to","i"] ["web","calls","told"] (ao cZ):=⟨rfl,rfl,rfl,by decide +kernel,rfl,by decide +kernel,by decide +kernel⟩
theorem mR:bh ["some","found","note"] ["some"] (ao eE):=⟨rfl,rfl,rfl,by decide +kernel,rfl,by decide +kernel,by decide +kernel⟩
theorem gJ:bh ["spring","calls","hands","many","ones","others","found","again","one","other"] ["spring","calls","hands","many"] (ao fU):=⟨rfl,rfl,rfl,by decide +kernel,rfl,by decide +kernel,by decide +kernel⟩
theorem mz:bh ["web","wants","some","want"] ["web","wants","some"] (ao cB):=⟨rfl,rfl,rfl,by decide +kernel,rfl,by decide +kernel,by decide +kernel⟩
theorem gG:bh ["script","spring","web","calls","handed","told","wants","again","at","hands","these","begun"] ["script"] (ao lq):=⟨rfl,rfl,rfl,by decide +kernel,rfl,by decide +kernel,by decide +kernel⟩
section
variable {P:Program} {w:World} {K:PySem.W.Frag} {mg:Str->Option Value} {base:Heap}
def aY (H:Hp) (r:Addr):Prop:=∃f t c:Int,H r=some (.lst [.int f,.int t,.int c])/\0<=f/\0<=t/\t<2305843009213693951/\0<=c
theorem aY.keep {H H':Hp} {r:Addr} (h:aY H r) (k:Same H H'):aY H' r:=by
 obtain ⟨f,t,c,e,q⟩:=h;exact ⟨f,t,c,k _ _ e,q⟩
theorem aY.keep' {H H':Hp} {r x:Addr} (h:aY H r) (k:Kp x H H') (n:r≠x):aY H' r:=by
 obtain ⟨f,t,c,e,q⟩:=h;exact ⟨f,t,c,k _ _ e n,q⟩
def kZ (K:PySem.W.Frag):Sp:=fun vs H Q _=>∃(r:Addr) (m:Int),vs=[.ref r,.int m]/\aY H r/\0<m/\m<1073741824 /\ ∀(n:Int) (H':Hp),0<=n->n<m->aY H' r->Kp r H H'->Q (.int n) H'
theorem Mi {f:Addr} {fd:FuncData} (F:lW K "_law_draw" "_law_draw" iT f fd):cT P w K mg base jJ 1 f fd ["spring","many"] (kZ K):=by
 refine F.ok rE (fun vs H Q E h=> ?_) (fun cdv A outer s H vs Q E hr h=> ?_)
 ·obtain ⟨r,m,rfl,_⟩:=h
  rfl
 ·obtain ⟨r,m,rfl,⟨f,t,c,hs,hf,ht,uW,hc⟩,m0,m1,k⟩:=h
  refine ⟨_,(aA (dX (bB UJ (aK (aO (K:=K) rfl) (pv 0) au (fun _ _=>rfl)) au (bA _)) (aA (aP (i:=2) rE.nd rfl (Or.inl rfl) (bI jW (aK (aO (K:=K) rfl) (pv 0) au (fun _ _=>rfl)) (pv 1)))
   (aA (vZ (bI Cz (aK (aO (K:=K) rfl) (pv 0) au (fun _ _=>rfl)) (pv 1)) (wg (pv 0) au set_list))
   (aG (aW (pv 2))))) bO)
   (aA (vZ (bI gb (aK (aO (K:=K) rfl) (pv 0) au (fun _ _=>rfl)) au) (wg (pv 0) au set_list))
   (aA (aP (i:=3) rE.nd rfl (Or.inl rfl) (bI jW (bI rR (aK (aO (K:=K) rfl) (pv 0) au (fun _ _=>rfl)) (aK (aO (K:=K) rfl) (pv 0) au (fun _ _=>rfl))) au))
   (aA (vZ (bI jW (bI gb (bI gb (pv 3) (bI rR (bI rR au (aK (aO (K:=K) rfl) (pv 0) au (fun _ _=>rfl))) (aK (aO (K:=K) rfl) (pv 0) au (fun _ _=>rfl)))) au) au) (wg (pv 0) au set_list))
   (aG (aW (bI jW (bI Cz (aK (aO (K:=K) rfl) (pv 0) au (fun _ _=>rfl)) au) (pv 1)))))))), ?_⟩
  refine ⟨_,rfl,_,_,_,_,rfl,rfl,aV.of hs,rfl,_,_,rfl,rfl,_,rfl, ?_⟩;refine iY (fun h0=> ?_) (fun h0=> ?_)
  ·
   refine ⟨_,rfl,_,_,_,_,rfl,rfl,aV.of hs,rfl,_,rfl,_,_,rfl,rfl,m0, ?_⟩;refine ⟨_,rfl,_,_,_,_,rfl,rfl,aV.of hs,rfl,_,rfl,_,_,rfl,rfl,⟨m0,m1⟩,_,rfl,_,_,_,_,rfl,rfl,hs,rfl, ?_⟩;refine ⟨_,rfl, ?_⟩;exact k _ _ (Int.emod_nonneg _ (by omega)) (Int.emod_lt_of_pos _ m0) ⟨_,_,_,ak,Int.ediv_nonneg hf (by omega),ht,uW,hc⟩ Kp.set
  ·
   refine ⟨_,rfl,_,_,_,_,rfl,rfl,aV.of hs,rfl,_,_,rfl,rfl,_,rfl,_,_,_,_,rfl,rfl,hs,rfl, ?_⟩;refine ⟨_,rfl,_,_,_,_,rfl,rfl,aV.of ak,rfl,_,rfl,_,_,_,_,rfl,rfl,aV.of ak,rfl,_,_,rfl,rfl,.inl ⟨by omega,by omega⟩,_,_,rfl,rfl,(by show (0:Int)<2305843009213693951;decide), ?_⟩
   refine ⟨_,rfl,_,rfl,_,_,_,_,rfl,rfl,aV.of ak,rfl,_,_,rfl,rfl,.inl ⟨by decide,by decide⟩,_,rfl,_,_,_,_,rfl,rfl,aV.of ak,rfl,_,_,rfl,rfl,.inr ⟨by omega,by omega⟩,_,_,rfl,rfl,_,_,rfl,rfl,_,_,rfl,rfl,(by show (0:Int)<2305843009213693951;decide),
    _,rfl,_,_,_,_,rfl,rfl,ak,rfl, ?_⟩
   refine ⟨_,rfl,_,_,_,_,rfl,rfl,aV.of ak,rfl,_,_,rfl,rfl,(by show Xk _ 65537;exact ⟨by decide,by decide⟩),_,rfl,_,_,rfl,rfl,m0, ?_⟩;refine k _ _ (Int.emod_nonneg _ (by omega)) (Int.emod_lt_of_pos _ m0) ⟨_,_,_,ak,hf,Int.emod_nonneg _ (by decide),Int.emod_lt_of_pos _ (by decide), ?_⟩ ?_
   ·show 0<=c+1
    omega
   ·rw [K8]
    exact Kp.set
def qY (K:PySem.W.Frag):Sp:=fun vs H Q _=>∃(a:Addr) (ns:List Int),vs=[.ref a]/\aV K H a (ns.map V.int)/\ns.length<=63 /\ ∀(r:Addr) (H':Hp),H r=none->aY H' r->Same H H'->Q (.ref r) H'
theorem Bu:Builtin.Int.intBits ((10:Int) ^ ((60:Int).toNat))<=200:=PySem.intBits_le_iff.mpr (by decide)
theorem E_ {f:Addr} {fd:FuncData} (F:lW K "_law_spring" "_law_spring" d_ f fd) (Bt:xW mg):cT P w K mg base jJ 1 f fd ["script"] (qY K):=by
 refine F.ok gH (fun vs H Q E h=> ?_) (fun cdv A outer s H vs Q E hr h=> ?_)
 ·obtain ⟨a,ns,rfl,_⟩:=h
  rfl
 ·obtain ⟨a,ns,rfl,hs,hlen,k⟩:=h
  refine ⟨_,(aA (aP (i:=1) gH.nd rfl (Or.inl rfl) au)
   (aA (aP (i:=2) gH.nd rfl (Or.inl rfl) au)
   (aA (fB PassesOwn.never rfl (bQ (K:=K) rfl (cj (jB (K:=K) rfl) (pv 0) cP (cO au))) (aX (i:=3) gH.nd rfl (Or.inl rfl))
   (aA (dX (bB Cy (aU zM (by rfl) Bt.Pa Kf (aj (pv 3) aq)) (bI Aq au au) (bA _)) (aG (aP (i:=1) gH.nd rfl (Or.inl rfl) (bI gb (bI L_ (pv 1) (bI Aq au au)) (bI jW (aU zM (by rfl) Bt.Pa Kf (aj (pv 3) aq)) (bI Aq au au))))) bO)
   (aG (aP (i:=2) gH.nd rfl (Or.inl rfl) (bI jW (bI gb (bI gb (bI rR (pv 2) au) (bI jW (pv 3) au)) au) au)))))
   (aG (aW (fZ (aj (pv 1) (aj (pv 2) (aj au aq))))))))), ?_⟩
  refine ⟨_,rfl,_,rfl,_,_,rfl,hs,fun p hp=> ?_⟩
  have aci:gq (ns.map V.int) none (some 63)=ns.map V.int:=by
   unfold gq;rw [HT.rF,show (some (63:Int))=some ((63:Nat):Int) from rfl,HT.vR,List.length_map,List.drop_zero,Nat.min_eq_right hlen,Nat.sub_zero,List.take_of_length_le (by simp)]
  rw [aci]
  refine ⟨p,rfl,⟨_,aV.of ak⟩,jC (K:=K) (a:=p) (xs:=ns.map V.int) (fun i σ H2=>∃(f t:Int) (v:Option V),σ=[some (.ref a),some (.int f),some (.int t),v]/\H2=upd H p (.lst (ns.map V.int))/\0<=f/\Builtin.Int.intBits f<=201*i/\0<=t/\t<2305843009213693951)
   ⟨0,88651,none,rfl,rfl,by decide,by decide,by decide,by decide⟩ (fun i σ H2 _ ⟨_,_,_,_,e,_⟩=>by rw [e];exact aV.of ak) ?_ ?_⟩
  ·rintro i y σ H2 hi ⟨f,t,v,rfl,rfl,hf,hb,ht,uW⟩
   have hil:i<ns.length:=by have:=(List.getElem?_eq_some_iff.mp hi).1;rwa [List.length_map] at this
   obtain ⟨z,rfl⟩:∃z,y=V.int z:=by
    rw [List.getElem?_map] at hi;cases e:ns[i]? with
    | none=>rw [e] at hi;cases hi
    | some z=>rw [e] at hi;exact ⟨z,(Option.some.inj hi).symm⟩
   refine ⟨_,rfl,_,rfl,_,_,rfl,rfl,(by show Sy 10 18;exact ⟨by decide,by decide,by decide⟩),_,_,rfl,rfl,_,rfl, ?_⟩;have hcp:Sy 10 60:=⟨by decide,by decide,by decide⟩;refine iY (fun _=> ?_) (fun _=> ?_)
   ·have hmul:IntMulOk f ((10:Int) ^ ((60:Int).toNat)):=IntMulOk.of_le hb Bu (by omega)
    have hpos:(0:Int)<(10:Int) ^ ((60:Int).toNat):=by decide
    have habs:(0:Int)<=(if z<0 then -z else z) % ((10:Int) ^ ((60:Int).toNat)):=Int.emod_nonneg _ (Int.ne_of_gt hpos)
    have VL:Builtin.Int.intBits ((if z<0 then -z else z) % ((10:Int) ^ ((60:Int).toNat)))<=200:=
     PySem.intBits_le_of_natAbs (y:=(10:Int) ^ ((60:Int).toNat)) (by have:=Int.emod_lt_of_pos (if z<0 then -z else z) hpos;omega) Bu
    refine ⟨_,rfl,_,_,rfl,rfl,hcp,_,_,rfl,rfl,hmul,_,rfl,_,rfl,_,_,rfl,rfl,hcp,_,_,rfl,rfl,hpos,_,_,rfl,rfl, ?_⟩;refine ⟨_,rfl,_,_,rfl,rfl,.inr ⟨by decide,by decide⟩,_,rfl,_,_,rfl,rfl,(by show (0:Int)<2305843009213693921;decide),_,_,rfl,rfl,_,_,rfl,rfl,_,_,rfl,rfl,(by show (0:Int)<2305843009213693951;decide), ?_⟩;refine ⟨_,_,_,rfl,rfl,Int.add_nonneg (Int.mul_nonneg hf (Int.le_of_lt hpos)) habs, ?_,Int.emod_nonneg _ (by decide),Int.emod_lt_of_pos _ (by decide)⟩;have q:=PySem.intBits_add_le (PySem.intBits_mul_le hb Bu) VL;have:max (201*i+200) 200+1=201*(i+1):=by omega
    rw [this] at q;exact q
   ·refine ⟨_,rfl,_,_,rfl,rfl,.inr ⟨by decide,by decide⟩,_,rfl,_,_,rfl,rfl,(by show (0:Int)<2305843009213693921;decide),_,_,rfl,rfl,_,_,rfl,rfl,_,_,rfl,rfl,(by show (0:Int)<2305843009213693951;decide), ?_⟩
    exact ⟨_,_,_,rfl,rfl,hf,by omega,Int.emod_nonneg _ (by decide),Int.emod_lt_of_pos _ (by decide)⟩
  ·rintro σ H2 ⟨f,t,v,rfl,rfl,hf,hb,ht,uW⟩
   refine ⟨_,rfl,_,rfl,(by show 3<=sizeLine;decide),fun r hr'=> ?_⟩;exact k r _ ((aB hp).free hr') ⟨f,t,0,ak,hf,ht,uW,by decide⟩ ((aB hp).trans (aB hr'))
abbrev bG:=Int×Str×Int
def tD (x:bG):PyData:= .tuple [.int x.1,.str x.2.1,.int x.2.2]
theorem pA (x:bG):Dn (tD x)=true:=rfl
def pZ (x:bG):Prop:=(0<=x.1/\x.1<8)/\(x.2.1 = "load" \/ x.2.1 = "store" \/ x.2.1 = "swap")/\(0<=x.2.2/\x.2.2<20)
theorem Ni {H:Hp} {t:Addr} {x:bG} (h:H t=some (.tup [.int x.1,.str x.2.1,.int x.2.2])):Dat H (.ref t) (tD x):=by
 simp only [tD,Dat];exact ⟨t,_,rfl,h,by simp only [aC,Dat,and_self]⟩
theorem sX {H:Hp} {v:V} {d:PyData} (h:Dat H v d):aC H [v] [d]:=by
 simp only [aC,and_true];exact h
def cu (H:Hp) (a:Addr) (ws:List bG):Prop:=∃vs,H a=some (.lst vs)/\aC H vs (ws.map tD)
theorem cu.same {H H':Hp} {a:Addr} {ws:List bG} (h:cu H a ws) (k:Same H H'):cu H' a ws:=by
 obtain ⟨vs,e,d⟩:=h;exact ⟨vs,k _ _ e,aC.keep k.tups _ (aQ _ pA ws) d⟩
theorem cu.kp {H H':Hp} {a r:Addr} {ws:List bG} {ys:List V} (h:cu H a ws) (hr:H r=some (.lst ys)) (k:Kp r H H') (n:a≠r):cu H' a ws:=by
 obtain ⟨vs,e,d⟩:=h;exact ⟨vs,k _ _ e n,aC.keep (k.tups hr) _ (aQ _ pA ws) d⟩
theorem cu.Lf {H H':Hp} {a r:Addr} {ws:List bG} (h:cu H a ws) (hr:aY H r) (k:Kp r H H') (n:a≠r):cu H' a ws:=by
 obtain ⟨f,t,c,e,_⟩:=hr;exact h.kp e k n
def Hf (K:PySem.W.Frag):Sp:=fun vs H Q _=>∃(r:Addr) (most:Int),vs=[.ref r,.int most]/\aY H r/\0<=most/\most<=300 /\
 ∀(a:Addr) (ws:List bG) (H':Hp),H a=none->cu H' a ws->(∀x∈ws,pZ x)->ws.length<=300->aY H' r->Kp r H H'->Q (.ref a) H'
theorem U_ (most:Int) (h0:0<=most) (h1:most<=300) (b1:Bool):∃v:Int,Gh [V.int 31,V.int (most+1)] (if b1 then 1 else 0)=some (V.int v)/\0<v/\v<=301:=by
 cases b1
 ·exact ⟨31,rfl,by decide,by decide⟩
 ·exact ⟨most+1,rfl,by omega,by omega⟩
theorem U9 (n:Int) (h0:0<=n) (h1:n<5):∃v:Int,Gh [V.int 1,V.int 2,V.int 3,V.int 5,V.int 20] n=some (V.int v)/\0<v/\v<=20:=by
 have:n=0\/n=1\/n=2\/n=3\/n=4:=by omega
 rcases this with rfl|rfl|rfl|rfl|rfl
 ·exact ⟨1,rfl,by decide,by decide⟩
 ·exact ⟨2,rfl,by decide,by decide⟩
 ·exact ⟨3,rfl,by decide,by decide⟩
 ·exact ⟨5,rfl,by decide,by decide⟩
 ·exact ⟨20,rfl,by decide,by decide⟩
def KindsOk (ks:List Str):Prop:=0<ks.length/\ks.length<=6 /\ ∀k∈ks,k = "load" \/ k = "store" \/ k = "swap"
theorem Ny {α:Type} {xs:List α} {n:Int} (h0:0<=n) (h1:n<xs.length):∃v,Gh xs n=some v/\xs[n.toNat]? = some v:=by
 obtain ⟨m,rfl⟩:=Int.eq_ofNat_of_zero_le h0;have:m<xs.length:=by omega
 exact ⟨xs[m],eN (by simp [this]),by simp [this]⟩
def wSt (a0:Addr) (a1:Int) (a2:Int) (a3:Int) (a4:Int) (a5:Int) (a6:Int) (a7:Int) (a8:Addr) (x9:Option V) (x10:Option V) (x11:Option V) (x12:Option V):St:=[some (.ref a0),some (.int a1),some (.int a2),some (.int a3),some (.int a4),some (.int a5),some (.int a6),some (.int a7),some (.ref a8),x9,x10,x11,x12]
theorem QL {f:Addr} {fd:FuncData} (F:lW K "_law_web" "_law_web" jQ f fd) (cQ:FnAt P w K mg base 1 "_law_draw" ["spring","many"] (kZ K)) (Bt:xW mg):cT P w K mg base jJ 2 f fd ["spring","most"] (Hf K):=by
 refine F.ok d7 (fun vs H Q E h=> ?_) (fun cdv A outer s H vs Q E hr h=> ?_)
 ·obtain ⟨r,m,rfl,_⟩:=h
  rfl
 ·obtain ⟨r,most,rfl,S0,mo0,mo1,k⟩:=h
  refine ⟨_,(aA (aP (i:=2) d7.nd rfl (Or.inl rfl) (bw cQ (hr.mono (by decide)) (by rfl) (aj (pv 0) (aj au aq))))
   (aA (aP (i:=3) d7.nd rfl (Or.inl rfl) (bw cQ (hr.mono (by decide)) (by rfl) (aj (pv 0) (aj (aK (aO (K:=K) rfl) (fZ (aj au (aj (bI gb (pv 1) au) aq))) (lK Gd (by rfl) Bt.O_ Ke (aj (eG j8 (pv 2) au (bA _)) aq)) (fun _ _=>rfl)) aq))))
   (aA (aP (i:=4) d7.nd rfl (Or.inl rfl) (bI gb au (bw cQ (hr.mono (by decide)) (by rfl) (aj (pv 0) (aj au aq)))))
   (aA (aP (i:=5) d7.nd rfl (Or.inl rfl) (bw cQ (hr.mono (by decide)) (by rfl) (aj (pv 0) (aj au aq))))
   (aA (aP (i:=6) d7.nd rfl (Or.inl rfl) (aK (aO (K:=K) rfl) (fZ (aj au (aj au (aj au (aj au (aj au aq)))))) (bw cQ (hr.mono (by decide)) (by rfl) (aj (pv 0) (aj au aq))) (fun _ _=>rfl)))
   (aA (aP (i:=7) d7.nd rfl (Or.inl rfl) (bw cQ (hr.mono (by decide)) (by rfl) (aj (pv 0) (aj au aq))))
   (aA (aP (i:=8) d7.nd rfl (Or.inl rfl) (fZ (aj gP (aj gP (aj gP aq)))))
   (aA (dX (bB j8 (bw cQ (hr.mono (by decide)) (by rfl) (aj (pv 0) (aj au aq))) au (bA _)) (aG (aP (i:=8) d7.nd rfl (Or.inl rfl) (fZ (aj gP (aj gP (aj gP (aj gP (aj gP (aj gP aq))))))))) bO)
   (aA (aP (i:=9) d7.nd rfl (Or.inl rfl) (fZ aq))
   (aA (fB PassesOwn.never rfl (eF (by rfl) Bt.iZ (aj (pv 3) aq)) (aX (i:=10) d7.nd rfl (Or.inl rfl))
   (aA (aP (i:=11) d7.nd rfl (Or.inl rfl) (bI jW (bI gb (pv 5) (bw cQ (hr.mono (by decide)) (by rfl) (aj (pv 0) (aj (pv 4) aq)))) au))
   (aA (aP (i:=12) d7.nd rfl (Or.inl rfl) (aK (aO (K:=K) rfl) (pv 8) (bw cQ (hr.mono (by decide)) (by rfl) (aj (pv 0) (aj (aU (bf (K:=K) rfl) (by rfl) Bt.iI eY (aj (pv 8) aq)) aq))) (fun _ _=>rfl)))
   (aG (jV (gQ (K:=K) rfl (pv 9) (aj (fY (aj (pv 11) (aj (pv 12) (aj (bI jW (bI gb (pv 7) (bw cQ (hr.mono (by decide)) (by rfl) (aj (pv 0) (aj (pv 6) aq)))) au) aq)))) aq)))))))
   (aG (aW (pv 9))))))))))))), ?_⟩
  refine jP (fun R g=> ?_);refine ⟨_,rfl,r,4,rfl,S0,by decide,by decide,fun n1 H1 a1 b1 S1 k1=> ?_⟩;refine g _ _ ?_;refine jP (fun R g=> ?_);refine ⟨_,rfl,_,rfl,_,_,rfl,rfl,(by show 2<=sizeLine;decide),fun p hp=> ?_⟩;obtain ⟨v1,e1,v10,v11⟩:=U_ most mo0 mo1 (decide (V.int n1=V.int 3));have KN:=aB (o:=HO.lst [V.int 31,V.int (most+1)]) hp;have S1':=S1.keep KN;refine ⟨_,rfl,rfl,Or.inr ⟨_,rfl,_,_,_,_,rfl,rfl,aV.of ak,e1, ?_⟩⟩;refine ⟨r,v1,rfl,S1',v10,by omega,fun n2 H2 a2 b2 S2 k2=> ?_⟩;refine g _ _ ?_;refine jP (fun R g=> ?_);refine ⟨_,rfl,r,8,rfl,S2,by decide,by decide,fun n3 H3 a3 b3 S3 k3=>⟨_,_,rfl,rfl, ?_⟩⟩;refine g _ _ ?_;refine jP (fun R g=> ?_);refine ⟨_,rfl,r,8,rfl,S3,by decide,by decide,fun n4 H4 a4 b4 S4 k4=> ?_⟩;refine g _ _ ?_;refine jP (fun R g=> ?_);refine ⟨(by show 5<=sizeLine;decide),fun p2 hp2=> ?_⟩;have SX:=aB (o:=HO.lst [V.int 1,V.int 2,V.int 3,V.int 5,V.int 20]) hp2;refine ⟨_,rfl,r,5,rfl,S4.keep SX,by decide,by decide,fun n5 H5 a5 b5 S5 k5=> ?_⟩;obtain ⟨v2,e2,v20,v21⟩:=U9 n5 a5 b5
  have np2:p2≠r:=by
   obtain ⟨f,t,c,e,_⟩:=S4;exact (aD e hp2).symm
  refine ⟨_,_,_,_,rfl,rfl,aV.of (k5 _ _ ak np2),e2, ?_⟩;refine g _ _ ?_;refine jP (fun R g=> ?_);refine ⟨_,rfl,r,20,rfl,S5,by decide,by decide,fun n6 H6 a6 b6 S6 k6=> ?_⟩;refine g _ _ ?_;have kk:Kp r H H6:=((((((k1.trans (.of_same KN)).trans k2).trans k3).trans k4).trans (.of_same SX)).trans k5).trans k6;refine jP (fun R g=> ?_);refine ⟨(by show 3<=sizeLine;decide),fun q hq=> ?_⟩;have sm3:=aB (o:=HO.lst [V.str "load",V.str "store",V.str "swap"]) hq;refine g _ _ ?_
  have nq:q≠r:=by
   obtain ⟨f,t,c,e,_⟩:=S6;exact (aD e hq).symm
  refine ⟨_,rfl,r,3,rfl,S6.keep sm3,by decide,by decide,fun n7 H7 a7 b7 S7 k7=> ?_⟩
  have rest:∀(kd:Addr) (ks:List Str) (H8:Hp),KindsOk ks->kd≠r->H8 kd=some (.lst (ks.map V.str))->aY H8 r->Kp r H H8 ->
   ∀t:TS,t=yd (Eh (T8 vI) (j9 9)) (yd (T_ (Ov (jz (jm 3) vI)) (j9 10)
    (yd (Eh (vH (rI (fun _ j=>0<j) fun i j=>V.int (i % j)) (vH (KQ fun i j=>V.int (i+j)) (jm 5) (yg (kZ K) [] E0 (jz (jm 0) (jz (jm 4) vI)))) (tC (V.int 8))) (j9 11))
      (yd (Eh (vH (Qt K) (jm 8) (yg (kZ K) [] E0 (jz (jm 0) (jz (Y7 (Ut K) (jz (jm 8) vI)) vI)))) (j9 12))
        (G5 (Ub K "list" vW (jm 9) (jz (TV (jz (jm 11) (jz (jm 12) (jz (vH (rI (fun _ j=>0<j) fun i j=>V.int (i % j)) (vH (KQ fun i j=>V.int (i+j)) (jm 7) (yg (kZ K) [] E0 (jz (jm 0) (jz (jm 6) vI)))) (tC (V.int 20))) vI)))) vI))))))
    (K9 (jm 9))) ->
   t {nx:=fun _ H'=>Q .non H',rt:=Q} (wSt r most n1 n2 (1+n3) n4 v2 n6 kd none none none none) H8:=by
   intro kd ks H8 hks nk hk S8 k8 t et;subst et;refine ⟨(by show 0<=sizeLine;decide),fun w hw=> ?_⟩;have Y_:=aB (o:=HO.lst []) hw
   have nw:w≠r:=by
    obtain ⟨f,t,c,e,_⟩:=S8;exact (aD e hw).symm
   have nwk:w≠kd:=(aD hk hw).symm
   have fresh:H w=none:=by
    cases e:H w with
    | none=>rfl
    | some o=>rw [k8 w o e nw] at hw;cases hw
   refine ⟨_,rfl,n2,rfl,by omega,by omega,gW (lo:=0) (n:=n2.toNat) (fun i σ H2=>∃(ws:List bG) (x1 x2 x3:Option V),σ=(wSt r most n1 n2 (1+n3) n4 v2 n6 kd (some (.ref w)) x1 x2 x3) /\
    cu H2 w ws/\(∀x∈ws,pZ x)/\ws.length=i/\aY H2 r/\Kp r H H2/\H2 kd=some (.lst (ks.map V.str)))
    ⟨[],none,none,none,rfl,⟨[],ak,by simp only [List.map_nil,aC]⟩,by simp,rfl,S8.keep Y_,k8.trans (.of_same Y_),Y_ _ _ hk⟩ ?_ ?_⟩
   ·rintro i σ H2 hi ⟨ws,x1,x2,x3,rfl,W2,ok2,len2,S2',kp2,hk2⟩
    refine ⟨_,rfl,_,rfl,_,rfl,r,_,rfl,S2',by omega,by omega,fun m1 G1 c1 d1 T1 j1=>⟨_,_,rfl,rfl,_,_,rfl,rfl,(by show (0:Int)<8;decide), ?_⟩⟩;have hk3:=j1 _ _ hk2 nk;refine ⟨_,rfl,_,rfl,_,rfl,kd,_,rfl,.inl (aV.of hk3),r,_,rfl,T1, ?_, ?_,fun m2 G2 c2 d2 T2 j2=> ?_⟩
    ·have:=hks.1;rw [List.length_map];omega
    ·have:=hks.2.1;rw [List.length_map];omega
    rw [List.length_map] at d2;obtain ⟨kv,ek,ek'⟩:=Ny (xs:=ks.map V.str) c2 (by rw [List.length_map];exact d2)
    obtain ⟨kind,V8,rfl⟩:∃kind,ks[m2.toNat]? = some kind/\V.str kind=kv:=by
     rw [List.getElem?_map] at ek';cases e:ks[m2.toNat]? with
     | none=>rw [e] at ek';cases ek'
     | some z=>rw [e] at ek';exact ⟨z,rfl,Option.some.inj ek'⟩
    have hk4:=j2 _ _ hk3 nk;refine ⟨_,_,_,_,rfl,rfl,aV.of hk4,ek, ?_⟩;have W3:=(W2.Lf S2' j1 nw).Lf T1 j2 nw;obtain ⟨vs3,hw3,dt3⟩:=id W3;refine ⟨_,rfl,.inl ⟨rfl,_,aV.of hw3⟩,_,rfl,_,rfl,_,rfl,_,rfl,_,rfl,r,v2,rfl,T2,v20,by omega,fun m3 G3 c3 d3 T3 j3=>⟨_,_,rfl,rfl,_,_,rfl,rfl,(by show (0:Int)<20;decide),(by show 3<=sizeLine;decide),fun tp htp=> ?_⟩⟩;have W4:=W3.Lf T2 j3 nw;have smt:=aB (o:=HO.tup [V.int ((n4+m1) % 8),V.str kind,V.int ((n6+m3) % 20)]) htp;obtain ⟨Tr,Fz,Wi⟩:=W4.same smt;have aa7:Tr.length=i:=by rw [Wi.length,List.length_map,len2]
    refine ⟨w,Tr,_,rfl,rfl,Fz,(by rw [aa7,sizeLine_eq];omega), ?_⟩;have qj:Kp w (upd G3 tp (HO.tup [V.int ((n4+m1) % 8),V.str kind,V.int ((n6+m3) % 20)])) (upd (upd G3 tp (HO.tup [V.int ((n4+m1) % 8),V.str kind,V.int ((n6+m3) % 20)])) w (HO.lst (Tr++[V.ref tp]))):=Kp.set;refine ⟨ws++[((n4+m1) % 8,kind,(n6+m3) % 20)],_,_,_,rfl,⟨_,ak, ?_⟩, ?_, ?_, ?_, ?_, ?_⟩
    ·rw [List.map_append]
     refine aC.append (aC.keep (qj.tups Fz) _ (aQ _ pA ws) Wi) ?_;exact sX (Ni (x:=((n4+m1) % 8,kind,(n6+m3) % 20)) (qj _ _ ak (fM ak Fz (by intro z;cases z))))
    ·intro x hx
     rcases List.mem_append.mp hx with hx|hx
     ·exact ok2 x hx
     ·rw [List.mem_singleton] at hx
      subst hx;exact ⟨⟨Int.emod_nonneg _ (by decide),Int.emod_lt_of_pos _ (by decide)⟩,hks.2.2 kind (List.mem_of_getElem? V8),⟨Int.emod_nonneg _ (by decide),Int.emod_lt_of_pos _ (by decide)⟩⟩
    ·rw [List.length_append,len2];rfl
    ·exact (T3.keep smt).keep' qj nw.symm
    ·have u1:Kp r H G3:=((kp2.trans j1).trans j2).trans j3
     intro b o e n;refine qj b o (smt b o (u1 b o e n)) ?_;rintro rfl;rw [fresh] at e;cases e
    ·exact qj _ _ (smt _ _ (j3 _ _ hk4 nk)) nwk.symm
   ·rintro σ H2 ⟨ws,x1,x2,x3,rfl,W2,ok2,len2,S2',kp2,hk2⟩
    exact ⟨_,rfl,k w ws H2 fresh W2 ok2 (by omega) S2' kp2⟩
  refine ⟨rfl,_,rfl, ?_⟩;have hq7:=k7 _ _ (ak (H:=H6) (a:=q) (o:=HO.lst [V.str "load",V.str "store",V.str "swap"])) nq;have k67:Kp r H H7:=(kk.trans (.of_same sm3)).trans k7;refine iY (fun _=> ?_) (fun _=> ?_)
  ·refine ⟨(by show 6<=sizeLine;decide),fun q2 hq2=> ?_⟩
   have SQ:=aB (o:=HO.lst [V.str "load",V.str "load",V.str "load",V.str "load",V.str "store",V.str "swap"]) hq2
   have nq2:q2≠r:=by
    obtain ⟨f,t,c,e,_⟩:=S7;exact (aD e hq2).symm
   exact rest q2 ["load","load","load","load","store","swap"] _ ⟨by decide,by decide,by simp⟩ nq2 ak (S7.keep SQ) (k67.trans (.of_same SQ)) _ rfl
  ·exact rest q ["load","store","swap"] _ ⟨by decide,by decide,by simp⟩ nq hq7 S7 k67 _ rfl
theorem lB {H:Hp} {v:V} {x:bG} (h:Dat H v (tD x)):∃t,v = .ref t/\H t=some (.tup [.int x.1,.str x.2.1,.int x.2.2]):=by
 simp only [tD,Dat] at h;obtain ⟨t,vs,e,q,d⟩:=h
 match vs,d with
 | [a,b,c],d=>
   simp only [aC,Dat,and_true] at d;obtain ⟨rfl,rfl,rfl⟩:=d;exact ⟨t,e,q⟩
 | [],d=>simp only [aC] at d
 | [_],d=>simp only [aC,and_false] at d
 | [_,_],d=>simp only [aC,and_false] at d
 | _::_::_::_::_,d=>simp only [aC,and_false] at d
theorem JT (x y:bG):PyData.eqv (tD x) (tD y)=decide (x=y):=by
 obtain ⟨a,b,c⟩:=x;obtain ⟨a',b',c'⟩:=y;simp only [tD,PyData.eqv,PyData.eqvAll,Bool.and_true]
 by_cases e1:a=a'
 ·subst e1
  by_cases e2:b=b'
  ·subst e2
   by_cases e3:c=c'
   ·subst e3;simp
   ·simp [e3]
  ·simp [e2]
 ·simp [e1]
theorem jO {ws:List bG} (ok:∀x∈ws,pZ x):SeqAt.shaped (.list (ws.map tD))=true:=by
 refine pR tD 1 (by decide) (fun x hx=> ?_) (fun x _=>by show (max 0 (max 0 (max 0 0)))+1<=1;decide);have e:PyData.canLay0 (tD x)=(true&&(PyData.strOk x.2.1&&(true&&true))):=rfl;rw [e];rcases (ok x hx).2.1 with q|q|q<;>rw [q]<;>decide +kernel
theorem dZ {H:Hp} {a:Addr} {ws:List bG} {i:Nat} {x:bG} (h:cu H a ws) (e:ws[i]? = some x):∃vs t,H a=some (.lst vs)/\vs[i]? = some (.ref t)/\H t=some (.tup [.int x.1,.str x.2.1,.int x.2.2]):=by
 obtain ⟨vs,ha,d⟩:=h;obtain ⟨v,ev,dv⟩:=d.getD (i:=i) (d:=tD x) (by rw [List.getElem?_map,e];rfl);obtain ⟨t,rfl,ht⟩:=lB dv;exact ⟨vs,t,ha,ev,ht⟩
abbrev Nt:=Int×Int×Int×Int
def nD (x:Nt):PyData:= .tuple [.int x.1,.int x.2.1,.int x.2.2.1,.int x.2.2.2]
def nV (x:Nt):List V:=[.int x.1,.int x.2.1,.int x.2.2.1,.int x.2.2.2]
theorem fH (x:Nt):Dn (nD x)=true:=rfl
theorem J7 {H:Hp} {v:V} {d:PyData} (h:Dat H v d):aC H [v] [d]:=by
 simp only [aC,and_true];exact h
theorem jw {H:Hp} {t:Addr} {x:Nt} (h:H t=some (.tup (nV x))):Dat H (.ref t) (nD x):=by
 simp only [nD,Dat];exact ⟨t,_,rfl,h,by simp only [nV,aC,Dat,and_self]⟩
theorem gY {H:Hp} {v:V} {x:Nt} (h:Dat H v (nD x)):∃t,v = .ref t/\H t=some (.tup (nV x)):=by
 simp only [nD,Dat] at h;obtain ⟨t,vs,e,q,d⟩:=h
 match vs,d with
 | [a,b,c,z],d=>
   simp only [aC,Dat,and_true] at d;obtain ⟨rfl,rfl,rfl,rfl⟩:=d;exact ⟨t,e,q⟩
 | [],d=>simp only [aC] at d
 | [_],d=>simp only [aC,and_false] at d
 | [_,_],d=>simp only [aC,and_false] at d
 | [_,_,_],d=>simp only [aC,and_false] at d
 | _::_::_::_::_::_,d=>simp only [aC,and_false] at d
def bT (H:Hp) (a:Addr) (ns:List Nt):Prop:=∃vs,H a=some (.lst vs)/\aC H vs (ns.map nD)
theorem bT.kp {H H':Hp} {a r:Addr} {ns:List Nt} (h:bT H a ns) (hr:∀a xs,H a=some (HO.tup xs)->H' a=some (HO.tup xs)) (k:Kp r H H') (n:a≠r):bT H' a ns:=by
 obtain ⟨vs,e,d⟩:=h;exact ⟨vs,k _ _ e n,aC.keep hr _ (aQ _ fH ns) d⟩
theorem bT.same {H H':Hp} {a:Addr} {ns:List Nt} (h:bT H a ns) (k:Same H H'):bT H' a ns:=by
 obtain ⟨vs,e,d⟩:=h;exact ⟨vs,k _ _ e,aC.keep k.tups _ (aQ _ fH ns) d⟩
theorem dI {H:Hp} {vs:List V} {ns:List Nt} {i:Nat} {v:V} (d:aC H vs (ns.map nD)) (e:vs[i]? = some v):∃x t,ns[i]? = some x/\v = .ref t/\H t=some (.tup (nV x)):=by
 obtain ⟨q,eq,dq⟩:=d.get e;rw [List.getElem?_map] at eq;cases ex:ns[i]? with
 | none=>rw [ex] at eq;cases eq
 | some x=>
   rw [ex] at eq;cases eq;obtain ⟨t,rfl,ht⟩:=gY dq;exact ⟨x,t,rfl,rfl,ht⟩
def gI (cs:List Int) (h:Int):Int:=(cs[h.toNat]?).getD 0
theorem Ks {cs:List Int} {h:Int} (h0:0<=h) (h1:h<cs.length):Gh (cs.map V.int) h=some (.int (gI cs h)):=by
 obtain ⟨m,rfl⟩:=Int.eq_ofNat_of_zero_le h0;have:m<cs.length:=by (clear h0;omega)
 refine eN ?_;simp [gI,this]
theorem MF {n:Nat} {i:Int} (h0:0<=i) (h1:i<n):MJ n i=some i.toNat:=by unfold MJ;rw [if_pos h0,if_pos h1]
theorem RL {cs:List Int} {h k v:Int} (h0:0<=h) (h1:h<cs.length) (k0:0<=k):gI (cs.set h.toNat v) k=if k=h then v else gI cs k:=by
 unfold gI;rw [List.getElem?_set]
 by_cases e:k=h
 ·subst e
  have:k.toNat<cs.length:=by (clear h0;omega)
  simp [this]
 ·have:¬h.toNat=k.toNat:=by (clear h1;omega)
  simp [e,this]
theorem DQ (a b c d:V):gq [a,b,c,d] none (some 2)=[a,b]:=oA _ 2
theorem u_ (a b c d:V):gq [a,b,c,d] (some 2) none=[c,d]:=tE _ 2
theorem wu {α:Type} (xs:List α) (h:xs.length=4):¬(HT.gn xs.length 0 none=0/\HT.gn xs.length xs.length (some 2)=xs.length):=by
 rw [h];decide
theorem oZ {α:Type} (xs:List α) (h:xs.length=4):¬(HT.gn xs.length 0 (some 2)=0/\HT.gn xs.length xs.length none=xs.length):=by
 rw [h];decide
abbrev kj:=Int×Int
def pD (x:kj):PyData:= .tuple [.int x.1,.int x.2]
theorem iG (x:kj):Dn (pD x)=true:=rfl
theorem dg {H:Hp} {t:Addr} {x:kj} (h:H t=some (.tup [.int x.1,.int x.2])):Dat H (.ref t) (pD x):=by
 simp only [pD,Dat];exact ⟨t,_,rfl,h,by simp only [aC,Dat,and_self]⟩
theorem lC {H:Hp} {v:V} {x:kj} (h:Dat H v (pD x)):∃t,v = .ref t/\H t=some (.tup [.int x.1,.int x.2]):=by
 simp only [pD,Dat] at h;obtain ⟨t,vs,e,q,d⟩:=h
 match vs,d with
 | [a,b],d=>
   simp only [aC,Dat,and_true] at d;obtain ⟨rfl,rfl⟩:=d;exact ⟨t,e,q⟩
 | [],d=>simp only [aC] at d
 | [_],d=>simp only [aC,and_false] at d
 | _::_::_::_,d=>simp only [aC,and_false] at d
def dM (H:Hp) (a:Addr) (ps:List kj):Prop:=∃vs,H a=some (.lst vs)/\aC H vs (ps.map pD)
theorem dM.same {H H':Hp} {a:Addr} {ws:List kj} (h:dM H a ws) (k:Same H H'):dM H' a ws:=by
 obtain ⟨vs,e,d⟩:=h;exact ⟨vs,k _ _ e,aC.keep k.tups _ (aQ _ iG ws) d⟩
theorem m6 (x y:kj):PyData.eqv (pD x) (pD y)=decide (x=y):=by
 obtain ⟨a,b⟩:=x;obtain ⟨c,d⟩:=y;simp only [pD,PyData.eqv,PyData.eqvAll,Bool.and_true]
 by_cases e1:a=c
 ·subst e1
  by_cases e2:b=d
  ·subst e2;simp
  ·simp [e2]
 ·simp [e1]
theorem rB (ps:List kj):SeqAt.shaped (.list (ps.map pD))=true:=pR pD 1 (by decide) (fun x _=>rfl) (fun x _=>by show (max 0 (max 0 0))+1<=1;decide)
theorem v7 {H:Hp} {vs:List V} {ps:List kj} {i:Nat} {v:V} (d:aC H vs (ps.map pD)) (e:vs[i]? = some v):∃x t,ps[i]? = some x/\v = .ref t/\H t=some (.tup [.int x.1,.int x.2]):=by
 obtain ⟨q,eq,dq⟩:=d.get e;rw [List.getElem?_map] at eq;cases ex:ps[i]? with
 | none=>rw [ex] at eq;cases eq
 | some x=>
   rw [ex] at eq;cases eq;obtain ⟨t,rfl,ht⟩:=lC dq;exact ⟨x,t,rfl,rfl,ht⟩
def cnt (ws:List bG) (h:Int):Int:=((ws.filter fun x=>decide (x.1=h)).length:Int)
theorem lD (ws:List bG) (x:bG) (h:Int):cnt (ws++[x]) h=if h=x.1 then cnt ws h+1 else cnt ws h:=by
 unfold cnt;rw [List.filter_append,List.length_append]
 by_cases e:h=x.1
 ·subst e;simp
 ·rw [if_neg e]
  have:¬x.1=h:=fun z=>e z.symm;simp [this]
def hnd (ws:List bG) (i:Nat):Int:=match ws[i]? with |some x=>x.1|none=>0
theorem dG {ws:List bG} {i:Nat} {x:bG} (h:ws[i]? = some x):hnd ws i=x.1:=by unfold hnd;rw [h]
def nm (ws:List bG):List kj:=(List.range ws.length).map fun i=>(hnd ws i,cnt (ws.take i) (hnd ws i))
theorem CN (ws:List bG) (x:bG):nm (ws++[x])=nm ws++[(x.1,cnt ws x.1)]:=by
 unfold nm;rw [List.length_append,List.length_singleton,List.range_succ,List.map_append];congr 1
 ·refine List.map_congr_left fun i hi=> ?_
  have hi':i<ws.length:=by simpa using hi
  unfold hnd;rw [List.getElem?_append_left hi',List.take_append_of_le_length (by omega)]
 ·simp [hnd]
theorem dD (ws:List bG):(nm ws).length=ws.length:=by unfold nm;simp
def qI (K:PySem.W.Frag):Sp:=fun vs H Q _=>∃(a:Addr) (ws:List bG),vs=[.ref a]/\cu H a ws/\ws.length<=1000 /\ ∀(r:Addr) (H':Hp),H r=none->dM H' r (nm ws)->Same H H'->Q (.ref r) H'
theorem Im {f:Addr} {fd:FuncData} (F:lW K "names" "names" iM f fd):cT P w K mg base jJ 1 f fd ["web"] (qI K):=by
 refine F.ok k_ (fun vs H Q E h=> ?_) (fun cdv A outer s H vs Q E hr h=> ?_)
 ·obtain ⟨a,ws,rfl,_⟩:=h
  rfl
 ·obtain ⟨a,ws,rfl,W,hlen,k⟩:=h
  have hu:=mH hr
  refine ⟨_,(aA (aP (i:=1) k_.nd rfl (Or.inl rfl) Ii)
   (aA (aP (i:=2) k_.nd rfl (Or.inl rfl) (fZ aq))
   (aA (fB PassesOwn.never rfl (bQ (K:=K) rfl (pv 0)) (aX (i:=3) k_.nd rfl (Or.inl rfl))
   (aA (aP (i:=4) k_.nd rfl (Or.inl rfl) (yE hu (pv 1) (aK (aJ (K:=K) rfl) (pv 3) au (fun _ _=>rfl)) au ⟨rfl,rfl,rfl,rfl⟩))
   (aA (jV (gQ (K:=K) rfl (pv 2) (aj (fY (aj (aK (aJ (K:=K) rfl) (pv 3) au (fun _ _=>rfl)) (aj (pv 4) aq))) aq)))
   (aG (vY hu (pv 1) (aK (aJ (K:=K) rfl) (pv 3) au (fun _ _=>rfl)) (bI gb (pv 4) au) rfl)))))
   (aG (aW (pv 2)))))), ?_⟩
  obtain ⟨vs,ha,dv⟩:=id W;have Pu:vs.length=ws.length:=by rw [dv.length,List.length_map]
  intro d hd;have KN:=aB (o:=HO.dK []) hd;refine ⟨(by show 0<=sizeLine;decide),fun p hp=> ?_⟩;have SX:=aB (o:=HO.lst []) hp;have XF:d≠p:=aD ak hp;have hp0:H p=none:=KN.free hp
  refine ⟨_,rfl,a,rfl,⟨_,aV.of (SX _ _ (KN _ _ ha))⟩,jC (K:=K) (a:=a) (xs:=vs) (fun i σ H2=>∃(kvs:List (Key×V)) (x1 x2:Option V),σ=[some (.ref a),some (.ref d),some (.ref p),x1,x2]/\Same H H2 /\
   H2 d=some (.dK kvs)/\kvs.length<=i/\(∀h:Int,(cG kvs (Sum.inl h)).getD (.int 0) = .int (cnt (ws.take i) h))/\dM H2 p (nm (ws.take i)))
   ⟨[],none,none,rfl,KN.trans SX,SX _ _ ak,Nat.zero_le _,fun h=>rfl,⟨[],ak,by simp only [List.take_zero,nm,List.length_nil,List.range_zero,List.map_nil,aC]⟩⟩ (fun i σ H2 _ ⟨_,_,_,_,sm,_⟩=>aV.of (sm _ _ ha)) ?_ ?_⟩
  ·rintro i y σ H2 hi ⟨kvs,x1,x2,rfl,sm,hd2,kl,hval,PA⟩
   have hil:i<ws.length:=by have:=(List.getElem?_eq_some_iff.mp hi).1;omega
   obtain ⟨x,ex⟩:∃x,ws[i]? = some x:=⟨ws[i],by simp [hil]⟩;obtain ⟨dd,ed,dy⟩:=dv.get hi;rw [List.getElem?_map,ex] at ed;cases ed;obtain ⟨t,rfl,ht⟩:=lB dy;have uW:H2 t=some (.tup [.int x.1,.str x.2.1,.int x.2.2]):=sm.tups _ _ ht;have tk:ws.take (i+1)=ws.take i++[x]:=by rw [List.take_add_one,ex];rfl
   have PX:(ws.take i).length=i:=by rw [List.length_take];omega
   refine ⟨_,rfl,d,rfl,.inl ⟨_,.inl hd2⟩,_,rfl,_,_,_,_,rfl,rfl,bZ.of uW,rfl,_,jk.k (k:=Sum.inl x.1) hd2, ?_⟩;rw [hval x.1];obtain ⟨ts,hts,Wh⟩:=id PA;refine ⟨_,rfl,.inl ⟨rfl,_,aV.of hts⟩,_,rfl,_,_,_,_,rfl,rfl,bZ.of uW,rfl,_,rfl,(by show 2<=sizeLine;decide),fun q hq=> ?_⟩;have sm3:=aB (o:=HO.tup [V.int x.1,V.int (cnt (ws.take i) x.1)]) hq;have JC:=sm3 _ _ hts;have TF:ts.length=i:=by rw [Wh.length,List.length_map,dD,PX]
   refine ⟨p,ts,_,rfl,rfl,JC,(by rw [TF,sizeLine_eq];omega), ?_⟩;have qj:Kp p (upd H2 q (HO.tup [V.int x.1,V.int (cnt (ws.take i) x.1)])) (upd (upd H2 q (HO.tup [V.int x.1,V.int (cnt (ws.take i) x.1)])) p (HO.lst (ts++[V.ref q]))):=Kp.set;have hd4:=qj _ _ (sm3 _ _ hd2) XF;refine ⟨_,rfl,_,_,rfl,rfl,_,rfl,_,rfl,_,_,_,_,rfl,rfl,bZ.of (qj.tups JC _ _ (sm3.tups _ _ uW)),rfl,d,_,rfl,xO.k (k:=Sum.inl x.1) hd4 (Ej (by omega)), ?_⟩;refine ⟨putK kvs (Sum.inl x.1) (V.int (cnt (ws.take i) x.1+1)),_,_,rfl, ?_,ak, ?_,fun h=> ?_, ?_⟩
   ·intro b o e
    have nb:b≠p:=aD e hp0;have nb2:b≠d:=aD e hd;rw [aN nb2];exact qj b o (sm3 b o (sm b o e)) nb
   ·exact Nat.le_trans (dY ..) (by omega)
   ·rw [jd,tk,lD]
    by_cases e:h=x.1
    ·subst e
     rw [if_pos rfl,if_pos rfl];rfl
    ·rw [if_neg (fun z=>e (Sum.inl.inj z)),if_neg e]
     exact hval h
   ·rw [tk,CN]
    have kd2:Kp d (upd (upd H2 q (HO.tup [V.int x.1,V.int (cnt (ws.take i) x.1)])) p (HO.lst (ts++[V.ref q]))) (upd (upd (upd H2 q (HO.tup [V.int x.1,V.int (cnt (ws.take i) x.1)])) p (HO.lst (ts++[V.ref q]))) d (HO.dK (putK kvs (Sum.inl x.1) (V.int (cnt (ws.take i) x.1+1))))):=Kp.set
    have Tw:∀a xs,(upd H2 q (HO.tup [V.int x.1,V.int (cnt (ws.take i) x.1)])) a=some (HO.tup xs)->(upd (upd (upd H2 q (HO.tup [V.int x.1,V.int (cnt (ws.take i) x.1)])) p (HO.lst (ts++[V.ref q]))) d (HO.dK (putK kvs (Sum.inl x.1) (V.int (cnt (ws.take i) x.1+1))))) a=some (HO.tup xs):=fun a xs hx=>
     kd2.tups' hd4 _ _ (qj.tups JC _ _ hx)
    refine ⟨_,kd2 _ _ ak XF.symm, ?_⟩;rw [List.map_append];refine aC.append (aC.keep (fun a xs hx=>Tw a xs (sm3.tups _ _ hx)) _ (aQ _ iG _) Wh) (sX (dg (x:=(x.1,cnt (ws.take i) x.1)) ?_));exact kd2 _ _ (qj _ _ ak (fM ak JC (by intro z;cases z))) (fM (qj _ _ ak (fM ak JC (by intro z;cases z))) hd4 (by intro z;cases z))
  ·rintro σ H2 ⟨kvs,x1,x2,rfl,sm,hd2,kl,hval,PA⟩
   rw [Pu,List.take_length] at PA;exact ⟨_,rfl,k p H2 hp0 PA sm⟩
def mt (x y:bG):Bool:=if x.1=y.1 then false else if x.2.2=y.2.2 then (if x.2.1 = "load" then !decide (y.2.1 = "load") else true) else false
def Qj (K:PySem.W.Frag):Sp:=fun vs H Q _=>∃i:Int,vs=[.int i]/\Q (.bl true) H
theorem yF {f:Addr} {fd:FuncData} (F:lW K "is_whole" "is_whole" cW f fd) (Bt:xW mg):cT P w K mg base jJ 1 f fd ["value"] (Qj K):=by
 refine F.ok yq (fun vs H Q E h=> ?_) (fun cdv A outer s H vs Q E hr h=> ?_)
 ·obtain ⟨i,rfl,_⟩:=h
  rfl
 ·obtain ⟨i,rfl,k⟩:=h
  refine ⟨_,(aG (aW (oY (aU (jH (K:=K) (cv:= .ty "int") (c:= .type "int") rfl rfl) (by rfl) Bt.gj eZ (aj (pv 0) (aj (nM (v:= .ty "int") (by rfl) Bt.O_ Ke rfl) aq))) (mV (Qz (aU (jH (K:=K) (cv:= .ty "bool") (c:= .type "bool") rfl rfl) (by rfl) Bt.gj eZ (aj (pv 0) (aj (nM (v:= .ty "bool") (by rfl) Bt.Sd Nq rfl) aq)))))))), ?_⟩;refine ⟨_,rfl,_,_,true,rfl,.int i,zf K,true,rfl, ?_⟩;refine iW ?_;exact ⟨_,rfl,_,_,false,rfl,.int i,wF K,false,rfl,k⟩
def yp (K:PySem.W.Frag):Sp:=fun vs H Q _=>∃(a b:Addr) (x y:bG),vs=[.ref a,.ref b]/\H a=some (.tup [.int x.1,.str x.2.1,.int x.2.2])/\H b=some (.tup [.int y.1,.str y.2.1,.int y.2.2])/\Q (.bl (mt x y)) H
theorem CP {K:PySem.W.Frag} {a b:Addr} {x y:bG} {H:Hp} {Q:VK} (ha:H a=some (.tup [.int x.1,.str x.2.1,.int x.2.2])) (hb:H b=some (.tup [.int y.1,.str y.2.1,.int y.2.2])) (k:Q (.bl (mt x y)) H) {D:Ends} (hD:D.rt=Q):
 (yd (T9 (tOr (G4 (vH rEq (vH (yw K) (jm 0) (tC (.int 0))) (vH (yw K) (jm 1) (tC (.int 0))))) (G4 (vH Xx (vH (yw K) (jm 0) (tC (.int 2))) (vH (yw K) (jm 1) (tC (.int 2)))))) (K9 (tC (.bl false))) Od)
   (K9 (TY (vH Xx (vH (yw K) (jm 0) (tC (.int 1))) (tC (.str "load"))) (vH Xx (vH (yw K) (jm 1) (tC (.int 1))) (tC (.str "load")))))) D [some (.ref a),some (.ref b)] H:=by
 refine ⟨_,rfl,_,_,_,_,rfl,rfl,bZ.of ha,rfl,_,rfl,_,_,_,_,rfl,rfl,bZ.of hb,rfl,rfl,_,rfl, ?_⟩;refine iY (fun h1=> ?_) (fun h1=> ?_)
 ·have e:x.1=y.1:=by injection (of_decide_eq_true h1)
  have em:mt x y=false:=by unfold mt;rw [if_pos e]
  refine (show D.rt (.bl false) H from ?_);rw [hD,←em];exact k
 ·have e:¬x.1=y.1:=fun z=>h1 (decide_eq_true (by rw [z]))
  refine ⟨_,rfl,_,_,_,_,rfl,rfl,bZ.of ha,rfl,_,rfl,_,_,_,_,rfl,rfl,bZ.of hb,rfl,rfl,_,rfl, ?_⟩
  by_cases e2:x.2.2=y.2.2
  ·refine yZ (by rw [e2]) ?_
   refine ⟨_,rfl,_,_,_,_,rfl,rfl,bZ.of ha,rfl,rfl,_,rfl, ?_⟩
   by_cases e3:x.2.1 = "load"
   ·refine yZ (by rw [e3]) ?_
    refine ⟨_,rfl,_,_,_,_,rfl,rfl,bZ.of hb,rfl,rfl, ?_⟩
    have em:mt x y = !decide (V.str y.2.1=V.str "load"):=by
     unfold mt;rw [if_neg e,if_pos e2,if_pos e3];congr 1;rw [Bool.eq_iff_iff,decide_eq_true_iff,decide_eq_true_iff];exact ⟨fun z=>by rw [z],fun z=>by injection z⟩
    rw [←em,hD];exact k
   ·have ne:¬V.str x.2.1=V.str "load" :=fun z=>e3 (by injection z)
    rw [decide_eq_false ne];refine iW ?_;have em:mt x y=true:=by unfold mt;rw [if_neg e,if_pos e2,if_neg e3]
    rw [←em,hD];exact k
  ·have ne:¬V.int x.2.2=V.int y.2.2:=fun z=>e2 (by injection z)
   rw [decide_eq_false ne];refine iW ?_;have em:mt x y=false:=by unfold mt;rw [if_neg e,if_neg e2]
   refine (show D.rt (.bl false) H from ?_);rw [hD,←em];exact k
theorem qg {f:Addr} {fd:FuncData} (F:lW K "touches_meet" "touches_meet" bL f fd):cT P w K mg base jJ 1 f fd ["one","other"] (yp K):=by
 refine F.ok qb (fun vs H Q E h=> ?_) (fun cdv A outer s H vs Q E hr h=> ?_)
 ·obtain ⟨a,b,x,y,rfl,_⟩:=h
  rfl
 ·obtain ⟨a,b,x,y,rfl,ha,hb,k⟩:=h
  exact ⟨_,(aA (dX (PW.pt (j7 (bB j8 (aK (aJ (K:=K) rfl) (pv 0) au (fun _ _=>rfl)) (aK (aJ (K:=K) rfl) (pv 1) au (fun _ _=>rfl)) (bA _)) (jR (bB nO (aK (aJ (K:=K) rfl) (pv 0) au (fun _ _=>rfl)) (aK (aJ (K:=K) rfl) (pv 1) au (fun _ _=>rfl)) (bA _))))) (aG (aW iy)) bO)
   (aG (aW (Oj (eG nO (aK (aJ (K:=K) rfl) (pv 0) au (fun _ _=>rfl)) gP (bA _)) (mV (eG nO (aK (aJ (K:=K) rfl) (pv 1) au (fun _ _=>rfl)) gP (bA _))))))),CP (K:=K) ha hb k rfl⟩
theorem Fe {f:Addr} {fd:FuncData} (F:lW K "_law_meets" "_law_meets" fQ f fd):cT P w K mg base jJ 1 f fd ["one","other"] (yp K):=by
 refine F.ok Em (fun vs H Q E h=> ?_) (fun cdv A outer s H vs Q E hr h=> ?_)
 ·obtain ⟨a,b,x,y,rfl,_⟩:=h
  rfl
 ·obtain ⟨a,b,x,y,rfl,ha,hb,k⟩:=h
  exact ⟨_,(aA (dX (PW.pt (j7 (bB j8 (aK (aJ (K:=K) rfl) (pv 0) au (fun _ _=>rfl)) (aK (aJ (K:=K) rfl) (pv 1) au (fun _ _=>rfl)) (bA _)) (jR (bB nO (aK (aJ (K:=K) rfl) (pv 0) au (fun _ _=>rfl)) (aK (aJ (K:=K) rfl) (pv 1) au (fun _ _=>rfl)) (bA _))))) (aG (aW iy)) bO)
   (aG (aW (Oj (eG nO (aK (aJ (K:=K) rfl) (pv 0) au (fun _ _=>rfl)) gP (bA _)) (mV (eG nO (aK (aJ (K:=K) rfl) (pv 1) au (fun _ _=>rfl)) gP (bA _))))))),CP (K:=K) ha hb k rfl⟩
def vN (K:PySem.W.Frag):Sp:=fun vs H Q _=>∃(a:Addr) (ws:List bG),vs=[.ref a]/\cu H a ws/\(∀x∈ws,pZ x)/\ws.length<=300 /\ ∀(r:Addr) (H':Hp),H r=none->dM H' r (nm ws)->Same H H'->Q (.ref r) H'
theorem ZK:(List.replicate ((8:Int)).toNat [V.int 0]).flatten=(List.replicate 8 (0:Int)).map V.int:=rfl
theorem Ip {f:Addr} {fd:FuncData} (F:lW K "_law_calls" "_law_calls" fV f fd) (Bt:xW mg):cT P w K mg base jJ 1 f fd ["web"] (vN K):=by
 refine F.ok jc (fun vs H Q E h=> ?_) (fun cdv A outer s H vs Q E hr h=> ?_)
 ·obtain ⟨a,ws,rfl,_⟩:=h
  rfl
 ·obtain ⟨a,ws,rfl,W,ok,wl,k⟩:=h
  obtain ⟨vs,ha,dv⟩:=id W;have Pu:vs.length=ws.length:=by rw [dv.length,List.length_map]
  refine ⟨_,(aA (aP (i:=1) jc.nd rfl (Or.inl rfl) (bI QD (fZ (aj au aq)) au))
   (aA (aP (i:=2) jc.nd rfl (Or.inl rfl) (fZ aq))
   (aA (fB PassesOwn.never rfl (bQ (K:=K) rfl (pv 0)) (v9 (K:=K) (n:=3) rfl rfl (jg (aX (i:=3) jc.nd rfl (Or.inl rfl)) (jg (aX (i:=4) jc.nd rfl (Or.inl rfl)) (jg (aX (i:=5) jc.nd rfl (Or.inl rfl)) v8))))
   (aA (jV (gQ (K:=K) rfl (pv 2) (aj (fY (aj (pv 3) (aj (aK (aO (K:=K) rfl) (pv 1) (pv 3) (fun _ _=>rfl)) aq))) aq)))
   (aG (vZ (bI gb (aK (aO (K:=K) rfl) (pv 1) (pv 3) (fun _ _=>rfl)) au) (wg (pv 1) (pv 3) set_list)))))
   (aG (aW (pv 2)))))), ?_⟩
  refine ⟨(by show 1<=sizeLine;decide),fun l hl=> ?_⟩;have s1:=aB (o:=HO.lst [V.int 0]) hl;refine ⟨l,_,_,rfl,rfl,ak,by decide,by decide,by rw [sizeLine_eq];simp,fun m hm=> ?_⟩;rw [ZK];have s2:=aB (o:=HO.lst ((List.replicate 8 (0:Int)).map V.int)) hm;have s12:=s1.trans s2;have hm0:H m=none:=s1.free hm;refine ⟨(by show 0<=sizeLine;decide),fun r hr'=> ?_⟩;have s3:=aB (o:=HO.lst []) hr';have vU:=s12.trans s3;have hr0:H r=none:=s12.free hr';have nmr:m≠r:=aD ak hr';refine ⟨_,rfl,a,rfl,⟨_,aV.of (vU _ _ ha)⟩, ?_⟩
  refine jC (K:=K) (a:=a) (xs:=vs) (fun i σ H2=>∃(ms:List Int) (x1 x2 x3:Option V),σ=[some (.ref a),some (.ref m),some (.ref r),x1,x2,x3]/\Same H H2/\H2 m=some (.lst (ms.map V.int))/\ms.length=8/\(∀h:Int,0<=h->h<8->gI ms h=cnt (ws.take i) h)/\dM H2 r (nm (ws.take i)))
   ⟨List.replicate 8 0,none,none,none,rfl,vU,s3 _ _ ak,by simp,fun h h0 h1=> ?_,⟨[],ak,by simp only [List.take_zero,nm,List.length_nil,List.range_zero,List.map_nil,aC]⟩⟩ (fun i σ H2 _ ⟨_,_,_,_,_,sm,_⟩=>aV.of (sm _ _ ha)) ?_ ?_
  ·have:gI (List.replicate 8 0) h=0:=by unfold gI;rw [List.getElem?_replicate];split<;>rfl
   rw [this];rfl
  ·rintro i y σ H2 hi ⟨ms,x1,x2,x3,rfl,sm,hm2,ml,hg,PA⟩
   have hil:i<ws.length:=by have:=(List.getElem?_eq_some_iff.mp hi).1;omega
   obtain ⟨x,ex⟩:∃x,ws[i]? = some x:=⟨ws[i],by simp [hil]⟩;obtain ⟨dd,ed,dy⟩:=dv.get hi;rw [List.getElem?_map,ex] at ed;cases ed;obtain ⟨t,rfl,ht⟩:=lB dy;obtain ⟨⟨x0,x1'⟩,_⟩:=ok x (List.mem_of_getElem? ex);have tk:ws.take (i+1)=ws.take i++[x]:=by rw [List.take_add_one,ex];rfl
   have PX:(ws.take i).length=i:=by rw [List.length_take];omega
   have gx:=hg x.1 x0 x1';refine ⟨t,_,rfl,bZ.of (sm _ _ ht),rfl,_,_,rfl,_,_,rfl,_,_,rfl,rfl, ?_⟩;obtain ⟨ts,hts,Wh⟩:=id PA;have tsl:ts.length=i:=by rw [Wh.length,List.length_map,dD,PX]
   refine ⟨_,rfl,.inl ⟨rfl,_,aV.of hts⟩,_,rfl,_,rfl,_,rfl,_,_,_,_,rfl,rfl,aV.of hm2,Ks x0 (by omega),(by show 2<=sizeLine;decide),fun q hq=> ?_⟩;have s4:=aB (o:=HO.tup [V.int x.1,V.int (gI ms x.1)]) hq;refine ⟨r,ts,_,rfl,rfl,s4 _ _ hts,by rw [sizeLine_eq];omega, ?_⟩;have k5:Kp r (upd H2 q (.tup [V.int x.1,V.int (gI ms x.1)])) (upd (upd H2 q (.tup [V.int x.1,V.int (gI ms x.1)])) r (.lst (ts++[V.ref q]))):=Kp.set;have t5:=k5.tups (s4 _ _ hts);have hm5:=k5 _ _ (s4 _ _ hm2) nmr;refine ⟨_,rfl,_,rfl,_,_,_,_,rfl,rfl,aV.of hm5,Ks x0 (by omega),_,_,rfl,rfl,_,rfl,_,rfl,_,_,_,_,rfl,rfl,hm5,MF x0 (by rw [List.length_map];omega), ?_⟩;have k6:Kp m (upd (upd H2 q (.tup [V.int x.1,V.int (gI ms x.1)])) r (.lst (ts++[V.ref q]))) (upd (upd (upd H2 q (.tup [V.int x.1,V.int (gI ms x.1)])) r (.lst (ts++[V.ref q]))) m (.lst ((ms.map V.int).set x.1.toNat (V.int (gI ms x.1+1))))):=Kp.set;have t6:=k6.tups hm5;refine ⟨ms.set x.1.toNat (gI ms x.1+1),_,_,_,rfl,fun b u e=>k6 _ _ (k5 _ _ (s4 _ _ (sm _ _ e)) (aD e hr0)) (aD e hm0),by rw [ak,List.map_set],by simp [ml],fun h h0 h1=> ?_, ?_⟩
   ·rw [RL x0 (by omega) h0,tk,lD]
    by_cases e:h=x.1
    ·subst e;rw [if_pos rfl,if_pos rfl,gx]
    ·rw [if_neg e,if_neg e];exact hg h h0 h1
   ·rw [tk,CN]
    refine ⟨ts++[V.ref q],k6 _ _ ak nmr.symm, ?_⟩;rw [List.map_append];refine aC.append (aC.keep (fun a xs h=>t6 _ _ (t5 _ _ (s4.tups _ _ h))) _ (aQ _ iG _) Wh) (sX (dg (x:=(x.1,cnt (ws.take i) x.1)) ?_));have:=t6 _ _ (t5 _ _ (ak (H:=H2) (a:=q) (o:=HO.tup [V.int x.1,V.int (gI ms x.1)])));rw [gx] at this;rw [gx];exact this
  ·rintro σ H2 ⟨ms,x1,x2,x3,rfl,sm,hm2,ml,hg,PA⟩
   rw [Pu,List.take_length] at PA;exact ⟨_,rfl,k r H2 hr0 PA sm⟩
theorem xg {vs:List V} {i:Nat} {v:V} (h:vs[i]? = some v):Gh vs (0+(i:Int))=some v:=by rw [Int.zero_add];exact eN h
theorem rW {ws:List bG} {i:Nat} {x:bG} (e:ws[i]? = some x):(nm ws)[i]? = some (x.1,cnt (ws.take i) x.1):=by
 have:i<ws.length:=(List.getElem?_eq_some_iff.mp e).1;unfold nm;rw [List.getElem?_map,List.getElem?_range this];simp only [Option.map_some,dG e]
theorem rM {H:Hp} {a:Addr} {ps:List kj} {i:Nat} {x:kj} (h:dM H a ps) (e:ps[i]? = some x):∃vs t,H a=some (.lst vs)/\vs[i]? = some (.ref t)/\H t=some (.tup [.int x.1,.int x.2]):=by
 obtain ⟨vs,ha,d⟩:=h;obtain ⟨v,ev,dv⟩:=d.getD (i:=i) (d:=pD x) (by rw [List.getElem?_map,e];rfl);obtain ⟨t,rfl,ht⟩:=lC dv;exact ⟨vs,t,ha,ev,ht⟩
def qZ (K:PySem.W.Frag):Sp:=fun vs H Q _=>∃(t:Addr) (x:Nt),vs=[.ref t]/\H t=some (.tup (nV x)) /\ ∀H',Same H H'->Q (.bl (!decide (x.1=x.2.2.1))) H'
theorem Ax {f:Addr} {fd:FuncData} (F:lW K "is_note" "is_note" d9 f fd) (BW:FnAt P w K mg base 1 "is_whole" ["value"] (Qj K)) (Bt:xW mg):cT P w K mg base jJ 2 f fd ["value"] (qZ K):=by
 refine F.ok Aj (fun vs H Q E h=> ?_) (fun cdv A outer s H vs Q E hr h=> ?_)
 ·obtain ⟨t,x,rfl,_⟩:=h
  rfl
 ·obtain ⟨t,x,rfl,ht,k⟩:=h
  have wH:=hr.units
  refine ⟨_,(aA (dX (PW.pt (j7 (gO (fu (aU (jH (K:=K) (cv:= .ty "tuple") (c:= .type "tuple") rfl rfl) (by rfl) Bt.gj eZ (aj (pv 0) (aj (nM (v:= .ty "tuple") (by rfl) Bt.Nv Kd rfl) aq))))) (jR (bB nO (aU (bf (K:=K) rfl) (by rfl) Bt.iI eY (aj (pv 0) aq)) au (bA _))))) (aG (aW iy)) bO)
   (aG (aW (oY (aU (dz (K:=K) rfl rfl) (by rfl) Bt.zU tQ (aj (iV rfl (N:=["number"]) (own:=["number"]) (caps:=[]) (aR.of (by kernel_rfl)) (Ly (K:=K) rfl (pv 0)) (fun _ _ _ _=>(aX (i:=0) (show List.Nodup (["number"]:List Str) by decide +kernel) rfl (Or.inl rfl))) (fun _ _ _ _=>iU) (fun _ _ _ _=>(bw BW (hr.mono (by decide)) (by rfl) (aj (pv 0) aq)))) aq)) (mV (eG nO (aK (aJ (K:=K) rfl) (pv 0) au (fun _ _=>rfl)) (aK (aJ (K:=K) rfl) (pv 0) au (fun _ _=>rfl)) (bA _))))))), ?_⟩
  refine ⟨_,rfl,_,_,true,rfl,.tup ht,ql K,true,rfl, ?_⟩;refine eX ?_;refine ⟨_,rfl,t,_,rfl,.inr (bZ.of ht),rfl,_,rfl, ?_⟩;refine yZ (by rfl) ?_;refine ⟨_,rfl,t,rfl,⟨_,bZ.of ht⟩,fun D hD=> ?_⟩;refine FW (K:=K) (fun i=>some (.bl true)) hD ht (by show 4<=100000;decide) (fun i v H2 G F hi s2 kG kF=> ?_) (fun H2 s2 e2=> ?_)
  ·obtain ⟨z,rfl⟩:∃z,v=V.int z:=by
    have hm:=List.mem_of_getElem? hi;simp only [nV,List.mem_cons,List.not_mem_nil,or_false] at hm;rcases hm with rfl|rfl|rfl|rfl<;>exact ⟨_,rfl⟩
   exact ⟨_,rfl,z,rfl,kF _ H2 (Same.refl _) rfl⟩
  ·refine ⟨D,[true,true,true,true],rfl,aV.of e2,true,rfl, ?_⟩
   refine iW ?_;refine ⟨_,rfl,_,_,_,_,rfl,rfl,bZ.of (s2 _ _ ht),rfl,_,rfl,_,_,_,_,rfl,rfl,bZ.of (s2 _ _ ht),rfl,rfl, ?_⟩
   have e:(!decide (V.int x.1=V.int x.2.2.1))=(!decide (x.1=x.2.2.1)):=by
    by_cases q:x.1=x.2.2.1
    ·simp [q]
    ·simp [q]
   show Q (.bl (!decide (V.int x.1=V.int x.2.2.1))) H2;rw [e];exact k H2 s2
theorem jF {ws:List bG} {m n:Nat} (h:m<=n) (g:Int):cnt (ws.take m) g<=cnt (ws.take n) g:=by
 have e:ws.take n=ws.take m++(ws.take n).drop m:=by
  have:=List.take_append_drop m (ws.take n);rw [List.take_take,Nat.min_eq_left h] at this;exact this.symm
 unfold cnt;rw [e,List.filter_append,List.length_append];omega
theorem jr {ws:List bG} {i:Nat} {x:kj} (h:(nm ws)[i]? = some x):∃y,ws[i]? = some y/\x=(y.1,cnt (ws.take i) y.1):=by
 have il:i<ws.length:=by have:=(List.getElem?_eq_some_iff.mp h).1;rw [dD] at this;exact this
 have e:ws[i]? = some ws[i]:=by simp [il]
 rw [rW e] at h;exact ⟨ws[i],e,(Option.some.inj h).symm⟩
theorem Ja {ws:List bG} {i j:Nat} {x:kj} (hi:(nm ws)[i]? = some x) (hj:(nm ws)[j]? = some x):¬i<j:=fun lt=>by
 obtain ⟨y,ey,e1⟩:=jr hi;obtain ⟨z,ez,e2⟩:=jr hj;rw [e1] at e2;injection e2 with h1 h2
 have tk:ws.take (i+1)=ws.take i++[y]:=by rw [List.take_add_one,ey];rfl
 have m:=jF (ws:=ws) (m:=i+1) (n:=j) lt y.1;rw [tk,lD,if_pos rfl] at m;rw [←h1] at h2;omega
theorem gR {ws:List bG} {i j:Nat} {x:kj} (hi:(nm ws)[i]? = some x) (hj:(nm ws)[j]? = some x):i=j:=by
 have:=Ja hi hj;have:=Ja hj hi;omega
def kx (x:kj):List Key:=[Sum.inl x.1,Sum.inl x.2]
theorem Jp {x y:kj} (h:kx x=kx y):x=y:=by
 unfold kx at h;injection h with h1 h2
 injection h2 with h2 _
 have a:x.1=y.1:=Sum.inl.inj h1;have b:x.2=y.2:=Sum.inl.inj h2;exact Prod.ext a b
def Gk (kvs:List (List Key×V)) (ps:List kj):Prop:=(∀(m:Nat) (x:kj),ps[m]? = some x->cG kvs (kx x)=some (.int m)) /\ ∀x:kj,x∉ps->cG kvs (kx x)=none
def kY (K:PySem.W.Frag):Sp:=fun vs H Q _=>∃(a:Addr) (ws:List bG),vs=[.ref a]/\cu H a ws/\ws.length<=300 /\ ∀(d:Addr) (kvs:List (List Key×V)) (H':Hp),H d=none->H' d=some (.dT kvs)->Gk kvs (nm ws)->Same H H'->Q (.ref d) H'
theorem Fb {f:Addr} {fd:FuncData} (F:lW K "places_of" "places_of" cH f fd) (xG:FnAt P w K mg base 1 "names" ["web"] (qI K)) (Bt:xW mg):cT P w K mg base jJ 2 f fd ["web"] (kY K):=by
 refine F.ok iK (fun vs H Q E h=> ?_) (fun cdv A outer s H vs Q E hr h=> ?_)
 ·obtain ⟨a,ws,rfl,_⟩:=h
  rfl
 ·obtain ⟨a,ws,rfl,W,wl,k⟩:=h
  have hu:=mH hr
  refine ⟨_,(aA (aP (i:=1) iK.nd rfl (Or.inl rfl) rO)
   (aA (fB PassesOwn.never rfl (Ia (K:=K) rfl (by rfl) Bt.zT (aj (bw xG (hr.mono (by decide)) (by rfl) (aj (pv 0) aq)) aq)) (v9 (K:=K) (n:=2) rfl rfl (jg (aX (i:=2) iK.nd rfl (Or.inl rfl)) (jg (aX (i:=3) iK.nd rfl (Or.inl rfl)) v8)))
   (aG (vY hu (pv 1) (pv 3) (pv 2) rfl)))
   (aG (aW (pv 1))))), ?_⟩
  intro d hd;have s1:=aB (o:=HO.dT []) hd;refine ⟨_,rfl,a,ws,rfl,W.same s1,by omega,fun p H2 hp PA s2=> ?_⟩;obtain ⟨vs,hp2,dv⟩:=id PA;have vl:vs.length=ws.length:=by rw [dv.length,List.length_map,dD]
  refine ⟨p,vs,rfl,aV.of hp2, ?_⟩;have XF:d≠p:=aD ak hp
  refine JR (K:=K) (a:=p) (xs:=vs) (fun i σ H3=>∃(kvs:List (List Key×V)) (x1 x2:Option V),σ=[some (.ref a),some (.ref d),x1,x2]/\H3 d=some (.dT kvs)/\kvs.length<=i/\Gk kvs ((nm ws).take i)/\Kp d H2 H3)
   ⟨[],none,none,rfl,s2 _ _ ak,Nat.le_refl _,⟨fun m x e=>by simp at e,fun x _=>rfl⟩,Kp.refl _ _⟩ (fun i σ H3 _ ⟨_,_,_,_,_,_,_,kp⟩=>aV.of (kp _ _ hp2 XF.symm)) ?_ ?_
  ·rintro i v σ H3 q hi ⟨kvs,x1,x2,rfl,hd3,kl,pl,kp⟩ hq
   obtain ⟨x,t,ex,rfl,ht⟩:=v7 dv hi;have il:=(List.getElem?_eq_some_iff.mp hi).1;have sq:=aB (o:=HO.tup [V.int i,V.ref t]) hq;have ht3:H3 t=some (.tup [.int x.1,.int x.2]):=kp _ _ ht (fM ht (s2 _ _ ak) (by intro z;cases z));refine ⟨q,_,rfl,bZ.of ak,rfl,_,_,rfl,_,_,rfl,rfl, ?_⟩;refine ⟨_,rfl,_,rfl,_,rfl,d,_,rfl,xO.t (k:=kx x) (sq _ _ hd3) (sq _ _ ht3) (by rw [sizeLine_eq];omega), ?_⟩;have tk:(nm ws).take (i+1)=(nm ws).take i++[x]:=by rw [List.take_add_one,ex];rfl
   have tl:((nm ws).take i).length=i:=by rw [List.length_take,dD];omega
   refine ⟨putK kvs (kx x) (V.int i),_,_,rfl,ak, ?_,⟨fun m y e=> ?_,fun y hy=> ?_⟩,fun b o e nb=> ?_⟩
   ·exact Nat.le_trans (dY ..) (by omega)
   ·rw [jd]
    rw [tk] at e
    by_cases hm:m<i
    ·rw [List.getElem?_append_left (by omega)] at e
     have ne:¬kx y=kx x:=fun z=>by
      have z:=Jp z;subst z;have e':(nm ws)[m]? = some y:=by rw [List.getElem?_take_of_lt hm] at e;exact e
      have:=gR e' ex;omega
     rw [if_neg ne];exact pl.1 m y e
    ·rw [List.getElem?_append_right (by omega),tl] at e
     have ml:m - i<1:=(List.getElem?_eq_some_iff.mp e).1;have:m=i:=by omega
     subst this;rw [Nat.sub_self] at e;cases e;rw [if_pos rfl]
   ·rw [tk] at hy
    have n1:y∉(nm ws).take i:=fun z=>hy (List.mem_append.mpr (.inl z));have n2:y≠x:=fun z=>hy (List.mem_append.mpr (.inr (by rw [z];simp)));rw [jd,if_neg (fun z=>n2 (Jp z))];exact pl.2 y n1
   ·rw [aN nb]
    exact sq _ _ (kp _ _ e nb)
  ·rintro σ H3 ⟨kvs,x1,x2,rfl,hd3,kl,pl,kp⟩
   have e:(nm ws).take vs.length=nm ws:=by rw [vl,←dD ws,List.take_length]
   rw [e] at pl;exact ⟨_,rfl,k d kvs H3 hd hd3 pl fun b o eb=>kp _ _ (s2 _ _ (s1 _ _ eb)) (aD eb hd)⟩
def n1 (x:Nt):kj:=(x.1,x.2.1)
def n2 (x:Nt):kj:=(x.2.2.1,x.2.2.2)
def iJ (ws:List bG) (x:Nt) (i j:Nat):Prop:=x.1≠x.2.2.1/\(nm ws)[i]? = some (n1 x)/\(nm ws)[j]? = some (n2 x)/\i<j
def oG (ws:List bG) (x:Nt):Prop:=∃i j,iJ ws x i j
def dJ (ws:List bG) (x:Nt):Prop:=∃i j y z,iJ ws x i j/\ws[i]? = some y/\ws[j]? = some z/\mt y z=true
theorem qM {α:Type} {x:α} {l:List α} (h:x∈l):∃i:Nat,l[i]? = some x:=List.getElem?_of_mem h
def nA (K:PySem.W.Frag):Sp:=fun vs H Q _=>∃(d t:Addr) (kvs:List (List Key×V)) (ws:List bG) (x:Nt),vs=[.ref d,.ref t]/\H d=some (.dT kvs)/\Gk kvs (nm ws)/\H t=some (.tup (nV x)) /\ ∀(bl:Bool) (H':Hp),(bl=true↔oG ws x)->Same H H'->Q (.bl bl) H'
theorem EY {f:Addr} {fd:FuncData} (F:lW K "is_strict" "is_strict" cI f fd) (Gm:FnAt P w K mg base 2 "is_note" ["value"] (qZ K)):cT P w K mg base jJ 3 f fd ["places","note"] (nA K):=by
 refine F.ok vQ (fun vs H Q E h=> ?_) (fun cdv A outer s H vs Q E hr h=> ?_)
 ·obtain ⟨d,t,kvs,ws,x,rfl,_⟩:=h
  rfl
 ·obtain ⟨d,t,kvs,ws,x,rfl,hd,pl,ht,k⟩:=h
  have hu:=mH hr
  refine ⟨_,(aA (dX (PW.pt (j7 (gO (fu (bw Gm (hr.mono (by decide)) (by rfl) (aj (pv 1) aq)))) (j7 (HS (uM hu (cj (g_ (K:=K) rfl) (pv 1) cP (cO au)) (pv 0))) (jR (HS (uM hu (cj (g_ (K:=K) rfl) (pv 1) (cO au) cP) (pv 0))))))) (aG (aW iy)) bO)
   (aG (aW (eG Il (jq hu (pv 0) (cj (g_ (K:=K) rfl) (pv 1) cP (cO au)) (fun _ _=>rfl)) (jq hu (pv 0) (cj (g_ (K:=K) rfl) (pv 1) (cO au) cP) (fun _ _=>rfl)) (bA _))))), ?_⟩
  refine ⟨_,rfl,t,x,rfl,ht,fun H1 s1=>⟨_,rfl, ?_⟩⟩;have ht1:=s1 _ _ ht;have hd1:=s1 _ _ hd;have no:∀{H':Hp},Same H1 H' -> ¬oG ws x->Q (.bl false) H':=fun sm z=>k false _ ⟨fun w=>(by cases w),fun w=>absurd w z⟩ (s1.trans sm)
  by_cases hne:x.1=x.2.2.1
  ·rw [show (!decide (x.1=x.2.2.1))=false by simp [hne]]
   exact iW (no (Same.refl _) fun ⟨_,_,z,_⟩=>z hne)
  rw [show (!decide (x.1=x.2.2.1))=true by simp [hne]];refine eX ?_;refine ⟨_,rfl,_,rfl,_,_,rfl,bZ.of ht1,wu _ rfl,fun p1 hp1=> ?_⟩;rw [show gq (nV x) none (some 2)=[.int x.1,.int x.2.1] from DQ ..];have s2:=aB (o:=HO.tup [V.int x.1,V.int x.2.1]) hp1;refine ⟨_,rfl,d,_,rfl,jk.t (k:=kx (n1 x)) (s2 _ _ hd1) ak,_,rfl, ?_⟩
  by_cases m1:n1 x∈nm ws
  rotate_left
  ·rw [pl.2 _ m1]
   exact iW (no s2 fun ⟨i,j,_,z,_⟩=>m1 (List.mem_of_getElem? z))
  obtain ⟨i,ei⟩:=qM m1;rw [pl.1 i _ ei];refine eX ?_;have uW:=s2 _ _ ht1;have hd2:=s2 _ _ hd1;refine ⟨_,rfl,_,rfl,_,_,rfl,bZ.of uW,oZ _ rfl,fun p2 hp2=> ?_⟩;rw [show gq (nV x) (some 2) none=[.int x.2.2.1,.int x.2.2.2] from u_ ..];have s3:=aB (o:=HO.tup [V.int x.2.2.1,V.int x.2.2.2]) hp2;have Uk:=s2.trans s3;refine ⟨_,rfl,d,_,rfl,jk.t (k:=kx (n2 x)) (s3 _ _ hd2) ak,_,rfl, ?_⟩
  by_cases m2:n2 x∈nm ws
  rotate_left
  ·rw [pl.2 _ m2]
   exact iW (no Uk fun ⟨i,j,_,_,z,_⟩=>m2 (List.mem_of_getElem? z))
  obtain ⟨j,ej⟩:=qM m2;rw [pl.1 j _ ej];refine eX ?_;refine ⟨_,rfl,_,rfl,_,rfl,_,_,rfl,bZ.of (s3 _ _ uW),wu _ rfl,fun p3 hp3=> ?_⟩;rw [show gq (nV x) none (some 2)=[.int x.1,.int x.2.1] from DQ ..];have s4:=aB (o:=HO.tup [V.int x.1,V.int x.2.1]) hp3;have ZD:=Uk.trans s4;refine ⟨d,_,rfl,pl.1 i _ ei▸jk.t (k:=kx (n1 x)) (ZD _ _ hd1) ak, ?_⟩;refine ⟨_,rfl,_,rfl,_,rfl,_,_,rfl,bZ.of (ZD _ _ ht1),oZ _ rfl,fun p4 Rx=> ?_⟩;rw [show gq (nV x) (some 2) none=[.int x.2.2.1,.int x.2.2.2] from u_ ..];have s5:=aB (o:=HO.tup [V.int x.2.2.1,V.int x.2.2.2]) Rx;have Xu:=ZD.trans s5;refine ⟨d,_,rfl,pl.1 j _ ej▸jk.t (k:=kx (n2 x)) (Xu _ _ hd1) ak,_,_,rfl,rfl, ?_⟩;refine k _ _ ?_ (s1.trans Xu);rw [decide_eq_true_iff];constructor
  ·intro z
   exact ⟨i,j,hne,ei,ej,by omega⟩
  ·rintro ⟨i',j',_,a,b,c⟩
   have:=gR a ei;have:=gR b ej;omega
def nG (K:PySem.W.Frag):Sp:=fun vs H Q _=>∃(a d t:Addr) (kvs:List (List Key×V)) (ws:List bG) (x:Nt),vs=[.ref a,.ref d,.ref t]/\cu H a ws/\H d=some (.dT kvs)/\Gk kvs (nm ws)/\H t=some (.tup (nV x)) /\ ∀(bl:Bool) (H':Hp),(bl=true↔dJ ws x)->Same H H'->Q (.bl bl) H'
theorem Fd {f:Addr} {fd:FuncData} (F:lW K "is_want" "is_want" d8 f fd) (lG:FnAt P w K mg base 3 "is_strict" ["places","note"] (nA K)) (jj:FnAt P w K mg base 1 "touches_meet" ["one","other"] (yp K)):cT P w K mg base jJ 4 f fd ["web","places","note"] (nG K):=by
 refine F.ok Ai (fun vs H Q E h=> ?_) (fun cdv A outer s H vs Q E hr h=> ?_)
 ·obtain ⟨a,d,t,kvs,ws,x,rfl,_⟩:=h
  rfl
 ·obtain ⟨a,d,t,kvs,ws,x,rfl,W,hd,pl,ht,k⟩:=h
  have hu:=mH hr;refine ⟨_,(aG (aW (oY (bw lG (hr.mono (by decide)) (by rfl) (aj (pv 1) (aj (pv 2) aq))) (mV (bw jj (hr.mono (by decide)) (by rfl) (aj (aK (aO (K:=K) rfl) (pv 0) (jq hu (pv 1) (cj (g_ (K:=K) rfl) (pv 2) cP (cO au)) (fun _ _=>rfl)) (fun _ _=>rfl)) (aj (aK (aO (K:=K) rfl) (pv 0) (jq hu (pv 1) (cj (g_ (K:=K) rfl) (pv 2) (cO au) cP) (fun _ _=>rfl)) (fun _ _=>rfl)) aq))))))), ?_⟩;refine ⟨_,rfl,_,rfl,d,t,kvs,ws,x,rfl,hd,pl,ht,fun bl H1 Yd s1=>⟨_,rfl, ?_⟩⟩;cases bl with
  | false=>
    refine eX ?_;exact k false H1 ⟨fun z=>(by cases z),fun ⟨i,j,_,_,z,_⟩=>absurd (Yd.mpr ⟨i,j,z⟩) (by decide)⟩ s1
  | true=>
    refine iW ?_;obtain ⟨i,j,hne,ei,ej,lt⟩:=Yd.mp rfl;obtain ⟨y,ey,_⟩:=jr ei;obtain ⟨z,ez,_⟩:=jr ej;have ht1:=s1 _ _ ht;have hd1:=s1 _ _ hd;refine ⟨_,rfl,_,rfl,_,rfl,_,rfl,_,_,rfl,bZ.of ht1,wu _ rfl,fun p3 hp3=> ?_⟩;rw [show gq (nV x) none (some 2)=[.int x.1,.int x.2.1] from DQ ..];have s4:=aB (o:=HO.tup [V.int x.1,V.int x.2.1]) hp3;obtain ⟨vs4,q,M4,eq4,M5⟩:=dZ ((W.same s1).same s4) ey;refine ⟨d,_,rfl,pl.1 i _ ei▸jk.t (k:=kx (n1 x)) (s4 _ _ hd1) ak,_,_,_,_,rfl,rfl,aV.of M4,eN eq4, ?_⟩;refine ⟨_,rfl,_,rfl,_,rfl,_,rfl,_,_,rfl,bZ.of (s4 _ _ ht1),oZ _ rfl,fun p4 Rx=> ?_⟩;rw [show gq (nV x) (some 2) none=[.int x.2.2.1,.int x.2.2.2] from u_ ..];have s5:=aB (o:=HO.tup [V.int x.2.2.1,V.int x.2.2.2]) Rx;have ZC:=s4.trans s5;obtain ⟨Tr,q5,Fz,eq5,hq5⟩:=dZ ((W.same s1).same ZC) ez;refine ⟨d,_,rfl,pl.1 j _ ej▸jk.t (k:=kx (n2 x)) (ZC _ _ hd1) ak,_,_,_,_,rfl,rfl,aV.of Fz,eN eq5, ?_⟩;refine ⟨q,q5,y,z,rfl,s5 _ _ M5,hq5, ?_⟩;refine k _ _ ⟨fun w=>⟨i,j,y,z,⟨hne,ei,ej,lt⟩,ey,ez,w⟩, ?_⟩ (s1.trans ZC);rintro ⟨i',j',y',z',⟨_,a1,a2,_⟩,b1,b2,b3⟩;have e1:=gR a1 ei;have e2:=gR a2 ej;subst e1 e2;rw [ey] at b1;rw [ez] at b2;cases b1;cases b2;exact b3
def mB (x y:Nt):Bool:=decide (x.1=y.1/\x.2.2.1=y.2.2.1)&&(decide (x.2.1≥y.2.1)&&decide (x.2.2.2<=y.2.2.2))
def jA (K:PySem.W.Frag):Sp:=fun vs H Q _=>∃(t:Addr) (x:Nt),vs=[.ref t]/\H t=some (.tup (nV x)) /\ ∀p,H p=none->Q (.ref p) (upd H p (.tup [.int x.1,.int x.2.2.1]))
theorem Ay {f:Addr} {fd:FuncData} (F:lW K "hands_of" "hands_of" cX f fd):cT P w K mg base jJ 1 f fd ["note"] (jA K):=by
 refine F.ok yr (fun vs H Q E h=> ?_) (fun cdv A outer s H vs Q E hr h=> ?_)
 ·obtain ⟨t,x,rfl,_⟩:=h
  rfl
 ·obtain ⟨t,x,rfl,ht,k⟩:=h
  refine ⟨_,(aG (aW (fY (aj (aK (aJ (K:=K) rfl) (pv 0) au (fun _ _=>rfl)) (aj (aK (aJ (K:=K) rfl) (pv 0) au (fun _ _=>rfl)) aq))))), ?_⟩;refine ⟨_,rfl,_,_,_,_,rfl,rfl,bZ.of ht,rfl,_,rfl,_,_,_,_,rfl,rfl,bZ.of ht,rfl,(by show 2<=sizeLine;decide),fun p hp=>k p hp⟩
def qJ (K:PySem.W.Frag):Sp:=fun vs H Q _=>∃(t u:Addr) (x y:Nt),vs=[.ref t,.ref u]/\H t=some (.tup (nV x))/\H u=some (.tup (nV y)) /\ ∀H',Same H H'->Q (.bl (mB x y)) H'
theorem Io {f:Addr} {fd:FuncData} (F:lW K "meets" "meets" iQ f fd) (fL:FnAt P w K mg base 1 "hands_of" ["note"] (jA K)):cT P w K mg base jJ 2 f fd ["note","want"] (qJ K):=by
 refine F.ok Hv (fun vs H Q E h=> ?_) (fun cdv A outer s H vs Q E hr h=> ?_)
 ·obtain ⟨t,u,x,y,rfl,_⟩:=h
  rfl
 ·obtain ⟨t,u,x,y,rfl,ht,hu',k⟩:=h
  have wH:=hr.units;refine ⟨_,(aG (aW (oY (eG (qL (K:=K) rfl wH) (bw fL (hr.mono (by decide)) (by rfl) (aj (pv 0) aq)) (bw fL (hr.mono (by decide)) (by rfl) (aj (pv 1) aq)) (bA _)) (oY (eG Cy (aK (aJ (K:=K) rfl) (pv 0) au (fun _ _=>rfl)) (aK (aJ (K:=K) rfl) (pv 1) au (fun _ _=>rfl)) (bA _)) (mV (eG Om (aK (aJ (K:=K) rfl) (pv 0) au (fun _ _=>rfl)) (aK (aJ (K:=K) rfl) (pv 1) au (fun _ _=>rfl)) (bA _))))))), ?_⟩;refine ⟨_,rfl,t,x,rfl,ht,fun p hp=> ?_⟩;have s1:=aB (o:=HO.tup [V.int x.1,V.int x.2.2.1]) hp;refine ⟨_,rfl,u,y,rfl,s1 _ _ hu',fun q hq=> ?_⟩;have s2:=aB (o:=HO.tup [V.int y.1,V.int y.2.2.1]) hq;have s12:=s1.trans s2;refine ⟨_,_,dg (x:=(x.1,x.2.2.1)) (s2 _ _ ak),dg (x:=(y.1,y.2.2.1)) ak,rfl,rfl,_,rfl, ?_⟩
  have e:(if false=true then !PyData.eqv (pD (x.1,x.2.2.1)) (pD (y.1,y.2.2.1)) else PyData.eqv (pD (x.1,x.2.2.1)) (pD (y.1,y.2.2.1)))=decide (x.1=y.1/\x.2.2.1=y.2.2.1):=by
   rw [if_neg (by decide),m6,Bool.eq_iff_iff,decide_eq_true_iff,decide_eq_true_iff,Prod.mk.injEq]
  rw [e];have kk:=k _ s12
  by_cases w:x.1=y.1/\x.2.2.1=y.2.2.1
  rotate_left
  ·rw [decide_eq_false w]
   refine eX ?_;have:mB x y=false:=by simp only [mB,decide_eq_false w,Bool.false_and]
   rw [this] at kk;exact kk
  rw [decide_eq_true w];refine iW ?_;refine ⟨_,rfl,_,_,_,_,rfl,rfl,bZ.of (s12 _ _ ht),rfl,_,rfl,_,_,_,_,rfl,rfl,bZ.of (s12 _ _ hu'),rfl,_,_,rfl,rfl,_,rfl, ?_⟩
  by_cases w2:x.2.1≥y.2.1
  rotate_left
  ·rw [decide_eq_false w2]
   refine eX ?_;have:mB x y=false:=by simp only [mB,decide_eq_false w2,Bool.false_and,Bool.and_false]
   rw [this] at kk;exact kk
  rw [decide_eq_true w2];refine iW ?_;refine ⟨_,rfl,_,_,_,_,rfl,rfl,bZ.of (s12 _ _ ht),rfl,_,rfl,_,_,_,_,rfl,rfl,bZ.of (s12 _ _ hu'),rfl,_,_,rfl,rfl, ?_⟩;have:mB x y=decide (x.2.2.2<=y.2.2.2):=by simp only [mB,decide_eq_true w,decide_eq_true w2,Bool.true_and]
  rw [this] at kk;exact kk
def nK (x:Nt):List Int:=[x.1,x.2.1,x.2.2.1,x.2.2.2]
theorem Q_ (x:Nt):(nK x).map V.int=nV x:=rfl
theorem Ra {x y:Nt} (h:nK x=nK y):x=y:=by
 obtain ⟨a,b,c,d⟩:=x;obtain ⟨a',b',c',d'⟩:=y;simp only [nK,List.cons.injEq,and_true] at h;obtain ⟨rfl,rfl,rfl,rfl⟩:=h;rfl
def Sv (ns:List Nt):Prop:=ns.Pairwise fun x y=>Tim.cJ (nK y) (nK x)=false
def vInt:V->Int
 | .int n=>n
 | _=>0
def tupK (H:Hp) (v:V):List Int:=match v with
 | .ref t=>match H t with
   | some (.tup xs)=>xs.map vInt
   | _=>[]
 | _=>[]
def toN:List Int->Nt
 | [a,b,c,d]=>(a,b,c,d)
 | _=>(0,0,0,0)
theorem lJ {H:Hp} {t:Addr} {x:Nt} (h:H t=some (.tup (nV x))):tupK H (.ref t)=nK x:=by
 unfold tupK;dsimp only;rw [h];rfl
theorem GZ (x:Nt):toN (nK x)=x:=rfl
theorem CJ {H:Hp} {vs:List V} {ns:List Nt} (d:aC H vs (ns.map nD)) {v:V} (hv:v∈vs):∃t x,v = .ref t/\x∈ns/\H t=some (.tup (nV x)):=by
 obtain ⟨i,hi,e⟩:=List.getElem_of_mem hv;obtain ⟨x,t,ex,ev,ht⟩:=dI d (i:=i) (v:=v) (by rw [List.getElem?_eq_getElem hi,e]);exact ⟨t,x,ev,List.mem_of_getElem? ex,ht⟩
theorem CK {H:Hp}:∀{vs:List V} {ns:List Nt},aC H vs (ns.map nD)->vs.map (fun v=>toN (tupK H v))=ns
 | [],[],_=>rfl
 | [],_::_,h=>by simp only [List.map_cons,aC] at h
 | _::_,[],h=>by simp only [List.map_nil,aC] at h
 | v::vs,n::ns,h=>by
   simp only [List.map_cons,aC] at h;obtain ⟨t,rfl,ht⟩:=gY h.1;rw [List.map_cons,CK h.2,lJ ht,GZ]
theorem Iv {H:Hp}:∀{vs:List V},(∀v∈vs,∃t x,v=V.ref t/\H t=some (.tup (nV x)))->aC H vs ((vs.map fun v=>toN (tupK H v)).map nD)
 | [],_=>by simp [aC]
 | v::vs,h=>by
   obtain ⟨t,x,rfl,ht⟩:=h v (.head _);simp only [List.map_cons,aC];exact ⟨by rw [lJ ht,GZ];exact jw ht,Iv fun v hv=>h v (.tail _ hv)⟩
theorem Hr {K:PySem.W.Frag} {H:Hp} {p:Addr} {ns:List Nt} {Q:VK} (N:bT H p ns) (k:∀l ns' H',H l=none->bT H' l ns'->ns'.Perm ns->Sv ns'->Same H H'->Q (.ref l) H'):Ak K [.ref p] H Q:=by
 obtain ⟨ys,hp,d⟩:=N;refine ⟨p,ys,4,tupK H,rfl,aV.of hp,by decide,fun y hy=> ?_,fun l zs hl pz sz=> ?_⟩
 ·obtain ⟨t,x,rfl,_,ht⟩:=CJ d hy
  exact ⟨t,rfl,by rw [lJ ht,Q_];exact bZ.of ht,by rw [lJ ht];rfl⟩
 ·have sm:=aB (o:=HO.lst zs) hl
  have all:∀v∈zs,∃t x,v=V.ref t/\H t=some (.tup (nV x)):=fun v hv=>by
   obtain ⟨t,x,e,_,ht⟩:=CJ d (pz.mem_iff.mp hv);exact ⟨t,x,e,ht⟩
  refine k l (zs.map fun v=>toN (tupK H v)) _ hl ⟨zs,ak,aC.keep sm.tups _ (aQ _ fH _) (Iv all)⟩ ?_ ?_ sm
  ·rw [←CK d]
   exact pz.map _
  ·unfold Sv
   rw [List.pairwise_map];refine List.Pairwise.imp_of_mem (fun {x y} hx hy h=> ?_) sz;obtain ⟨t,a,rfl,ht⟩:=all x hx;obtain ⟨u,b,rfl,hu⟩:=all y hy;rw [lJ ht,lJ hu] at h ⊢;exact h
def eU (ws:List bG) (i j:Nat):Nt:=(hnd ws i,cnt (ws.take i) (hnd ws i),hnd ws j,cnt (ws.take j) (hnd ws j))
abbrev PN:=Nat×Nat
def wN (ws:List bG) (x:PN):Nt:=eU ws x.1 x.2
def o7 (ws:List bG) (i j:Nat):Bool:=match ws[i]?,ws[j]? with
 | some y,some z=>mt y z
 | _,_=>false
theorem wA {ws:List bG} {i j:Nat} {y z:bG} (hi:ws[i]? = some y) (hj:ws[j]? = some z):o7 ws i j=mt y z:=by unfold o7;rw [hi,hj]
theorem jY {ws:List bG} {i j:Nat} (h:o7 ws i j=true):i<ws.length/\j<ws.length /\ ¬hnd ws i=hnd ws j:=by
 unfold o7 at h;cases ei:ws[i]? with
 | none=>rw [ei] at h;cases h
 | some y=>
   cases ej:ws[j]? with
   | none=>rw [ei,ej] at h;cases h
   | some z=>
     rw [ei,ej] at h;refine ⟨(List.getElem?_eq_some_iff.mp ei).1,(List.getElem?_eq_some_iff.mp ej).1,fun e=> ?_⟩;rw [dG ei,dG ej] at e;have h:mt y z=true:=h;unfold mt at h;rw [if_pos e] at h;cases h
def rG (ws:List bG) (j m:Nat):List PN:=((List.range m).filter fun i=>o7 ws i j).map fun i=>(i,j)
def m8 (ws:List bG) (n:Nat):List PN:=(List.range n).flatMap fun j=>rG ws j j
theorem vA (ws:List bG) (n:Nat):m8 ws (n+1)=m8 ws n++rG ws n n:=by
 unfold m8;rw [List.range_succ,List.flatMap_append];simp
theorem Ep (ws:List bG) (j m:Nat):rG ws j (m+1)=rG ws j m++(if o7 ws m j=true then [(m,j)] else []):=by
 unfold rG;rw [List.range_succ,List.filter_append,List.map_append];congr 1
 by_cases h:o7 ws m j=true
 ·simp [h]
 ·simp [h]
theorem yt (ws:List bG) (j m:Nat):(rG ws j m).length<=m:=by
 unfold rG;rw [List.length_map];have:=List.length_filter_le (fun i=>o7 ws i j) (List.range m);rw [List.length_range] at this;exact this
theorem tY (ws:List bG):∀n,n<=300->(m8 ws n).length<=n*300
 | 0,_=>Nat.le_refl _
 | n+1,h=>by
   rw [vA,List.length_append];have h1:=tY ws n (by omega);have h2:=yt ws n n;omega
def grp (ns:List Nt) (g h:Int):List Nt:=ns.filter fun x=>decide (x.1=g)&&decide (x.2.2.1=h)
theorem JG (ns:List Nt) (x:Nt) (g h:Int):grp (ns++[x]) g h=grp ns g h++(if x.1=g/\x.2.2.1=h then [x] else []):=by
 unfold grp;rw [List.filter_append];congr 1
 by_cases e:x.1=g/\x.2.2.1=h
 ·simp [e.1,e.2]
 ·rw [if_neg e]
  by_cases e1:x.1=g
  ·have e2:¬x.2.2.1=h:=fun z=>e ⟨e1,z⟩
   simp [e2]
  ·simp [e1]
theorem M6 (ns:List Nt) (g h:Int):(grp ns g h).length<=ns.length:=List.length_filter_le _ _
def Xy (ws:List bG) (g h:Int) (x:PN):Bool:=decide (hnd ws x.1=g)&&decide (hnd ws x.2=h)
def pM (ws:List bG) (g h:Int):List PN:=(m8 ws ws.length).filter (Xy ws g h)
theorem wK (ws:List bG) (g h:Int):grp ((m8 ws ws.length).map (wN ws)) g h=(pM ws g h).map (wN ws):=by
 unfold grp pM;rw [List.filter_map];rfl
def z_ (ws:List bG) (g h:Int) (x:PN):Prop:=x.2<ws.length/\x.1<x.2/\o7 ws x.1 x.2=true/\hnd ws x.1=g/\hnd ws x.2=h
theorem wB {ws:List bG} {g h:Int} {x:PN}:x∈pM ws g h↔z_ ws g h x:=by
 unfold pM m8 rG Xy z_;rw [List.mem_filter,List.mem_flatMap,Bool.and_eq_true,decide_eq_true_iff,decide_eq_true_iff];constructor
 ·rintro ⟨⟨j,hj,hx⟩,a,b⟩
  obtain ⟨i,hi,rfl⟩:=List.mem_map.mp hx;obtain ⟨h1,h2⟩:=List.mem_filter.mp hi;exact ⟨List.mem_range.mp hj,List.mem_range.mp h1,h2,a,b⟩
 ·rintro ⟨h1,h2,h3,a,b⟩
  exact ⟨⟨x.2,List.mem_range.mpr h1,List.mem_map.mpr ⟨x.1,List.mem_filter.mpr ⟨List.mem_range.mpr h2,h3⟩,rfl⟩⟩,a,b⟩
def M7 (ws:List bG) (g:Int) (j:Nat):List Nat:=(List.range j).filter fun i=>decide (hnd ws i=g)&&o7 ws i j
def Es (ws:List bG) (g:Int) (j:Nat):List PN:=(M7 ws g j).reverse.map fun i=>(i,j)
def lL (ws:List bG) (g h:Int) (n:Nat):List PN:=(List.range n).flatMap fun j=>if hnd ws j=h then Es ws g j else []
theorem Mx (ws:List bG) (g h:Int) (n:Nat):lL ws g h (n+1)=lL ws g h n++(if hnd ws n=h then Es ws g n else []):=by
 unfold lL;rw [List.range_succ,List.flatMap_append];simp
theorem ju {ws:List bG} {g h:Int} {n:Nat} {x:PN}:x∈lL ws g h n↔x.2<n/\x.1<x.2/\o7 ws x.1 x.2=true/\hnd ws x.1=g/\hnd ws x.2=h:=by
 unfold lL;rw [List.mem_flatMap];constructor
 ·rintro ⟨j,hj,hx⟩
  split at hx
  ·rename_i e
   unfold Es M7 at hx;obtain ⟨i,hi,rfl⟩:=List.mem_map.mp hx;obtain ⟨h1,h2⟩:=List.mem_filter.mp (List.mem_reverse.mp hi);rw [Bool.and_eq_true,decide_eq_true_iff] at h2;exact ⟨List.mem_range.mp hj,List.mem_range.mp h1,h2.2,h2.1,e⟩
  ·simp at hx
 ·rintro ⟨h1,h2,h3,a,b⟩
  refine ⟨x.2,List.mem_range.mpr h1, ?_⟩;rw [if_pos b];unfold Es M7;exact List.mem_map.mpr ⟨x.1,List.mem_reverse.mpr (List.mem_filter.mpr ⟨List.mem_range.mpr h2,by rw [Bool.and_eq_true,decide_eq_true_iff];exact ⟨a,h3⟩⟩),rfl⟩
def Pg (a b:PN):Prop:=a.2<b.2\/(a.2=b.2/\b.1<a.1)
theorem sH (ws:List bG) (g h:Int):∀n,(lL ws g h n).Pairwise Pg
 | 0=>List.Pairwise.nil
 | n+1=>by
   rw [Mx,List.pairwise_append];refine ⟨sH ws g h n, ?_,fun a ha b hb=> ?_⟩
   ·split
    ·unfold Es M7
     rw [List.pairwise_map,List.pairwise_reverse];exact List.Pairwise.imp (fun z=> .inr ⟨rfl,z⟩) (List.Pairwise.filter _ List.pairwise_lt_range)
    ·exact List.Pairwise.nil
   ·split at hb
    ·unfold Es at hb
     obtain ⟨i,_,rfl⟩:=List.mem_map.mp hb;exact .inl (ju.mp ha).1
    ·simp at hb
def lst (ws:List bG) (g:Int) (j:Nat):Nat:=(((List.range j).filter fun i=>decide (hnd ws i=g)).getLast?).getD 0
theorem tG {ws:List bG} {j:Nat} (h:j<ws.length) (g:Int):cnt (ws.take (j+1)) g=if g=hnd ws j then cnt (ws.take j) g+1 else cnt (ws.take j) g:=by
 have e:ws[j]? = some ws[j]:=by simp [h]
 have tk:ws.take (j+1)=ws.take j++[ws[j]]:=by rw [List.take_add_one,e];rfl
 rw [tk,lD,dG e]
theorem iz {ws:List bG} {g:Int}:∀{j i:Nat},i<j->j<=ws.length->hnd ws i=g->lst ws g j<j/\hnd ws (lst ws g j)=g/\(∀k,k<j->hnd ws k=g->k<=lst ws g j)/\cnt (ws.take (lst ws g j)) g+1=cnt (ws.take j) g
 | 0,i,h,_,_=>absurd h (Nat.not_lt_zero _)
 | j+1,i,h,hl,hg=>by
   have cs:=tG (ws:=ws) (j:=j) (by omega) g
   by_cases e:hnd ws j=g
   ·have el:lst ws g (j+1)=j:=by
     unfold lst;rw [List.range_succ,List.filter_append];simp [e]
    rw [el];refine ⟨Nat.lt_succ_self _,e,fun k hk _=>by omega, ?_⟩;rw [cs,if_pos e.symm]
   ·have el:lst ws g (j+1)=lst ws g j:=by
     unfold lst;rw [List.range_succ,List.filter_append];simp [e]
    have hi:i<j:=by
     rcases Nat.lt_succ_iff_lt_or_eq.mp h with z|z
     ·exact z
     ·subst z;exact absurd hg e
    obtain ⟨a,b,c,d⟩:=iz hi (by omega) hg;rw [el];refine ⟨by omega,b,fun k hk hg'=> ?_, ?_⟩
    ·rcases Nat.lt_succ_iff_lt_or_eq.mp hk with z|z
     ·exact c k z hg'
     ·subst z;exact absurd hg' e
    ·rw [cs,if_neg (Ne.symm e)];exact d
theorem tH {ws:List bG} {i j:Nat} {g:Int} (h:i<j) (hi:i<ws.length) (hg:hnd ws i=g):cnt (ws.take i) g<cnt (ws.take j) g:=by
 have m:=jF (ws:=ws) (m:=i+1) (n:=j) h g;rw [tG hi,if_pos hg.symm] at m;omega
def fr (ws:List bG) (g:Int):Nat->List PN->List (Nat×PN)
 | 0,_=>[]
 | _+1,[]=>[]
 | n+1,x::r=>(lst ws g x.2,x)::fr ws g n (r.filter fun o=>decide (lst ws g x.2<o.1))
theorem wL (ws:List bG) (g:Int) (n:Nat):fr ws g n []=[]:=by cases n<;>rfl
theorem Dt (ws:List bG) (g:Int):∀(n m:Nat) (L:List PN),L.length<=n->L.length<=m->fr ws g n L=fr ws g m L
 | n,m,[],_,_=>by rw [wL,wL]
 | 0,_,_::_,h,_=>absurd h (by simp)
 | _+1,0,_::_,_,h=>absurd h (by simp)
 | n+1,m+1,x::r,h1,h2=>by
   have l:=List.length_filter_le (fun o:PN=>decide (lst ws g x.2<o.1)) r;simp only [List.length_cons] at h1 h2;show _::_=_::_;rw [Dt ws g n m (r.filter fun o=>decide (lst ws g x.2<o.1)) (by omega) (by omega)]
def u0 (ws:List bG) (g h:Int):List (Nat×PN):=fr ws g (lL ws g h ws.length).length (lL ws g h ws.length)
def fW (ws:List bG) (x:Nat×PN):Nt×Nt:=(wN ws x.2,eU ws x.1 x.2.2)
def Fv (ws:List bG) (x:PN):List Int:=[(wN ws x).2.2.2, -(wN ws x).2.1]
section
variable {ws:List bG} {g h:Int} {x:PN} {r M:List PN}
theorem Rm {y:PN} (hx:z_ ws g h x) (hy:z_ ws g h y) (l:Pg x y):HT.lexLt (Fv ws x) (Fv ws y)=true:=by
 unfold Fv wN eU;dsimp only;obtain ⟨x1,x2,_,x4,x5⟩:=hx;obtain ⟨y1,y2,_,y4,y5⟩:=hy;rw [x4,x5,y4,y5,HT.jh];rcases l with l|⟨l1,l2⟩
 ·have:=tH (g:=h) l x1 x5
  rw [if_neg (by omega)];exact decide_eq_true this
 ·rw [l1,if_pos rfl,HT.jh]
  have:=tH (g:=g) l2 (by omega) y4;rw [if_neg (by omega)];exact decide_eq_true (by omega)
theorem Rf {y:PN} {i:Nat} (kf:Nat->List Int) (hk:∀(i:Nat) z,M[i]? = some z->kf i=Fv ws z) (mQ:(x::r).Pairwise Pg) (hin:∀z∈x::r,z_ ws g h z) (mem:∀z,z∈M↔z∈x::r) (e:M[i]? = some y) (fm:cN kf M.length i):y=x:=by
 obtain ⟨k,ek⟩:=List.getElem?_of_mem ((mem x).mpr (.head _));have kl:k<M.length:=(List.getElem?_eq_some_iff.mp ek).1;have n:=(fm k kl).1;rw [hk k x ek,hk i y e] at n;have hy:=(mem y).mp (List.mem_of_getElem? e);rcases List.mem_cons.mp hy with z|z
 ·exact z
 ·have:=Rm (hin x (.head _)) (hin y hy) ((List.pairwise_cons.mp mQ).1 y z)
  rw [this] at n;cases n
theorem Jf {y:PN} (hx:z_ ws g h x) (hy:z_ ws g h y) (l:y=x\/Pg x y):(!mB (eU ws (lst ws g x.2) x.2) (wN ws y))=decide (lst ws g x.2<y.1):=by
 obtain ⟨x1,x2,_,x4,x5⟩:=hx;obtain ⟨y1,y2,_,y4,y5⟩:=hy;obtain ⟨a,b,c,d⟩:=iz (ws:=ws) x2 (by omega) x4
 have ge:x.2<=y.2:=by
  rcases l with rfl|l|l
  ·exact Nat.le_refl _
  ·omega
  ·omega
 unfold mB wN eU;dsimp only;rw [b,x5,y4,y5];have m2:=jF (ws:=ws) ge h
 by_cases e:lst ws g x.2<y.1
 ·have:=tH (g:=g) e (by omega) b
  have n:¬cnt (ws.take (lst ws g x.2)) g≥cnt (ws.take y.1) g:=by omega
  simp [n,e]
 ·have:=jF (ws:=ws) (m:=y.1) (n:=lst ws g x.2) (by omega) g
  have n:cnt (ws.take (lst ws g x.2)) g≥cnt (ws.take y.1) g:=by omega
  simp [n,e,m2]
end
def lF:List (List Int):=(List.range 8).flatMap fun (g:Nat)=>(List.range 8).flatMap fun (h:Nat)=>if h=g then [] else [[(g:Int),(h:Int)]]
def xU (ws:List bG):List Int->List (Nat×PN)
 | [g,h]=>u0 ws g h
 | _=>[]
def bF (ws:List bG):List (Nat×PN):=(List.range 8).flatMap fun (g:Nat)=>(List.range 8).flatMap fun (h:Nat)=>if h=g then [] else u0 ws g h
theorem sO (ws:List bG):bF ws=lF.flatMap (xU ws):=by
 unfold bF lF;rw [List.flatMap_assoc];congr 1;funext g;rw [List.flatMap_assoc];congr 1;funext h;split
 ·rfl
 ·simp [xU]
theorem oN:∀{a b:List (List Int)},a.Perm b->a.Pairwise (fun x y=>Tim.cJ y x=false)->b.Pairwise (fun x y=>Tim.cJ y x=false)->a=b
 | [],_,p,_,_=>p.nil_eq
 | x::r,b,p,ha,hb=>by
   cases b with
   | nil=>exact absurd p.length_eq (by simp)
   | cons y t=>
     have hx:x∈y::t:=p.mem_iff.mp (.head _);have hy:y∈x::r:=p.mem_iff.mpr (.head _)
     have e:x=y:=by
      rcases List.mem_cons.mp hx with h|h
      ·exact h
      ·rcases List.mem_cons.mp hy with h'|h'
       ·exact h'.symm
       ·exact Tim.yQ _ _ ((List.pairwise_cons.mp hb).1 x h) ((List.pairwise_cons.mp ha).1 y h')
     subst e;rw [oN (List.perm_cons _ |>.mp p) (List.pairwise_cons.mp ha).2 (List.pairwise_cons.mp hb).2]
theorem xq:lF.Nodup:=by decide +kernel
theorem zV:lF.Pairwise (fun x y=>Tim.cJ y x=false):=by decide +kernel
theorem j4 {α β:Type} (f:α->List β):∀l:List α,(l.filter fun x=> !(f x).isEmpty).flatMap f=l.flatMap f
 | []=>rfl
 | x::l=>by
   rw [List.filter_cons];cases h:(f x).isEmpty with
   | true=>
     have e:f x=[]:=List.isEmpty_iff.mp h;simp [e,j4 f l]
   | false=>simp [j4 f l]
theorem Cv {α:Type} [DecidableEq α] {a b:List α} (ha:a.Nodup) (hb:b.Nodup) (h:∀x,x∈a↔x∈b):a.Perm b:=(List.perm_ext_iff_of_nodup ha hb).mpr h
theorem Ju {ws:List bG} {ms:List (List Int)} (nd:ms.Nodup) (mQ:ms.Pairwise fun x y=>Tim.cJ y x=false) (mem:∀k,k∈ms↔k∈lF/\xU ws k≠[]):ms.flatMap (xU ws)=bF ws:=by
 have e:ms=lF.filter fun k=> !(xU ws k).isEmpty:=oN (Cv nd (xq.filter _) fun k=>by
  rw [mem k,List.mem_filter,Bool.not_eq_true',←Bool.not_eq_true,List.isEmpty_iff]) mQ (List.Pairwise.filter _ zV)
 rw [e,j4,sO]
theorem Je {g h:Int}:[g,h]∈lF↔(0<=g/\g<8)/\(0<=h/\h<8) /\ ¬h=g:=by
 unfold lF;simp only [List.mem_flatMap,List.mem_range];constructor
 ·rintro ⟨a,ha,b,hb,hx⟩
  split at hx
  ·simp at hx
  ·rename_i ne
   simp at hx;obtain ⟨rfl,rfl⟩:=hx;refine ⟨⟨by omega,by omega⟩,⟨by omega,by omega⟩,by omega⟩
 ·rintro ⟨⟨a,b⟩,⟨c,d⟩,e⟩
  refine ⟨g.toNat,by omega,h.toNat,by omega, ?_⟩;rw [if_neg (by omega)];simp;omega
theorem tZ {k:List Int} (h:k∈lF):∃g h,k=[g,h]:=by
 unfold lF at h;simp only [List.mem_flatMap,List.mem_range] at h;obtain ⟨a,_,b,_,hx⟩:=h;split at hx
 ·simp at hx
 ·simp at hx
  exact ⟨_,_,hx⟩
theorem JQ {ws:List bG} {g h:Int}:u0 ws g h≠[]↔pM ws g h≠[]:=by
 have e:pM ws g h=[]↔lL ws g h ws.length=[]:=by
  rw [List.eq_nil_iff_forall_not_mem,List.eq_nil_iff_forall_not_mem];exact ⟨fun z x hx=>z x (wB.mpr (ju.mp hx)),fun z x hx=>z x (ju.mpr (wB.mp hx))⟩
 refine not_congr ?_;rw [e];unfold u0;cases q:lL ws g h ws.length with
 | nil=>simp [wL]
 | cons x r=>
   constructor
   ·intro z
    cases z
   ·intro z
    cases z
theorem Ij {ws:List bG} {g h:Int} (ok:∀x∈ws,pZ x) (ne:pM ws g h≠[]):[g,h]∈lF:=by
 obtain ⟨x,hx⟩:=List.exists_mem_of_ne_nil _ ne;obtain ⟨h1,h2,h3,rfl,rfl⟩:=wB.mp hx;obtain ⟨a,b,c⟩:=jY h3;have ea:ws[x.1]? = some ws[x.1]:=by simp [a]
 have eb:ws[x.2]? = some ws[x.2]:=by simp [b]
 rw [Je];refine ⟨?_, ?_,fun z=>c z.symm⟩
 ·rw [dG ea];exact (ok _ (List.getElem_mem a)).1
 ·rw [dG eb];exact (ok _ (List.getElem_mem b)).1
theorem JL {ws:List bG} {g h:Int}:∀(n:Nat) (L:List PN) (b:Nat),L.Pairwise Pg->(∀z∈L,z_ ws g h z)->(∀z∈L,b<=z.2)->b<=ws.length->(fr ws g n L).length+b<=ws.length
 | 0,_,b,_,_,_,hb=>by show 0+b<=_;omega
 | n+1,[],b,_,_,_,hb=>by show 0+b<=_;omega
 | n+1,x::r,b,mQ,win,low,hb=>by
   obtain ⟨x1,x2,_,x4,_⟩:=win x (.head _);have lb:=low x (.head _)
   have ih:=JL (ws:=ws) (g:=g) (h:=h) n (r.filter fun o=>decide (lst ws g x.2<o.1)) (x.2+1) ((List.pairwise_cons.mp mQ).2.filter _) (fun z hz=>win z (.tail _ (List.mem_filter.mp hz).1)) (fun z hz=>by
    obtain ⟨hz1,hz2⟩:=List.mem_filter.mp hz;have hz2:=of_decide_eq_true hz2;rcases (List.pairwise_cons.mp mQ).1 z hz1 with q|⟨q1,q2⟩
    ·exact q
    ·obtain ⟨_,_,_,z4,_⟩:=win z (.tail _ hz1)
     have:=(iz (ws:=ws) x2 (by omega) x4).2.2.1 z.1 (by omega) z4;omega) (by omega)
   show (fr ws g n _).length+1+b<=_;omega
theorem Du (ws:List bG) (g h:Int):(u0 ws g h).length<=ws.length:=
 JL (h:=h) _ _ 0 (sH ws g h _) (fun z hz=>ju.mp hz) (fun z _=>Nat.zero_le _) (Nat.zero_le _)
theorem M9 {ws:List bG} (hl:ws.length<=300) (k:List Int):(xU ws k).length<=300:=by
 unfold xU;split
 ·exact Nat.le_trans (Du _ _ _) hl
 ·exact Nat.zero_le _
theorem sS {ws:List bG} (hl:ws.length<=300):∀l:List (List Int),(l.flatMap (xU ws)).length<=l.length*300
 | []=>Nat.le_refl _
 | k::l=>by
   rw [List.flatMap_cons,List.length_append,List.length_cons];have:=M9 hl k;have:=sS hl l;omega
theorem Js {ws:List bG} {ms:List (List Int)} (nd:ms.Nodup) (mQ:ms.Pairwise fun x y=>Tim.cJ y x=false) (mem:∀k,k∈ms↔k∈lF/\xU ws k≠[]):ms.length<=56:=by
 have e:ms=lF.filter fun k=> !(xU ws k).isEmpty:=oN (Cv nd (xq.filter _) fun k=>by
  rw [mem k,List.mem_filter,Bool.not_eq_true',←Bool.not_eq_true,List.isEmpty_iff]) mQ (List.Pairwise.filter _ zV)
 rw [e];exact Nat.le_trans (List.length_filter_le _ _) (by decide +kernel)
theorem mX (a b c d:Int):([Sum.inl a,Sum.inl b]:List Key)=[Sum.inl c,Sum.inl d]↔a=c/\b=d:=by
 constructor
 ·intro z;injection z with z1 z2;injection z2 with z2 _;exact ⟨Sum.inl.inj z1,Sum.inl.inj z2⟩
 ·rintro ⟨rfl,rfl⟩;rfl
structure Kw (H0 H:Hp) (f:Addr) (kvs:List (List Key×V)) (ls:List (List Int)) (ns:List Nt):Prop where
 dict:H f=some (.dT kvs)
 keys:kvs.map (·.1)=ls.map (fun l=>l.map (Sum.inl (β:=Str)))
 two:∀l∈ls,l.length=2
 nd:ls.Nodup
 val:∀g h:Int,(cG kvs [Sum.inl g,Sum.inl h]=none/\grp ns g h=[]/\[g,h]∉ls) \/ ∃l,cG kvs [Sum.inl g,Sum.inl h]=some (.ref l)/\bT H l (grp ns g h)/\[g,h]∈ls/\H0 l=none/\l≠f
 inj:∀(g h g' h':Int) l,cG kvs [Sum.inl g,Sum.inl h]=some (.ref l)->cG kvs [Sum.inl g',Sum.inl h']=some (.ref l)->g=g'/\h=h'
theorem Kw.same {H0 H H':Hp} {f:Addr} {kvs:List (List Key×V)} {ls:List (List Int)} {ns:List Nt} (h:Kw H0 H f kvs ls ns) (s:Same H H'):Kw H0 H' f kvs ls ns:=
 ⟨s _ _ h.dict,h.keys,h.two,h.nd,fun g k=>(h.val g k).imp id fun ⟨l,a,b,c⟩=>⟨l,a,b.same s,c⟩,h.inj⟩
def adS (H:Hp) (f:Addr) (ns:List Nt):Prop:=∃(kvs:List (List Key×V)) (ls:List (List Int)),H f=some (.dT kvs)/\kvs.map (·.1)=ls.map (fun l=>l.map (Sum.inl (β:=Str)))/\(∀l∈ls,l.length=2)/\ls.Nodup /\
 ∀g h:Int,(grp ns g h=[]/\[g,h]∉ls) \/ ∃l,cG kvs [Sum.inl g,Sum.inl h]=some (.ref l)/\bT H l (grp ns g h)/\[g,h]∈ls/\grp ns g h≠[]
def oO (K:PySem.W.Frag):Sp:=fun vs H Q _=>∃(a:Addr) (ws:List bG),vs=[.ref a]/\cu H a ws/\ws.length<=300 /\ ∀(f:Addr) (H':Hp),H f=none->adS H' f ((m8 ws ws.length).map (wN ws))->Same H H'->Q (.ref f) H'
theorem Tq {ws:List bG} {i j:Nat} {y z:bG} (hi:ws[i]? = some y) (hj:ws[j]? = some z):wN ws (i,j)=(y.1,cnt (ws.take i) y.1,z.1,cnt (ws.take j) z.1):=by
 unfold wN eU;dsimp only;rw [dG hi,dG hj]
def Pb (H:Hp) (a nd f:Addr) (ws:List bG) (seq:List Nt) (H3:Hp):Prop:=Same H H3/\dM H3 nd (nm ws) /\ ∃kvs ls,Kw H H3 f kvs ls seq/\kvs.length<=seq.length /\ ∀g h,[g,h]∈ls->grp seq g h≠[]
theorem Ar {f:Addr} {fd:FuncData} (F:lW K "wants_by_hands" "wants_by_hands" bD f fd) (xG:FnAt P w K mg base 1 "names" ["web"] (qI K)) (jj:FnAt P w K mg base 1 "touches_meet" ["one","other"] (yp K)) (fL:FnAt P w K mg base 1 "hands_of" ["note"] (jA K)) (Bt:xW mg):cT P w K mg base jJ 2 f fd ["web"] (oO K):=by
 refine F.ok b_ (fun vs H Q E h=> ?_) (fun cdv A outer s H vs Q E hr h=> ?_)
 ·obtain ⟨a,ws,rfl,_⟩:=h
  rfl
 ·obtain ⟨a,ws,rfl,W,wl,k⟩:=h
  have hu:=mH hr
  refine ⟨_,(aA (aP (i:=1) b_.nd rfl (Or.inl rfl) (bw xG (hr.mono (by decide)) (by rfl) (aj (pv 0) aq)))
   (aA (aP (i:=2) b_.nd rfl (Or.inl rfl) rO)
   (aA (fB PassesOwn.never rfl (eF (by rfl) Bt.iZ (aj (aU (bf (K:=K) rfl) (by rfl) Bt.iI eY (aj (pv 0) aq)) aq)) (aX (i:=3) b_.nd rfl (Or.inl rfl))
   (aG (fB PassesOwn.never rfl (eF (by rfl) Bt.iZ (aj (pv 3) aq)) (aX (i:=4) b_.nd rfl (Or.inl rfl))
   (aG (dX (fu (bw jj (hr.mono (by decide)) (by rfl) (aj (aK (aO (K:=K) rfl) (pv 0) (pv 4) (fun _ _=>rfl)) (aj (aK (aO (K:=K) rfl) (pv 0) (pv 3) (fun _ _=>rfl)) aq)))) (aA (aP (i:=5) b_.nd rfl (Or.inl rfl) (bI (rT (K:=K) rfl) (aK (aO (K:=K) rfl) (pv 1) (pv 4) (fun _ _=>rfl)) (aK (aO (K:=K) rfl) (pv 1) (pv 3) (fun _ _=>rfl))))
   (aG (jV (gQ (K:=K) rfl (Ih hu (pv 2) (bw fL (hr.mono (by decide)) (by rfl) (aj (pv 5) aq)) (fZ aq) ⟨rfl,rfl,rfl,rfl⟩) (aj (pv 5) aq))))) bO)))))
   (aG (aW (pv 2)))))), ?_⟩
  refine ⟨_,rfl,a,ws,rfl,W,by omega,fun nd H1 ahF N s1=> ?_⟩;intro f hf;have s2:=aB (o:=HO.dT []) hf;have s12:=s1.trans s2;have OJ:H f=none:=s1.free hf;obtain ⟨wv,hw,dw⟩:=id (W.same s12);have wvl:wv.length=ws.length:=by rw [dw.length,List.length_map]
  refine ⟨_,rfl,a,_,rfl,.inl (aV.of hw),_,rfl,by omega,by omega, ?_⟩;rw [show ((wv.length:Nat):Int).toNat=ws.length by omega]
  refine gW (lo:=0) (n:=ws.length) (fun j σ H3=>∃(x1 x2 x3:Option V),σ=[some (.ref a),some (.ref nd),some (.ref f),x1,x2,x3]/\Pb H1 a nd f ws ((m8 ws j).map (wN ws)) H3)
   ⟨none,none,none,rfl,s2,N.same s2,[],[],⟨ak,rfl,fun l hl=>by simp at hl,List.nodup_nil,fun g h=> .inl ⟨rfl,rfl,by simp⟩,fun g h g' h' l z=>by cases z⟩,Nat.zero_le _,fun g h z=>by simp at z⟩ ?_ ?_
  ·rintro j σ H3 hj ⟨x1,x2,x3,rfl,abT⟩
   obtain ⟨z,ez⟩:∃z,ws[j]? = some z:=⟨ws[j],by simp [hj]⟩;refine ⟨_,rfl,0+(j:Int),rfl,by omega,by omega, ?_⟩;rw [show (0+(j:Int)).toNat=j by omega]
   refine gW (lo:=0) (n:=j) (fun m σ H4=>∃(x2 x3:Option V),σ=[some (.ref a),some (.ref nd),some (.ref f),some (.int (0+(j:Int))),x2,x3]/\Pb H1 a nd f ws ((m8 ws j++rG ws j m).map (wN ws)) H4)
    ⟨_,_,rfl,by rw [show rG ws j 0=[] from rfl,List.append_nil];exact abT⟩ ?_ ?_
   ·rintro m σ H4 hm ⟨x2,x3,rfl,sm,N4,kvs,ls,wd,kl,O1⟩
    obtain ⟨y,ey⟩:∃y,ws[m]? = some y:=⟨ws[m]'(by omega),by simp [show m<ws.length by omega]⟩;obtain ⟨wv4,q1,M4,eq1,hq1⟩:=dZ ((W.same s1).same sm) ey;obtain ⟨wv5,q2,Fz,eq2,hq2⟩:=dZ ((W.same s1).same sm) ez;refine ⟨_,rfl,_,rfl,_,_,_,_,rfl,rfl,aV.of M4,xg eq1,_,rfl,_,rfl,_,_,_,_,rfl,rfl,aV.of Fz,xg eq2,q1,q2,y,z,rfl,hq1,hq2,_,rfl, ?_⟩;rw [Ep,wA ey ez];cases em:mt y z with
    | false=>
      refine eX ?_;refine ⟨_,_,rfl, ?_⟩;rw [if_neg (by decide),List.append_nil];exact ⟨sm,N4,kvs,ls,wd,kl,O1⟩
    | true=>
      refine iW ?_;rw [if_pos rfl,←List.append_assoc,List.map_append];obtain ⟨nv,t1,hn1,et1,ht1⟩:=rM N4 (rW ey);obtain ⟨nv2,t2,hn2,et2,uW⟩:=rM N4 (rW ez);refine ⟨_,rfl,_,rfl,_,_,_,_,rfl,rfl,aV.of hn1,xg et1,_,rfl,_,rfl,_,_,_,_,rfl,rfl,aV.of hn2,xg et2,t1,t2,_,_,rfl,rfl,bZ.of ht1,bZ.of uW,by simp,by show 4<=sizeLine;decide,fun z=>absurd z (by simp),fun _ p hp=> ?_⟩;have ew:=Tq ey ez;have Xq:=aB (o:=HO.tup ([V.int y.1,V.int (cnt (ws.take m) y.1)]++[V.int z.1,V.int (cnt (ws.take j) z.1)])) hp;generalize hX:wN ws (m,j)=x at ew;have hpx:(upd H4 p (HO.tup ([V.int y.1,V.int (cnt (ws.take m) y.1)]++[V.int z.1,V.int (cnt (ws.take j) z.1)]))) p=some (.tup (nV x)):=by rw [ak,ew];rfl
      generalize (upd H4 p (HO.tup ([V.int y.1,V.int (cnt (ws.take m) y.1)]++[V.int z.1,V.int (cnt (ws.take j) z.1)])))=H5 at Xq hpx ⊢;have SQ:=sm.trans Xq;have N5:=N4.same Xq;have Xl:=wd.same Xq;have e0:List.map (wN ws) [(m,j)]=[x]:=by rw [List.map_cons,hX];rfl
      rw [e0];generalize hseq:(m8 ws j++rG ws j m).map (wN ws)=seq at kl O1 Xl ⊢
      have agd:seq.length<=300*300+300:=by
       rw [←hseq,List.length_map,List.length_append];have a1:=tY ws j (by omega);have a2:=yt ws j m;omega
      dsimp only [j9]
      refine zF (fun v H6=>∃(l:Addr) (Jq:List (List Key×V)) (Vb:List (List Int)),v = .ref l/\Same H1 H6/\dM H6 nd (nm ws)/\H6 p=some (.tup (nV x))/\Kw H1 H6 f Jq Vb seq/\Jq.length<=seq.length+1/\cG Jq [Sum.inl x.1,Sum.inl x.2.2.1]=some (.ref l) /\
       ∀g h,[g,h]∈Vb->grp seq g h≠[]\/(x.1=g/\x.2.2.1=h)) (fun Q' kQ=> ?_) ?_
      ·refine ⟨_,rfl,f,rfl,.inr ⟨_,.inl Xl.dict⟩,_,rfl,p,x,rfl,hpx,fun b hb=> ?_⟩
       have s6:=aB (o:=HO.tup [V.int x.1,V.int x.2.2.1]) hb;refine ⟨(by show 0<=sizeLine;decide),fun e he=> ?_⟩;have s7:=aB (o:=HO.lst []) he;have Qo:=s6.trans s7;have DY:=Xl.same Qo;refine ⟨kvs,[Sum.inl x.1,Sum.inl x.2.2.1],b,DY.dict,rfl,s7 _ _ ak,by rw [sizeLine_eq];omega,fun v hv=> ?_,fun hn=> ?_⟩
       ·rcases DY.val x.1 x.2.2.1 with z|⟨l,e1,_⟩
        ·rw [z.1] at hv;cases hv
        ·rw [e1] at hv
         cases hv;exact kQ _ _ ⟨l,kvs,ls,rfl,SQ.trans Qo,N5.same Qo,Qo _ _ hpx,DY,by omega,e1,fun g h z=> .inl (O1 g h z)⟩
       ·have he5:H5 e=none:=s6.free he
        have he0:H1 e=none:=SQ.free he5;have heq:(upd (upd H5 b (.tup [V.int x.1,V.int x.2.2.1])) e (.lst [])) e=some (.lst []):=ak
        have U0:∀(g h:Int) l,cG kvs [Sum.inl g,Sum.inl h]=some (V.ref l)->l≠e:=fun g h l hv z=>by
         subst z;rcases Xl.val g h with q|⟨l',f1,⟨us,g1,_⟩,_⟩
         ·rw [q.1] at hv;cases hv
         ·rw [f1] at hv
          cases hv;rw [he5] at g1;cases g1
        have VB:=Qo _ _ hpx;have N7:=N5.same Qo;have sm7:=SQ.trans Qo;generalize upd (upd H5 b (.tup [V.int x.1,V.int x.2.2.1])) e (.lst [])=H7 at DY heq VB N7 sm7 ⊢;have kF:Kp f H7 (upd H7 f (.dT (putK kvs [Sum.inl x.1,Sum.inl x.2.2.1] (.ref e)))):=Kp.set;have nef:e≠f:=fM heq DY.dict (by intro z;cases z);have tF:∀a xs,H7 a=some (HO.tup xs)->(upd H7 f (.dT (putK kvs [Sum.inl x.1,Sum.inl x.2.2.1] (.ref e)))) a=some (HO.tup xs):=fun a xs h=>kF _ _ h (fM h DY.dict (by intro z;cases z))
        have U3:grp seq x.1 x.2.2.1=[]/\[x.1,x.2.2.1]∉ls:=by
         rcases DY.val x.1 x.2.2.1 with z|⟨l,e1,_⟩
         ·exact z.2
         ·rw [e1] at hn;cases hn
        have nnf:nd≠f:=by
         obtain ⟨_,e1,_⟩:=N7;exact fM e1 DY.dict (by intro z;cases z)
        refine kQ _ _ ⟨e,_,ls++[[x.1,x.2.2.1]],rfl,fun b o eb=>kF _ _ (sm7 _ _ eb) (aD eb hf), ?_,tF _ _ VB,⟨ak, ?_, ?_, ?_,fun g h=> ?_,fun g h g' h' l h1 h2=> ?_⟩, ?_,by rw [jd,if_pos rfl],fun g h z=> ?_⟩
        ·obtain ⟨us,e1,e2⟩:=N7
         exact ⟨us,kF _ _ e1 nnf,aC.keep tF _ (aQ _ iG _) e2⟩
        ·rw [HD _ hn,List.map_append,List.map_append,DY.keys]
         rfl
        ·intro l hl
         rcases List.mem_append.mp hl with hl|hl
         ·exact DY.two l hl
         ·rw [List.mem_singleton.mp hl];rfl
        ·rw [List.nodup_append]
         refine ⟨DY.nd,by simp,fun a ha b hb z=> ?_⟩;rw [List.mem_singleton.mp hb] at z;exact U3.2 (z▸ha)
        ·rw [jd]
         by_cases q:g=x.1/\h=x.2.2.1
         ·rw [if_pos ((mX _ _ _ _).mpr q)]
          obtain ⟨rfl,rfl⟩:=q;refine .inr ⟨e,rfl, ?_,by simp,he0,nef⟩;rw [U3.1];exact ⟨[],kF _ _ heq nef,by simp [aC]⟩
         ·rw [if_neg fun z=>q ((mX _ _ _ _).mp z)]
          rcases DY.val g h with z|⟨l',f1,f2,f3,f4,f5⟩
          ·refine .inl ⟨z.1,z.2.1,fun w=> ?_⟩
           rcases List.mem_append.mp w with w|w
           ·exact z.2.2 w
           ·have w:=List.mem_singleton.mp w
            injection w with w1 w2
            injection w2 with w2 _
            exact q ⟨w1,w2⟩
          ·refine .inr ⟨l',f1, ?_,List.mem_append.mpr (.inl f3),f4,f5⟩
           obtain ⟨us,g1,g2⟩:=f2;exact ⟨us,kF _ _ g1 f5,aC.keep tF _ (aQ _ fH _) g2⟩
        ·rw [jd] at h1 h2
         by_cases q:g=x.1/\h=x.2.2.1
         ·rw [if_pos ((mX _ _ _ _).mpr q)] at h1
          cases h1
          by_cases q':g'=x.1/\h'=x.2.2.1
          ·exact ⟨q.1.trans q'.1.symm,q.2.trans q'.2.symm⟩
          ·rw [if_neg fun z=>q' ((mX _ _ _ _).mp z)] at h2
           exact absurd rfl (U0 _ _ _ h2)
         ·rw [if_neg fun z=>q ((mX _ _ _ _).mp z)] at h1
          by_cases q':g'=x.1/\h'=x.2.2.1
          ·rw [if_pos ((mX _ _ _ _).mpr q')] at h2
           cases h2;exact absurd rfl (U0 _ _ _ h1)
          ·rw [if_neg fun z=>q' ((mX _ _ _ _).mp z)] at h2
           exact DY.inj _ _ _ _ _ h1 h2
        ·exact Nat.le_trans (dY ..) (by omega)
        ·rcases List.mem_append.mp z with z|z
         ·exact .inl (O1 g h z)
         ·have w:=List.mem_singleton.mp z
          injection w with w1 w2
          injection w2 with w2 _
          exact .inr ⟨w1.symm,w2.symm⟩
      ·rintro v H6 ⟨l,Jq,Vb,rfl,sm6,N6,Yc,Oa,kl6,hkey,aco⟩
       obtain ⟨PL,hlK,hl0,XC⟩:bT H6 l (grp seq x.1 x.2.2.1)/\[x.1,x.2.2.1]∈Vb/\H1 l=none/\l≠f:=by
        rcases Oa.val x.1 x.2.2.1 with z|⟨l',f1,f2,f3,f4,f5⟩
        ·rw [z.1] at hkey;cases hkey
        ·rw [f1] at hkey
         cases hkey;exact ⟨f2,f3,f4,f5⟩
       obtain ⟨us,Gr,Nh⟩:=id PL
       have GP:us.length<=seq.length:=by
        rw [Nh.length,List.length_map];exact M6 _ _ _
       refine ⟨.inl ⟨rfl,_,aV.of Gr⟩,_,rfl,l,us,_,rfl,rfl,Gr,by rw [sizeLine_eq];omega, ?_⟩;have kL:Kp l H6 (upd H6 l (.lst (us++[V.ref p]))):=Kp.set;have tL:=kL.tups Gr
       have nnl:nd≠l:=by
        obtain ⟨_,e1,_⟩:=N;exact aD e1 hl0
       have gs:∀g h:Int,grp (seq++[x]) g h=grp seq g h++(if x.1=g/\x.2.2.1=h then [x] else []):=JG seq x;refine ⟨_,_,rfl,fun b o eb=>kL _ _ (sm6 _ _ eb) (aD eb hl0), ?_,Jq,Vb,⟨kL _ _ Oa.dict XC.symm,Oa.keys,Oa.two,Oa.nd,fun g h=> ?_,Oa.inj⟩,by rw [List.length_append];exact kl6,fun g h z=> ?_⟩
       ·obtain ⟨vs,e1,e2⟩:=N6
        exact ⟨vs,kL _ _ e1 nnl,aC.keep tL _ (aQ _ iG _) e2⟩
       ·rw [gs]
        by_cases q:x.1=g/\x.2.2.1=h
        ·obtain ⟨rfl,rfl⟩:=q
         rw [if_pos ⟨rfl,rfl⟩];refine .inr ⟨l,hkey,⟨_,ak, ?_⟩,hlK,hl0,XC⟩;rw [List.map_append];exact aC.append (aC.keep tL _ (aQ _ fH _) Nh) (J7 (jw (tL _ _ Yc)))
        ·rw [if_neg q,List.append_nil]
         rcases Oa.val g h with z|⟨l',f1,f2,f3,f4,f5⟩
         ·exact .inl z
         ·have nll:l'≠l:=fun z=>by
           subst z;obtain ⟨e1,e2⟩:=Oa.inj _ _ _ _ _ f1 hkey;exact q ⟨e1.symm,e2.symm⟩
          obtain ⟨us',g1,g2⟩:=f2;exact .inr ⟨l',f1,⟨us',kL _ _ g1 nll,aC.keep tL _ (aQ _ fH _) g2⟩,f3,f4,f5⟩
       ·rw [gs]
        rcases aco g h z with w|w
        ·intro q
         rw [List.append_eq_nil_iff] at q;exact w q.1
        ·rw [if_pos w]
         simp
   ·rintro σ H4 ⟨x2,x3,rfl,abS⟩
    refine ⟨_,_,_,rfl, ?_⟩;rw [vA];exact abS
  ·rintro σ H3 ⟨x1,x2,x3,rfl,sm,N3,kvs,ls,wd,kl,O1⟩
   refine ⟨_,rfl,k f H3 OJ ⟨kvs,ls,wd.dict,wd.keys,wd.two,wd.nd,fun g h=> ?_⟩ (s1.trans sm)⟩;rcases wd.val g h with z|⟨l,a1,a2,a3,_⟩
   ·exact .inl z.2
   ·exact .inr ⟨l,a1,a2,a3,O1 g h a3⟩
def G9:Stmt->List Stmt
 | .For _ _ b _ _=>b
 | .While _ b _ _=>b
 | _=>[]
def Oe:Stmt->Option Expr
 | .Assign _ v _=>some v
 | _=>none
def Oq:Expr->Option Expr
 | .Call _ _ (k::_) _=>some k.value
 | _=>none
def lamP:Option Expr->Arguments
 | some (.Lambda p _ _ _)=>p
 | _=>aH lq
def Vg:Option Expr->Expr
 | some (.Lambda _ b _ _)=>b
 | _=> .Constant .none 0 ⟨0,0,0,0⟩
def Ve:Option Expr->Scope
 | some (.Lambda _ _ s _)=>s
 | _=>ao lq
def lamO:Option Expr->Pos
 | some (.Lambda _ _ _ o)=>o
 | _=>⟨0,0,0,0⟩
def Mv:Option Expr:=((aF aZ)[3]?).bind fun f=>((G9 f)[1]?).bind fun w=>((G9 w)[0]?).bind fun m=>(Oe m).bind Oq
def Vf:Str:= "wants_with_notes" ++ ".<locals>." ++ "<lambda>"
def Qk:List V->Hp->VK->Prop:=fun vs H Q=>∃(t:Addr) (x:Nt),vs=[.ref t]/\H t=some (.tup (nV x)) /\ ∀p,H p=none->Q (.ref p) (upd H p (.tup [.int x.2.2.2,.int (-x.2.1)]))
theorem Jm:uc P w K mg base 0 ["each"] ["each"] Vf (lamP Mv) (Vg Mv) (Ve Mv) Qk:=by
 refine ⟨⟨rfl,rfl,rfl,by decide +kernel,rfl,by decide +kernel,by decide +kernel⟩,fun pm ctv c us hl=> ?_,fun vs H Q h=> ?_,fun f c A outer s H vs Q hr h=> ?_⟩
 ·match us,hl with
  | [u],_=>rfl
 ·obtain ⟨t,x,rfl,_⟩:=h
  rfl
 ·obtain ⟨t,x,rfl,ht,k⟩:=h
  refine ⟨_,(fY (aj (aK (aJ (K:=K) rfl) (pv 0) au (fun _ _=>rfl)) (aj (Uy PB (aK (aJ (K:=K) rfl) (pv 0) au (fun _ _=>rfl))) aq))), ?_⟩;refine ⟨_,rfl,_,_,_,_,rfl,rfl,bZ.of ht,rfl,_,rfl,_,_,_,_,rfl,rfl,bZ.of ht,rfl,_,rfl,(by show 2<=sizeLine;decide),fun p hp=>k p hp⟩
def oU (K:PySem.W.Frag):Sp:=fun vs H Q _=>∃(a d t:Addr) (kvs:List (List Key×V)) (ws:List bG) (g h:Int) (x:PN),vs=[.ref a,.ref d,.ref t]/\cu H a ws/\ws.length<=300/\H d=some (.dT kvs)/\Gk kvs (nm ws)/\H t=some (.tup (nV (wN ws x)))/\z_ ws g h x /\
 ∀(p:Addr) (H':Hp),H' p=some (.tup (nV (eU ws (lst ws g x.2) x.2)))->Same H H'->Q (.ref p) H'
theorem Aw {f:Addr} {fd:FuncData} (F:lW K "note_for" "note_for" cV f fd) (Bt:xW mg):cT P w K mg base jJ 1 f fd ["web","places","want"] (oU K):=by
 refine F.ok pU (fun vs H Q E h=> ?_) (fun cdv A outer s H vs Q E hr h=> ?_)
 ·obtain ⟨a,d,t,kvs,ws,g,h,x,rfl,_⟩:=h
  rfl
 ·obtain ⟨a,d,t,kvs,ws,g,h,x,rfl,W,wl,hd,pl,ht,hx,k⟩:=h
  have hu:=mH hr;obtain ⟨x1,x2,x3,x4,x5⟩:=hx;obtain ⟨y,ey⟩:∃y,ws[x.2]? = some y:=⟨ws[x.2],by simp [x1]⟩;have hy:=dG ey
  refine ⟨_,(aA (jU (i:=3) rfl pU.nd rfl (Or.inl rfl) (N:=["touch","want"]) (own:=["touch"]) (caps:=[2]) (aR.of (by kernel_rfl)) (bQ (K:=K) rfl (cj (jB (K:=K) rfl) (pv 0) cP (cO (jq hu (pv 1) (cj (g_ (K:=K) rfl) (pv 2) (cO au) cP) (fun _ _=>rfl))))) (fun _ _ _ _=>(aX (i:=0) (show List.Nodup (["touch","want"]:List Str) by decide +kernel) rfl (Or.inl rfl))) (fun _ _ _ _=>(jT (bB j8 (aK (aJ (K:=K) rfl) (pv 0) au (fun _ _=>rfl)) (aK (aJ (K:=K) rfl) (pv 1) au (fun _ _=>rfl)) (bA _)))) (fun _ _ _ _=>(pv 0)))
   (aG (aW (bI (rT (K:=K) rfl) (fY (aj (aK (aJ (K:=K) rfl) (pv 2) au (fun _ _=>rfl)) (aj (bI Ik (aU (bf (K:=K) rfl) (by rfl) Bt.iI eY (aj (pv 3) aq)) au) aq))) (cj (g_ (K:=K) rfl) (pv 2) (cO au) cP))))), ?_⟩
  obtain ⟨wv,hw,dw⟩:=id W;have wvl:wv.length=ws.length:=by rw [dw.length,List.length_map]
  refine ⟨_,rfl,_,rfl,_,rfl,_,rfl,_,_,rfl,bZ.of ht,oZ (nV (wN ws x)) rfl,fun p1 hp1=> ?_⟩;rw [show gq (nV (wN ws x)) (some 2) none=[.int (hnd ws x.2),.int (cnt (ws.take x.2) (hnd ws x.2))] from u_ ..];have s1:=aB (o:=HO.tup [V.int (hnd ws x.2),V.int (cnt (ws.take x.2) (hnd ws x.2))]) hp1;have pv:=pl.1 x.2 _ (rW ey);rw [←hy] at pv;refine ⟨d,_,rfl,pv▸jk.t (k:=kx (hnd ws x.2,cnt (ws.take x.2) (hnd ws x.2))) (s1 _ _ hd) ak,_,rfl,_,_,rfl,aV.of (s1 _ _ hw),fun p2 hp2=> ?_⟩;rw [oA];have s2:=aB (o:=HO.lst (wv.take x.2)) hp2;have s12:=s1.trans s2;refine ⟨p2,rfl,⟨_,aV.of ak⟩,fun D hD=> ?_⟩;have tl:(wv.take x.2).length=x.2:=by rw [List.length_take];omega
  refine jE (K:=K) (fun i=>if hnd ws i=g then wv[i]? else none) hD (aV.of ak) (by omega) (fun i v H2 G F hi s3 kG kF=> ?_) (fun H2 s3 e3=> ?_)
  ·have il:i<x.2:=by have:=(List.getElem?_eq_some_iff.mp hi).1;omega
   rw [List.getElem?_take_of_lt il] at hi;obtain ⟨z,ez⟩:∃z,ws[i]? = some z:=⟨ws[i]'(by omega),by simp [show i<ws.length by omega]⟩;obtain ⟨wv',t',hw',et',ht'⟩:=dZ W ez;have:wv'=wv:=by rw [hw] at hw';injection hw' with q;injection q with q;exact q.symm
   subst this;rw [hi] at et';cases et';have hz:=dG ez;refine ⟨_,rfl,_,_,_,_,rfl,rfl,bZ.of ((s12.trans s3) _ _ ht'),rfl,_,rfl,_,_,_,_,rfl,rfl,bZ.of ((s12.trans s3) _ _ ht),rfl,rfl,_,rfl, ?_⟩
   by_cases e:hnd ws i=g
   ·have e1:V.int z.1=V.int (wN ws x).1:=by show V.int z.1=V.int (hnd ws x.1);rw [←hz,e,x4]
    rw [decide_eq_true e1];refine iW ?_;exact ⟨_,rfl,kF _ _ (Same.refl _) (by rw [if_pos e];exact hi)⟩
   ·have e1:¬V.int z.1=V.int (wN ws x).1:=fun q=>by injection q with q;have q:z.1=hnd ws x.1:=q;rw [hz,q,x4] at e;exact e rfl
    rw [decide_eq_false e1];refine eX ?_;exact kG _ (Same.refl _) (by rw [if_neg e])
  ·have cl:(((List.range (wv.take x.2).length).filterMap fun i=>if hnd ws i=g then wv[i]? else none).length:Int)=cnt (ws.take x.2) g:=by
    rw [tl]
    have:∀n,n<=ws.length->(((List.range n).filterMap fun i=>if hnd ws i=g then wv[i]? else none).length:Int)=cnt (ws.take n) g:=by
     intro n
     induction n with
     | zero=>intro _;rfl
     | succ n ih=>
       intro hn;rw [iu,List.length_append,Int.natCast_add,ih (by omega),tG (by omega)]
       by_cases e:hnd ws n=g
       ·rw [if_pos e,if_pos e.symm]
        have:wv[n]? = some (wv[n]'(by omega)):=by simp [show n<wv.length by omega]
        rw [this];rfl
       ·rw [if_neg e,if_neg (Ne.symm e)]
        simp
    exact this x.2 (by omega)
   have vU:=s12.trans s3;obtain ⟨l1,l2,l3,l4⟩:=iz (ws:=ws) x2 (by omega) x4;refine ⟨_,rfl,_,_,_,_,rfl,rfl,bZ.of (vU _ _ ht),rfl,_,rfl,D,_,rfl,.inl (aV.of e3),_,_,rfl,rfl,(by show 2<=sizeLine;decide),fun p4 Rx=> ?_⟩;rw [cl];have s4:=aB (o:=HO.tup [V.int (wN ws x).1,V.int (cnt (ws.take x.2) g - 1)]) Rx;refine ⟨_,rfl,_,rfl,_,_,rfl,bZ.of ((vU.trans s4) _ _ ht),oZ (nV (wN ws x)) rfl,fun p5 hp5=> ?_⟩;rw [show gq (nV (wN ws x)) (some 2) none=[.int (hnd ws x.2),.int (cnt (ws.take x.2) (hnd ws x.2))] from u_ ..];have s5:=aB (o:=HO.tup [V.int (hnd ws x.2),V.int (cnt (ws.take x.2) (hnd ws x.2))]) hp5;refine ⟨p4,p5,_,_,rfl,rfl,bZ.of (s5 _ _ ak),bZ.of ak,by simp,by show 4<=sizeLine;decide,fun z=>absurd z (by simp),fun _ p hp=> ?_⟩;refine k p _ ?_ ((vU.trans s4).trans (s5.trans (aB hp)));rw [ak];have e1:(wN ws x).1=g:=x4;have e2:cnt (ws.take x.2) g - 1=cnt (ws.take (lst ws g x.2)) g:=by omega
   unfold eU nV;rw [e1];dsimp only;rw [e2,l2];rfl
def qD (x:Nt×Nt):PyData:= .tuple [nD x.1,nD x.2]
theorem Bc (x:Nt×Nt):Dn (qD x)=true:=rfl
theorem RX {H:Hp} {t u v:Addr} {x:Nt×Nt} (h:H t=some (.tup [.ref u,.ref v])) (hu:H u=some (.tup (nV x.1))) (hv:H v=some (.tup (nV x.2))):Dat H (.ref t) (qD x):=by
 unfold qD;simp only [Dat];exact ⟨t,_,rfl,h,by simp only [aC];exact ⟨jw hu,jw hv,trivial⟩⟩
theorem Bk {H:Hp} {v:V} {x:Nt×Nt} (h:Dat H v (qD x)):∃t u z,v = .ref t/\H t=some (.tup [.ref u,.ref z])/\H u=some (.tup (nV x.1))/\H z=some (.tup (nV x.2)):=by
 unfold qD at h;simp only [Dat] at h;obtain ⟨t,vs,e,q,d⟩:=h
 match vs,d with
 | [a,b],d=>
   simp only [aC,and_true] at d;obtain ⟨u,rfl,hu⟩:=gY d.1;obtain ⟨z,rfl,hz⟩:=gY d.2;exact ⟨t,u,z,e,q,hu,hz⟩
 | [],d=>simp only [aC] at d
 | [_],d=>simp only [aC,and_false] at d
 | _::_::_::_,d=>simp only [aC,and_false] at d
def zW (H:Hp) (a:Addr) (l:List (Nt×Nt)):Prop:=∃vs,H a=some (.lst vs)/\aC H vs (l.map qD)
theorem zW.same {H H':Hp} {a:Addr} {l:List (Nt×Nt)} (h:zW H a l) (k:Same H H'):zW H' a l:=by
 obtain ⟨vs,e,d⟩:=h;exact ⟨vs,k _ _ e,aC.keep k.tups _ (aQ _ Bc l) d⟩
theorem GJ {H:Hp} {vs:List V} {l:List (Nt×Nt)} {i:Nat} {v:V} (d:aC H vs (l.map qD)) (e:vs[i]? = some v):∃x t u z,l[i]? = some x/\v = .ref t/\H t=some (.tup [.ref u,.ref z])/\H u=some (.tup (nV x.1))/\H z=some (.tup (nV x.2)):=by
 obtain ⟨q,eq,dq⟩:=d.get e;rw [List.getElem?_map] at eq;cases ex:l[i]? with
 | none=>rw [ex] at eq;cases eq
 | some x=>
   rw [ex] at eq;cases eq;obtain ⟨t,u,z,a,b,c,d⟩:=Bk dq;exact ⟨x,t,u,z,rfl,a,b,c,d⟩
def Kq (p q:Addr) (H H':Hp):Prop:=∀b u,H b=some u->b≠p->b≠q->H' b=some u
def LT (p:Addr) (H:Hp):Prop:=pL H p (lamO Mv) Vf
theorem LT.dU {p:Addr} {H:Hp} (h:LT p H):∃ps,H p=some (.dU ps):=by
 rcases h with e|⟨c,e,_⟩
 ·exact ⟨_,e⟩
 ·exact ⟨_,e⟩
theorem LT.same {p:Addr} {H H':Hp} (h:LT p H) (s:Same H H'):LT p H':=by
 rcases h with e|⟨c,e,f⟩
 ·exact .inl (s _ _ e)
 ·exact .inr ⟨c,s _ _ e,s _ _ f⟩
theorem LT.ne {p a:Addr} {H:Hp} {o:HO} (h:LT p H) (e:H a=some o) (n:∀ps,o ≠ .dU ps):a≠p:=fun z=>by
 obtain ⟨ps,q⟩:=h.dU;rw [z,q] at e;cases e;exact n _ rfl
theorem LT.set {p a:Addr} {H:Hp} {xs ys:List V} (h:LT p H) (e:H a=some (.lst xs)):LT p (upd H a (.lst ys)):=by
 have na:=h.ne e (by intro ps z;cases z);rcases h with q|⟨c,q,f⟩
 ·exact .inl (by rw [aN na.symm];exact q)
 ·have nc:c≠a:=fM f e (by intro z;cases z)
  exact .inr ⟨c,by rw [aN na.symm];exact q,by rw [aN nc];exact f⟩
theorem Kp.Oc {p:Addr} {H H':Hp} (k:Kp p H H') (h:LT p H):∀a xs,H a=some (HO.tup xs)->H' a=some (HO.tup xs):=fun a xs e=>k _ _ e (h.ne e (by intro ps z;cases z))
theorem bT.Vh {p a:Addr} {H H':Hp} {ws:List Nt} (h:bT H a ws) (k:Kp p H H') (l:LT p H):bT H' a ws:=by
 obtain ⟨vs,e,d⟩:=h;exact ⟨vs,k _ _ e (l.ne e (by intro ps z;cases z)),aC.keep (Kp.Oc k l) _ (aQ _ fH ws) d⟩
theorem zW.Vh {p a:Addr} {H H':Hp} {ws:List (Nt×Nt)} (h:zW H a ws) (k:Kp p H H') (l:LT p H):zW H' a ws:=by
 obtain ⟨vs,e,d⟩:=h;exact ⟨vs,k _ _ e (l.ne e (by intro ps z;cases z)),aC.keep (Kp.Oc k l) _ (aQ _ Bc ws) d⟩
def Cj (p:Addr) (K:PySem.W.Frag):Sp:=fun vs H Q _=>∃(a:Addr) (ws:List bG),vs=[.ref a]/\cu H a ws/\(∀x∈ws,pZ x)/\ws.length<=300/\LT p H /\ ∀(r:Addr) (H':Hp),H r=none->zW H' r ((bF ws).map (fW ws))->Kp p H H'->LT p H'->Q (.ref r) H'
structure K3 (p fo:Addr) (HB:Hp) (ws:List bG) (done:List (Nat×PN)) (H:Hp):Prop where
 kp:Kq p fo HB H
 lt:LT p H
 ww:zW H fo (done.map (fW ws))
theorem K3.same {p fo:Addr} {HB H H':Hp} {ws:List bG} {done:List (Nat×PN)} (h:K3 p fo HB ws done H) (s:Same H H'):K3 p fo HB ws done H':=⟨fun b u e n1 n2=>s _ _ (h.kp b u e n1 n2),h.lt.same s,h.ww.same s⟩
theorem K3.Vh {p fo:Addr} {HB H H':Hp} {ws:List bG} {done:List (Nat×PN)} (h:K3 p fo HB ws done H) (k:Kp p H H') (l:LT p H'):K3 p fo HB ws done H':=⟨fun b u e n1 n2=>k _ _ (h.kp b u e n1 n2) n1,l,h.ww.Vh k h.lt⟩
theorem V3 {ws:List bG} (M:List PN) (p:PN->Bool):(List.range M.length).filterMap (fun i=>(M[i]?).bind fun o=>if p o=true then some (nD (wN ws o)) else none)=((M.filter p).map (wN ws)).map nD:=by
 induction M with
 | nil=>rfl
 | cons x l ih=>
   rw [List.length_cons,List.range_succ_eq_map,List.filterMap_cons,List.filterMap_map,List.filter_cons];have e:List.filterMap ((fun i=>((x::l)[i]?).bind fun o=>if p o=true then some (nD (wN ws o)) else none)∘Nat.succ) (List.range l.length)=((l.filter p).map (wN ws)).map nD:=by rw [←ih];rfl
   rw [e];cases h:p x with
   | true=>simp [h]
   | false=>simp [h]
theorem QK {p f:Addr} {fd:FuncData} (F:BP K "wants_with_notes" "wants_with_notes" aZ p f fd) (iD:FnAt P w K mg base 2 "places_of" ["web"] (kY K)) (pN:FnAt P w K mg base 2 "wants_by_hands" ["web"] (oO K)) (BR:FnAt P w K mg base 1 "note_for" ["web","places","want"] (oU K)) (xJ:FnAt P w K mg base 2 "meets" ["note","want"] (qJ K)) (BM:Bm mg base) (Bt:xW mg):cT P w K mg base jJ 3 f fd ["web"] (Cj p K):=by
 refine F.ok bx (fun vs H Q E h=> ?_) (fun c A outer s H vs Q E hcd hr h=> ?_)
 ·obtain ⟨a,ws,rfl,_⟩:=h
  rfl
 ·obtain ⟨a,ws,rfl,W,ok,wl,lt,k⟩:=h
  have hu:=mH hr;have LM:=Jm (P:=P) (w:=w) (K:=K) (mg:=mg) (base:=base)
  refine ⟨_,(aA (aP (i:=1) bx.nd rfl (Or.inl rfl) (bw iD (hr.mono (by decide)) (by rfl) (aj (pv 0) aq)))
   (aA (aP (i:=2) bx.nd rfl (Or.inl rfl) (bw pN (hr.mono (by decide)) (by rfl) (aj (pv 0) aq)))
   (aA (aP (i:=3) bx.nd rfl (Or.inl rfl) (fZ aq))
   (aA (fB PassesOwn.never rfl (bQ (K:=K) rfl (aU (Bq rfl) (by rfl) Bt.tW pH (aj (pv 2) aq))) (aX (i:=4) bx.nd rfl (Or.inl rfl))
   (aA (aP (i:=5) bx.nd rfl (Or.inl rfl) (jq hu (pv 2) (pv 4) (fun _ _=>rfl)))
   (aG (HW PassesOwn.never (Eu (K:=K) rfl (pv 5)) (aA (aP (i:=6) bx.nd rfl (Or.inl rfl) (LC (pm:=(mg "__name__").getD .none) LM (hr.mono (by decide)) (by rfl) Bt.Kr Bs (aj (pv 5) aq) (Ig BM rfl hcd)))
   (aA (aP (i:=7) bx.nd rfl (Or.inr rfl) (bw BR (hr.mono (by decide)) (by rfl) (aj (pv 0) (aj (pv 1) (aj (pv 6) aq)))))
   (aA (jV (gQ (K:=K) rfl (pv 3) (aj (fY (aj (pv 6) (aj (pv 7) aq))) aq)))
   (aG (jU (i:=5) rfl bx.nd rfl (Or.inl rfl) (N:=["each","note"]) (own:=["each"]) (caps:=[7]) (aR.of (by kernel_rfl)) (bQ (K:=K) rfl (pv 5)) (fun _ _ _ _=>(aX (i:=0) (show List.Nodup (["each","note"]:List Str) by decide +kernel) rfl (Or.inl rfl))) (fun _ _ _ _=>(jT (gO (fu (bw xJ (hr.mono (by decide)) (by rfl) (aj (pv 1) (aj (pv 0) aq))))))) (fun _ _ _ _=>(pv 0)))))))))))
   (aG (aW (pv 3))))))), ?_⟩
  refine ⟨_,rfl,a,ws,rfl,W,wl,fun d kvs H1 hd0 hd pl s1=> ?_⟩;refine ⟨_,rfl,a,ws,rfl,W.same s1,wl,fun f H2 OJ WD s2=> ?_⟩;refine ⟨(by show 0<=sizeLine;decide),fun fo hfo=> ?_⟩;have s3:=aB (o:=HO.lst []) hfo;have s12:=s1.trans s2;have RJ:H fo=none:=s12.free hfo;obtain ⟨kv2,ls,hf2,keys,two,lnd,Pr⟩:=id WD;refine ⟨_,rfl,f,kv2,2,ls,rfl,s3 _ _ hf2,keys,by decide,two,fun ks zs ms hks pm mQ zl zm=> ?_⟩;have s4:=aB (o:=HO.lst zs) hks;generalize hHB:upd (upd H2 fo (HO.lst [])) ks (HO.lst zs)=HB at s4 ⊢;have sB:Same H2 HB:=s3.trans s4;have Rz:HB ks=some (.lst zs):=by rw [←hHB];exact ak
  have FJ:HB fo=some (.lst []):=s4 _ _ ak
  have zmB:∀(i:Nat) m,ms[i]? = some m -> ∃t,zs[i]? = some (.ref t)/\HB t=some (.tup (m.map V.int)):=fun i m e=>by
   obtain ⟨t,e1,e2⟩:=zm i m e;exact ⟨t,e1,s4 _ _ e2⟩
  have WB:=(W.same s12).same sB;have ltB:=(lt.same s12).same sB;have hdB:=sB _ _ (s2 _ _ hd);have hfB:=sB _ _ hf2;have nkf:ks≠fo:=(aD ak hks).symm;have ndM:ms.Nodup:=(pm.nodup_iff).mpr lnd
  have Ot:∀k,k∈ms↔k∈lF/\xU ws k≠[]:=fun k=>by
   rw [pm.mem_iff];constructor
   ·intro hk
    obtain ⟨g,h,rfl⟩:∃g h,k=[g,h]:=by
     have:=two k hk
     match k,this with
     | [g,h],_=>exact ⟨g,h,rfl⟩
    rcases Pr g h with z|⟨l,_,_,_,ne⟩
    ·exact absurd hk z.2
    ·rw [wK] at ne
     have ne:pM ws g h≠[]:=fun z=>ne (by rw [z];rfl);exact ⟨Ij ok ne,JQ.mpr ne⟩
   ·rintro ⟨hk,ne⟩
    obtain ⟨g,h,rfl⟩:=tZ hk;have ne:=JQ.mp ne;rcases Pr g h with z|⟨l,_,_,q,_⟩
    ·rw [wK] at z
     exact absurd (List.map_eq_nil_iff.mp z.1) ne
    ·exact q
  have m56:=Js ndM mQ Ot;refine ⟨ks,rfl,⟨_,aV.of Rz⟩, ?_⟩
  refine jC (K:=K) (a:=ks) (xs:=zs) (fun i σ H4=>∃(x1 x2 x3 x4:Option V),σ=[some (.ref a),some (.ref d),some (.ref f),some (.ref fo),x1,x2,x3,x4]/\K3 p fo HB ws ((ms.take i).flatMap (xU ws)) H4)
   ⟨none,none,none,none,rfl,fun b u e _ _=>e,ltB,⟨[],FJ,by simp [aC]⟩⟩ (fun i σ H4 _ ⟨_,_,_,_,_,iv⟩=>aV.of (iv.kp _ _ Rz (ltB.ne Rz (by intro ps z;cases z)) nkf)) ?_ ?_
  ·rintro i v σ H4 hi ⟨x1,x2,x3,x4,rfl,iv⟩
   have il:i<ms.length:=by have:=(List.getElem?_eq_some_iff.mp hi).1;omega
   obtain ⟨m,em⟩:∃m,ms[i]? = some m:=⟨ms[i],by simp [il]⟩;obtain ⟨t,et,ht⟩:=zmB i m em;rw [hi] at et;cases et;have hml:m∈ls:=pm.mem_iff.mp (List.mem_of_getElem? em)
   obtain ⟨g,h,rfl⟩:∃g h,m=[g,h]:=by
    have:=two m hml
    match m,this with
    | [g,h],_=>exact ⟨g,h,rfl⟩
   obtain ⟨l0,v0,NL,_,O1⟩:∃l,cG kv2 [Sum.inl g,Sum.inl h]=some (.ref l)/\bT H2 l (grp ((m8 ws ws.length).map (wN ws)) g h)/\[g,h]∈ls/\grp ((m8 ws ws.length).map (wN ws)) g h≠[]:=by
    rcases Pr g h with z|z
    ·exact absurd hml z.2
    ·exact z
   rw [wK] at NL O1;have tk:ms.take (i+1)=ms.take i++[[g,h]]:=by rw [List.take_add_one,em];rfl
   have toB:∀{b u},HB b=some u->(∀ps,u ≠ .dU ps)->b≠fo->H4 b=some u:=fun e n1 n2=>iv.kp _ _ e (ltB.ne e n1) n2;have Vy:H4 t=some (.tup [.int g,.int h]):=toB ht (by intro ps z;cases z) (fM ht FJ (by intro z;cases z));have hf4:H4 f=some (.dT kv2):=toB hfB (by intro ps z;cases z) (fM hfB FJ (by intro z;cases z));refine ⟨_,rfl,_,rfl,f,_,rfl,v0▸jk.t (k:=[Sum.inl g,Sum.inl h]) hf4 Vy, ?_⟩
   refine ⟨fun m σ H5=>∃(l:Addr) (M L:List PN) (part:List (Nat×PN)) (x3 x4:Option V),σ=[some (.ref a),some (.ref d),some (.ref f),some (.ref fo),some (.ref t),some (.ref l),x3,x4]/\K3 p fo HB ws ((ms.take i).flatMap (xU ws)++part) H5/\bT H5 l (M.map (wN ws))/\l≠fo /\
    (∀z,z∈M↔z∈L)/\L.Pairwise Pg/\(∀z∈L,z_ ws g h z)/\part++fr ws g L.length L=u0 ws g h/\M.length<=90000/\m=L.length,⟨_,l0,pM ws g h,lL ws g h ws.length,[],_,_,rfl,by rw [List.append_nil];exact iv, ?_, ?_,fun z=>wB.trans ju.symm,sH ws g h _,fun z hz=>ju.mp hz,rfl, ?_,rfl⟩, ?_⟩
   ·obtain ⟨us,e1,e2⟩:=NL.same sB
    refine ⟨us,toB e1 (by intro ps z;cases z) ?_,aC.keep (fun a xs h=>toB h (by intro ps z;cases z) (fM h FJ (by intro z;cases z))) _ (aQ _ fH _) e2⟩;obtain ⟨us',e1',_⟩:=NL;exact aD e1' hfo
   ·obtain ⟨us',e1',_⟩:=NL
    exact aD e1' hfo
   ·have h1:=List.length_filter_le (Xy ws g h) (m8 ws ws.length)
    have h2:=tY ws ws.length wl;show ((m8 ws ws.length).filter (Xy ws g h)).length<=_;omega
   ·rintro _ σ H5 ⟨l,M,L,part,x3,x4,rfl,Vk,N5,XC,mem,Qh,win,O2,Ml,rfl⟩
    obtain ⟨us,hl5,dl5⟩:=id N5;have GP:us.length=M.length:=by rw [dl5.length,List.length_map,List.length_map]
    refine ⟨_,rfl, !us.isEmpty,.inl ⟨_,aV.of hl5,rfl⟩, ?_⟩;cases L with
    | nil=>
      have Mn:M=[]:=List.eq_nil_iff_forall_not_mem.mpr fun z hz=>by have:=(mem z).mp hz;simp at this
      have un:us=[]:=List.eq_nil_of_length_eq_zero (by rw [GP,Mn];rfl);subst un;refine eX ?_;refine ⟨_,_,_,_,rfl, ?_⟩;rw [wL,List.append_nil] at O2;rw [tk,List.flatMap_append,show List.flatMap (xU ws) [[g,h]]=u0 ws g h by simp [xU],←O2];exact Vk
    | cons x r=>
      have hxM:x∈M:=(mem x).mpr (.head _)
      have une:us≠[]:=fun z=>by
       have:M.length=0:=by rw [←GP,z];rfl
       rw [List.eq_nil_of_length_eq_zero this] at hxM;simp at hxM
      have ub:(!us.isEmpty)=true:=by
       cases us with
       | nil=>exact absurd rfl une
       | cons _ _=>rfl
      rw [ub];refine iW ?_;have hx:=win x (.head _)
      refine ⟨fun σ H5=>∃(l:Addr) (M:List PN) (x3 x4:Option V),σ=[some (.ref a),some (.ref d),some (.ref f),some (.ref fo),some (.ref t),some (.ref l),x3,x4]/\K3 p fo HB ws ((ms.take i).flatMap (xU ws)++(part++[(lst ws g x.2,x)])) H5/\bT H5 l (M.map (wN ws))/\l≠fo /\
       (∀z,z∈M↔z∈r.filter fun o=>decide (lst ws g x.2<o.1))/\M.length<=90000,fun σ' H' ⟨l',M',y3,y4,e1,e2,e3,e4,e5,e6⟩=> ?_, ?_⟩
      ·have fl:=List.length_filter_le (fun o:PN=>decide (lst ws g x.2<o.1)) r
       refine ⟨_, ?_,l',M',r.filter fun o=>decide (lst ws g x.2<o.1),_,y3,y4,e1,e2,e3,e4,e5,(List.pairwise_cons.mp Qh).2.filter _,fun z hz=>win z (.tail _ (List.mem_filter.mp hz).1), ?_,e6,rfl⟩
       ·show _<r.length+1
        omega
       ·rw [←O2,List.append_assoc,List.singleton_append]
        show part++_::fr ws g _ _=part++_::fr ws g _ _;rw [Dt ws g (r.filter fun o=>decide (lst ws g x.2<o.1)).length r.length _ (Nat.le_refl _) fl]
      have npl:=Vk.lt.ne hl5 (by intro ps z;cases z);refine ⟨_,rfl,Vk.lt,fun q H6 hq0 LF LT6 kp6=> ?_⟩;have iv6:=Vk.Vh kp6 LT6;have N6:=N5.Vh kp6 Vk.lt;obtain ⟨YT,Gr,Nh⟩:=id N6;have:YT=us:=by rw [kp6 _ _ hl5 npl] at Gr;injection Gr with q;injection q with q;exact q.symm
      subst this
      have at6:∀(i:Nat) v,YT[i]? = some v -> ∃o t,M[i]? = some o/\v = .ref t/\H6 t=some (.tup (nV (wN ws o))):=fun i v e=>by
       obtain ⟨y,t,e1,e2,e3⟩:=dI Nh e;rw [List.getElem?_map] at e1;cases eo:M[i]? with
       | none=>rw [eo] at e1;cases e1
       | some o=>
         rw [eo] at e1;cases e1;exact ⟨o,t,rfl,e2,e3⟩
      refine ⟨l,q,YT,fun i=>Fv ws ((M[i]?).getD (0,0)),rfl,rfl,LF,aV.of Gr,List.length_pos_iff.mpr une,fun i v H7 e s7=> ?_,fun i2 v H7 e fm s7=> ?_⟩
      ·obtain ⟨o,t',eo,rfl,ht'⟩:=at6 i v e
       refine ⟨t',wN ws o,rfl,s7 _ _ ht',fun pp hpp=>⟨pp,rfl, ?_,aB hpp⟩⟩;rw [ak];dsimp only;rw [eo];rfl
      obtain ⟨o,tw,eo,rfl,htw⟩:=at6 i2 v e;have eox:o=x:=Rf (fun i=>Fv ws ((M[i]?).getD (0,0))) (fun i z ez=>by rw [ez];rfl) Qh win mem eo (GP▸fm);subst eox;have iv7:=iv6.same s7;have N7:=N6.same s7;have Vt:=s7 _ _ htw;have atB:∀{b u},HB b=some u->(∀ps,u ≠ .dU ps)->b≠fo->H7 b=some u:=fun e n1 n2=>iv7.kp _ _ e (ltB.ne e n1) n2
      have W7:cu H7 a ws:=by
       obtain ⟨vs,e1,e2⟩:=WB;obtain ⟨vs',e1',_⟩:=W;exact ⟨vs,atB e1 (by intro ps z;cases z) (aD e1' RJ),aC.keep (fun a xs h=>atB h (by intro ps z;cases z) (fM h FJ (by intro z;cases z))) _ (aQ _ pA _) e2⟩
      have hd7:=atB hdB (by intro ps z;cases z) (fM hdB FJ (by intro z;cases z));refine ⟨_,rfl,_,rfl,_,rfl,a,d,tw,kvs,ws,g,h,o,rfl,W7,wl,hd7,pl,Vt,hx,fun np H8 hnp s8=> ?_⟩;have iv8:=iv7.same s8;have N8:=N7.same s8;have ab3:=s8 _ _ Vt;obtain ⟨fv,RG,Wk⟩:=id iv8.ww
      have fvl:fv.length<=20000:=by
       rw [Wk.length,List.length_map,List.length_map,List.length_append];have h1:=sS wl (ms.take i)
       have h2:part.length<=ws.length:=by
        have:=Du ws g h;rw [←O2,List.length_append] at this;omega
       rw [List.length_take] at h1;have:min i ms.length<=56:=by omega
       omega
      refine ⟨_,rfl,.inl ⟨rfl,_,aV.of RG⟩,_,rfl,_,rfl,(by show 2<=sizeLine;decide),fun tp htp=> ?_⟩;have s9:=aB (o:=HO.tup [V.ref tw,V.ref np]) htp;refine ⟨fo,fv,_,rfl,rfl,s9 _ _ RG,by rw [sizeLine_eq];omega, ?_⟩;have iv9:=iv8.same s9;have N9:=N8.same s9;have RD:=s9 _ _ RG;have Vs:=s9 _ _ ab3;have Ry:=s9 _ _ hnp;have Vx:(upd H8 tp (HO.tup [V.ref tw,V.ref np])) tp=some (.tup [.ref tw,.ref np]):=ak;generalize upd H8 tp (HO.tup [V.ref tw,V.ref np])=H9 at iv9 N9 RD Vs Ry Vx s9 ⊢;have kX:Kp fo H9 (upd H9 fo (.lst (fv++[V.ref tp]))):=Kp.set;have tX:=kX.tups RD
      have ivX:K3 p fo HB ws ((ms.take i).flatMap (xU ws)++(part++[(lst ws g o.2,o)])) (upd H9 fo (.lst (fv++[V.ref tp]))):=by
       refine ⟨fun b u e n1 n2=>kX _ _ (iv9.kp b u e n1 n2) n2,iv9.lt.set RD,_,ak, ?_⟩;rw [←List.append_assoc,List.map_append,List.map_append];exact aC.append (aC.keep (fun a xs h=>tX _ _ (s9.tups _ _ h)) _ (aQ _ Bc _) Wk) (J7 (RX (x:=fW ws (lst ws g o.2,o)) (tX _ _ Vx) (tX _ _ Vs) (tX _ _ Ry)))
      have NX:bT (upd H9 fo (.lst (fv++[V.ref tp]))) l (M.map (wN ws)):=N9.kp tX kX XC;have VF:=tX _ _ Ry;generalize upd H9 fo (.lst (fv++[V.ref tp]))=HX at ivX NX VF ⊢;obtain ⟨uX,hlX,dlX⟩:=id NX;have uXl:uX.length=M.length:=by rw [dlX.length,List.length_map,List.length_map]
      refine ⟨_,rfl,l,rfl,⟨_,aV.of hlX⟩,fun D hD=> ?_⟩;refine gZ (K:=K) (xs:=uX) (fun i=>(M[i]?).bind fun z=>if decide (lst ws g o.2<z.1)=true then some (nD (wN ws z)) else none) (fun i d h=> ?_) hD (aV.of hlX) (by omega) (fun i v H2 G F hi sY kG kF=> ?_) (fun H2 vs sY e2 d2=> ?_)
      ·cases e:M[i]? with
       | none=>rw [e] at h;cases h
       | some z=>
         rw [e] at h;simp only [Option.bind_some] at h;split at h
         ·cases h;rfl
         ·cases h
      ·obtain ⟨y,t',e1,rfl,ht'⟩:=dI dlX hi
       rw [List.getElem?_map] at e1;cases YB:M[i]? with
       | none=>rw [YB] at e1;cases e1
       | some z=>
         rw [YB] at e1;cases e1;rw [YB] at kG kF;simp only [Option.bind_some] at kG kF;have zL:=(mem z).mp (List.mem_of_getElem? YB);have mi:=Jf hx (win z zL) ((List.mem_cons.mp zL).imp id fun q=>(List.pairwise_cons.mp Qh).1 z q);refine ⟨_,rfl,_,rfl,np,t',eU ws (lst ws g o.2) o.2,wN ws z,rfl,sY _ _ VF,sY _ _ ht',fun H3 sZ=>⟨_,rfl, ?_⟩⟩
         by_cases q:lst ws g o.2<z.1
         ·rw [if_pos (decide_eq_true q)] at kF
          have:mB (eU ws (lst ws g o.2) o.2) (wN ws z)=false:=by
           rw [decide_eq_true q] at mi;cases w:mB (eU ws (lst ws g o.2) o.2) (wN ws z) with
           | false=>rfl
           | true=>rw [w] at mi;cases mi
          rw [this];refine iW ?_;exact ⟨_,rfl,kF _ _ _ sZ rfl (jw ((sY.trans sZ) _ _ ht'))⟩
         ·rw [if_neg (by rw [decide_eq_true_iff];exact q)] at kG
          have:mB (eU ws (lst ws g o.2) o.2) (wN ws z)=true:=by
           rw [decide_eq_false q] at mi;cases w:mB (eU ws (lst ws g o.2) o.2) (wN ws z) with
           | true=>rfl
           | false=>rw [w] at mi;cases mi
          rw [this];refine eX ?_;exact kG _ sZ rfl
      ·rw [uXl,V3] at d2
       refine ⟨D,M.filter fun z=>decide (lst ws g o.2<z.1),_,_,rfl,ivX.same sY,⟨vs,e2,d2⟩, ?_,fun z=> ?_, ?_⟩
       ·obtain ⟨_,e1,_⟩:=ivX.ww
        exact (aD e1 hD).symm
       ·rw [List.mem_filter,List.mem_filter,mem z,List.mem_cons]
        constructor
        ·rintro ⟨rfl|q1,q2⟩
         ·obtain ⟨z1,z2,_,z4,_⟩:=hx
          have:=(iz (ws:=ws) z2 (by omega) z4).2.2.1 z.1 z2 z4;have:=of_decide_eq_true q2;omega
         ·exact ⟨q1,q2⟩
        ·rintro ⟨q1,q2⟩
         exact ⟨.inr q1,q2⟩
       ·exact Nat.le_trans (List.length_filter_le _ _) Ml
  ·rintro σ H4 ⟨x1,x2,x3,x4,rfl,iv⟩
   have e:ms.take zs.length=ms:=by rw [zl,List.take_length]
   rw [e,Ju ndM mQ Ot] at iv;exact ⟨_,rfl,k fo H4 RJ iv.ww (fun b u e n=>iv.kp _ _ (sB _ _ (s12 _ _ e)) n (aD e RJ)) iv.lt⟩
theorem O6 {α:Type} (l:List α) (f:α->Nt):(List.range l.length).filterMap (fun i=>(l[i]?).map fun x=>nD (f x))=(l.map f).map nD:=by
 induction l with
 | nil=>rfl
 | cons x l ih=>
   rw [List.length_cons,List.range_succ_eq_map,List.filterMap_cons,List.filterMap_map];have e:List.filterMap ((fun i=>((x::l)[i]?).map fun x=>nD (f x))∘Nat.succ) (List.range l.length)=(l.map f).map nD:=by rw [←ih];rfl
   rw [e];rfl
theorem CQ {α:Type} (l:List α) (f:α->Nt) (i:Nat) (d:PyData) (h:(l[i]?).map (fun x=>nD (f x))=some d):Dn d=true:=by
 cases e:l[i]? with
 | none=>rw [e] at h;cases h
 | some x=>rw [e] at h;cases h;rfl
def oR (p:Addr) (K:PySem.W.Frag):Sp:=fun vs H Q _=>∃(a:Addr) (ws:List bG),vs=[.ref a]/\cu H a ws/\(∀x∈ws,pZ x)/\ws.length<=300/\LT p H /\ ∀(r:Addr) (ns:List Nt) (H':Hp),H r=none->bT H' r ns->ns.Perm ((bF ws).map fun y=>(fW ws y).2)->Sv ns->Kp p H H'->LT p H'->Q (.ref r) H'
def vO (p:Addr) (K:PySem.W.Frag):Sp:=fun vs H Q _=>∃(a:Addr) (ws:List bG),vs=[.ref a]/\cu H a ws/\(∀x∈ws,pZ x)/\ws.length<=300/\LT p H /\ ∀(r:Addr) (H':Hp),H r=none->bT H' r ((bF ws).map fun y=>(fW ws y).1)->Kp p H H'->LT p H'->Q (.ref r) H'
theorem uZ {ws:List bG} (hl:ws.length<=300):(bF ws).length<=20000:=by
 rw [sO];have h:=sS hl lF;rw [show lF.length=56 by decide +kernel] at h;omega
theorem kpF {p a:Addr} {H H':Hp} (k:Kp p H H') (l:LT p H') (h:H' a=none):H a=none:=by
 cases e:H a with
 | none=>rfl
 | some o=>
   by_cases z:a=p
   ·obtain ⟨ps,q⟩:=l.dU
    rw [z,q] at h;cases h
   ·rw [k _ _ e z] at h;cases h
theorem Av {p:Addr} {f:Addr} {fd:FuncData} (F:lW K "strict_notes" "strict_notes" bM f fd) (fJ:FnAt P w K mg base 3 "wants_with_notes" ["web"] (Cj p K)) (Bt:xW mg):cT P w K mg base jJ 4 f fd ["web"] (oR p K):=by
 refine F.ok qd (fun vs H Q E h=> ?_) (fun cdv A outer s H vs Q E hr h=> ?_)
 ·obtain ⟨a,ws,rfl,_⟩:=h
  rfl
 ·obtain ⟨a,ws,rfl,W,ok,wl,lt,k⟩:=h
  refine ⟨_,(aG (aW (aU (zK (K:=K) rfl) (by rfl) Bt.tW pH (aj (iV rfl (N:=["each"]) (own:=["each"]) (caps:=[]) (aR.of (by kernel_rfl)) (bQ (K:=K) rfl (bw fJ (hr.mono (by decide)) (by rfl) (aj (pv 0) aq))) (fun _ _ _ _=>(aX (i:=0) (show List.Nodup (["each"]:List Str) by decide +kernel) rfl (Or.inl rfl))) (fun _ _ _ _=>iU) (fun _ _ _ _=>(aK (aJ (K:=K) rfl) (pv 0) au (fun _ _=>rfl)))) aq)))), ?_⟩;refine ⟨_,rfl,a,ws,rfl,W,ok,wl,lt,fun r H1 hr0 WW Vi Rh=> ?_⟩;obtain ⟨us,hus,Ng⟩:=id WW;have GP:us.length=(bF ws).length:=by rw [Ng.length,List.length_map,List.length_map]
  have few:=uZ wl;refine ⟨r,rfl,⟨_,aV.of hus⟩,fun D hD=> ?_⟩;refine gZ (K:=K) (xs:=us) (fun i=>((bF ws)[i]?).map fun y=>nD (fW ws y).2) (CQ (bF ws) fun y=>(fW ws y).2) hD (aV.of hus) (by omega) (fun i v H2 G F hi s2 kG kF=> ?_) (fun H2 vs s2 e2 d2=> ?_)
  ·obtain ⟨x,t,u,z,ex,rfl,ht,hu',hz⟩:=GJ Ng hi
   rw [List.getElem?_map] at ex;cases ey:(bF ws)[i]? with
   | none=>rw [ey] at ex;cases ex
   | some y=>
     rw [ey] at ex kF;cases ex;refine iW (B:=G H2) ?_;exact ⟨_,rfl,_,_,_,_,rfl,rfl,bZ.of (s2 _ _ ht),rfl,kF _ _ _ (Same.refl _) rfl (jw (s2 _ _ hz))⟩
  ·rw [GP,O6 (bF ws) fun y=>(fW ws y).2] at d2
   have Gq:=Rh.same s2;exact Hr ⟨vs,e2,d2⟩ fun l ns H3 hl NN pp ss s3=>k l ns H3 (kpF Vi Rh (s2.free hl)) NN pp ss (fun b u e n=>(s2.trans s3) _ _ (Vi b u e n)) (Gq.same s3)
theorem Ir {p:Addr} {f:Addr} {fd:FuncData} (F:lW K "wants_apart" "wants_apart" bV f fd) (fJ:FnAt P w K mg base 3 "wants_with_notes" ["web"] (Cj p K)) (Bt:xW mg):cT P w K mg base jJ 4 f fd ["web"] (vO p K):=by
 refine F.ok rC (fun vs H Q E h=> ?_) (fun cdv A outer s H vs Q E hr h=> ?_)
 ·obtain ⟨a,ws,rfl,_⟩:=h
  rfl
 ·obtain ⟨a,ws,rfl,W,ok,wl,lt,k⟩:=h
  refine ⟨_,(aG (aW (iV rfl (N:=["each"]) (own:=["each"]) (caps:=[]) (aR.of (by kernel_rfl)) (bQ (K:=K) rfl (bw fJ (hr.mono (by decide)) (by rfl) (aj (pv 0) aq))) (fun _ _ _ _=>(aX (i:=0) (show List.Nodup (["each"]:List Str) by decide +kernel) rfl (Or.inl rfl))) (fun _ _ _ _=>iU) (fun _ _ _ _=>(aK (aJ (K:=K) rfl) (pv 0) au (fun _ _=>rfl)))))), ?_⟩;refine ⟨_,rfl,a,ws,rfl,W,ok,wl,lt,fun r H1 hr0 WW Vi Rh=> ?_⟩;obtain ⟨us,hus,Ng⟩:=id WW;have GP:us.length=(bF ws).length:=by rw [Ng.length,List.length_map,List.length_map]
  have few:=uZ wl;refine ⟨r,rfl,⟨_,aV.of hus⟩,fun D hD=> ?_⟩;refine gZ (K:=K) (xs:=us) (fun i=>((bF ws)[i]?).map fun y=>nD (fW ws y).1) (CQ (bF ws) fun y=>(fW ws y).1) hD (aV.of hus) (by omega) (fun i v H2 G F hi s2 kG kF=> ?_) (fun H2 vs s2 e2 d2=> ?_)
  ·obtain ⟨x,t,u,z,ex,rfl,ht,hu',hz⟩:=GJ Ng hi
   rw [List.getElem?_map] at ex;cases ey:(bF ws)[i]? with
   | none=>rw [ey] at ex;cases ex
   | some y=>
     rw [ey] at ex kF;cases ex;refine iW (B:=G H2) ?_;exact ⟨_,rfl,_,_,_,_,rfl,rfl,bZ.of (s2 _ _ ht),rfl,kF _ _ _ (Same.refl _) rfl (jw (s2 _ _ hu'))⟩
  ·rw [GP,O6 (bF ws) fun y=>(fW ws y).1] at d2
   exact k D H2 (kpF Vi Rh hD) ⟨vs,e2,d2⟩ (fun b u e n=>s2 _ _ (Vi b u e n)) (Rh.same s2)
def Dg:Option Expr:=((aF bK)[2]?).bind fun m=>(Oe m).bind Oq
def Oo:Str:= "apart_shows" ++ ".<locals>." ++ "<lambda>"
def Jw (x:Nt):List Int:=[x.1,x.2.2.1,x.2.2.2]
def Lg:List V->Hp->VK->Prop:=fun vs H Q=>∃(t:Addr) (x:Nt),vs=[.ref t]/\H t=some (.tup (nV x)) /\ ∀p,H p=none->Q (.ref p) (upd H p (.tup ((Jw x).map V.int)))
theorem Jl:uc P w K mg base 0 ["want"] ["want"] Oo (lamP Dg) (Vg Dg) (Ve Dg) Lg:=by
 refine ⟨⟨rfl,rfl,rfl,by decide +kernel,rfl,by decide +kernel,by decide +kernel⟩,fun pm ctv c us hl=> ?_,fun vs H Q h=> ?_,fun f c A outer s H vs Q hr h=> ?_⟩
 ·match us,hl with
  | [u],_=>rfl
 ·obtain ⟨t,x,rfl,_⟩:=h
  rfl
 ·obtain ⟨t,x,rfl,ht,k⟩:=h
  refine ⟨_,(fY (aj (aK (aJ (K:=K) rfl) (pv 0) au (fun _ _=>rfl)) (aj (aK (aJ (K:=K) rfl) (pv 0) au (fun _ _=>rfl)) (aj (aK (aJ (K:=K) rfl) (pv 0) au (fun _ _=>rfl)) aq)))), ?_⟩;exact ⟨_,rfl,_,_,_,_,rfl,rfl,bZ.of ht,rfl,_,rfl,_,_,_,_,rfl,rfl,bZ.of ht,rfl,_,rfl,_,_,_,_,rfl,rfl,bZ.of ht,rfl,(by show 3<=sizeLine;decide),fun p hp=>k p hp⟩
def NT (p:Addr) (H:Hp):Prop:=pL H p (lamO Dg) Oo
def nH (ws:List bG) (x:Nt):Nat:=(nm ws).idxOf (n1 x)
def mU (ws:List bG) (x:Nt):Nat:=(nm ws).idxOf (n2 x)
def Xj (ws:List bG) (x y:Nt):Prop:=x.1=y.1/\x.2.2.1=y.2.2.1/\mU ws x<=mU ws y/\nH ws y<mU ws x
def KJ (ws:List bG) (ns:List Nt):Prop:=(∀x∈ns,dJ ws x) /\ ∀(a b:Nat) x y,a≠b->ns[a]? = some x->ns[b]? = some y -> ¬Xj ws x y
theorem M_ {l1 l2:Addr} {xs ys:List V} {n:Nat} {g:TG} {tb:TS} {D:Ends} {σ:St} {H:Hp} (hn:n=min xs.length ys.length) (Pv:Nat->St->Hp->Prop) (h0:Pv 0 σ H) (hl:∀i σ H,i<=n->Pv i σ H->aV K H l1 xs/\aV K H l2 ys)
 (hs:∀i x y σ H p,xs[i]? = some x->ys[i]? = some y->Pv i σ H->H p=none->g (.ref p) σ (upd H p (.tup [x,y])) fun σ2 H2=>tb {D with nx:=Pv (i+1),ct:=Pv (i+1),bk:=D.nx} σ2 H2) (hd:∀σ H,Pv n σ H->D.nx σ H):
 ∃W:Nat->Nat->St->Hp->Prop,(∃m,W 0 m σ H) /\ ∀i m σ H,W i m σ H ->
  ((Xh K l1 l2).stop i H/\D.nx σ H)\/((Xh K l1 l2).go i H /\ ∃N:St->Hp->Prop,(∀σ' H',N σ' H' -> ∃m',m'<m/\W (i+1) m' σ' H') /\ ∀x H',(Xh K l1 l2).Pq i H x H'->g x σ H' fun σ2 H2=>tb {D with nx:=N,ct:=N,bk:=D.nx} σ2 H2):=by
 refine ⟨fun i m σ H=>m=n - i/\i<=n/\Pv i σ H,⟨n,by simp,Nat.zero_le _,h0⟩, ?_⟩;rintro i m σ H ⟨rfl,hi,p⟩;obtain ⟨q1,q2⟩:=hl i σ H hi p
 by_cases hlt:i<n
 ·refine .inr ⟨⟨xs,ys,xs[i]'(by omega),ys[i]'(by omega),q1,q2,by simp [show i<xs.length by omega],by simp [show i<ys.length by omega]⟩,Pv (i+1),fun σ' H' p'=>⟨n - (i+1),by omega,rfl,hlt,p'⟩,fun x H' y=> ?_⟩
  obtain ⟨t,z,u,rfl,ht,hz,hu,rfl⟩:=y;exact hs i z u σ _ t (hz xs q1) (hu ys q2) p ht
 ·have e:i=n:=by omega
  subst e;exact .inl ⟨⟨xs,ys,q1,q2,by omega⟩,hd σ H p⟩
def NZ (x y:Nt):Prop:=Tim.cJ (Jw y) (Jw x)=false
theorem Dh (x y:Nt):NZ x y↔x.1<y.1\/(x.1=y.1/\(x.2.2.1<y.2.2.1\/(x.2.2.1=y.2.2.1/\x.2.2.2<=y.2.2.2))):=by
 unfold NZ Jw;simp only [Tim.cJ];split
 ·rename_i e1
  split
  ·rename_i e2
   split
   ·rename_i e3
    simp;omega
   ·simp
    omega
  ·simp
   omega
 ·simp
  omega
theorem uL {ws:List bG} {x:Nt} {i j:Nat} (st:iJ ws x i j):nH ws x=i/\mU ws x=j:=by
 have get:∀{y:kj} {i:Nat},(nm ws)[i]? = some y->(nm ws)[(nm ws).idxOf y]? = some y:=fun {y i} e=>by
  have hl:=List.idxOf_lt_length_iff.mpr (List.mem_of_getElem? e);rw [List.getElem?_eq_getElem hl,List.getElem_idxOf hl]
 exact ⟨gR (get st.2.1) st.2.1,gR (get st.2.2.1) st.2.2.1⟩
theorem jM {ws:List bG} {x:Nt} (h:dJ ws x):iJ ws x (nH ws x) (mU ws x):=by
 obtain ⟨i,j,_,_,st,_⟩:=h;obtain ⟨e1,e2⟩:=uL st;rw [e1,e2];exact st
theorem Qu {ws:List bG} {x y:Nt} (hx:dJ ws x) (hy:dJ ws y) (e:x.2.2.1=y.2.2.1):mU ws x<=mU ws y↔x.2.2.2<=y.2.2.2:=by
 have sx:=jM hx;have sy:=jM hy;obtain ⟨tx,ex,qx⟩:=jr sx.2.2.1;obtain ⟨ty,ey,qy⟩:=jr sy.2.2.1;have hx1:x.2.2.1=tx.1:=congrArg Prod.fst qx;have hx2:x.2.2.2=cnt (ws.take (mU ws x)) tx.1:=congrArg Prod.snd qx;have hy1:y.2.2.1=ty.1:=congrArg Prod.fst qy;have hy2:y.2.2.2=cnt (ws.take (mU ws y)) ty.1:=congrArg Prod.snd qy;have et:tx.1=ty.1:=by rw [←hx1,←hy1,e]
 rw [hx2,hy2,←et];constructor
 ·intro q
  exact jF q _
 ·intro q
  rcases Nat.lt_or_ge (mU ws y) (mU ws x) with w|w
  ·have m:=jF (ws:=ws) (m:=mU ws y+1) (n:=mU ws x) w ty.1
   have tk:ws.take (mU ws y+1)=ws.take (mU ws y)++[ty]:=by rw [List.take_add_one,ey];rfl
   rw [tk,lD,if_pos rfl] at m;rw [et] at q;omega
  ·exact w
theorem chain {ws:List bG} {l:List Nt} (mQ:l.Pairwise NZ) (hw:∀x∈l,dJ ws x) (ok:∀(i:Nat) x y,l[i]? = some x->l[i+1]? = some y -> ¬(x.1=y.1/\x.2.2.1=y.2.2.1/\nH ws y<mU ws x)) (i:Nat) (x:Nt) (hx:l[i]? = some x):∀(d:Nat) (y:Nt),l[i+d+1]? = some y->x.1=y.1->x.2.2.1=y.2.2.1->mU ws x<=nH ws y
 | 0,y,hy,e1,e2=>by
   have:=ok i x y hx hy;rcases Nat.lt_or_ge (nH ws y) (mU ws x) with w|w
   ·exact absurd ⟨e1,e2,w⟩ this
   ·exact w
 | d+1,y,hy,e1,e2=>by
   have yl:=(List.getElem?_eq_some_iff.mp hy).1;obtain ⟨z,hz⟩:∃z,l[i+d+1]? = some z:=⟨l[i+d+1]'(by omega),by simp [show i+d+1<l.length by omega]⟩
   have k1:NZ x z:=by
    have h1:=(List.getElem?_eq_some_iff.mp hx).2;have h2:=(List.getElem?_eq_some_iff.mp hz).2;rw [←h1,←h2];exact List.pairwise_iff_getElem.mp mQ i (i+d+1) (by omega) (by omega) (by omega)
   have k2:NZ z y:=by
    have h1:=(List.getElem?_eq_some_iff.mp hz).2;have h2:=(List.getElem?_eq_some_iff.mp hy).2;rw [←h1,←h2];exact List.pairwise_iff_getElem.mp mQ (i+d+1) (i+(d+1)+1) (by omega) (by omega) (by omega)
   rw [Dh] at k1 k2;have f1:x.1=z.1:=by omega
   have f2:x.2.2.1=z.2.2.1:=by omega
   have ih:=chain mQ hw ok i x hx d z hz f1 f2;have lz:=(jM (hw z (List.mem_of_getElem? hz))).2.2.2;have:=ok (i+d+1) z y hz hy;rcases Nat.lt_or_ge (nH ws y) (mU ws z) with w|w
   ·exact absurd ⟨by omega,by omega,w⟩ this
   ·omega
theorem Gi {ws:List bG} {ns:List Nt} {ms:List Nat} (hw:∀x∈ns,dJ ws x) (pm:ms.Perm (List.range ns.length)) (mQ:(ms.map fun i=>(ns[i]?).getD (0,0,0,0)).Pairwise NZ)
 (ok:∀(i:Nat) x y,(ms.map fun i=>(ns[i]?).getD (0,0,0,0))[i]? = some x->(ms.map fun i=>(ns[i]?).getD (0,0,0,0))[i+1]? = some y -> ¬(x.1=y.1/\x.2.2.1=y.2.2.1/\nH ws y<mU ws x)):KJ ws ns:=by
 have hin:∀i∈ms,i<ns.length:=fun i hi=>List.mem_range.mp (pm.mem_iff.mp hi)
 have hwm:∀x∈ms.map (fun i=>(ns[i]?).getD (0,0,0,0)),dJ ws x:=fun x hx=>by
  obtain ⟨i,hi,rfl⟩:=List.mem_map.mp hx;rw [List.getElem?_eq_getElem (hin i hi)];exact hw _ (List.getElem_mem _)
 have at_:∀{a:Nat} {x:Nt},ns[a]? = some x -> ∃i:Nat,ms[i]? = some a/\(ms.map fun i=>(ns[i]?).getD (0,0,0,0))[i]? = some x:=fun {a x} e=>by
  obtain ⟨i,hi⟩:=List.getElem?_of_mem (pm.mem_iff.mpr (List.mem_range.mpr (List.getElem?_eq_some_iff.mp e).1));exact ⟨i,hi,by rw [List.getElem?_map,hi];simp [e]⟩
 refine ⟨hw,fun a b x y ne ea eb ⟨c1,c2,c3,c4⟩=> ?_⟩;obtain ⟨i,mi,ti⟩:=at_ ea
 obtain ⟨j,mj,tj⟩:=at_ eb
 have hx:=hw x (List.mem_of_getElem? ea);have hy:=hw y (List.mem_of_getElem? eb);rcases Nat.lt_trichotomy i j with q|q|q
 ·obtain ⟨d,rfl⟩:∃d,j=i+d+1:=⟨j - i - 1,by omega⟩
  have:=chain mQ hwm ok i x ti d y tj c1 c2;omega
 ·subst q
  rw [mi] at mj;exact ne (Option.some.inj mj)
 ·obtain ⟨d,rfl⟩:∃d,i=j+d+1:=⟨i - j - 1,by omega⟩
  have:=chain mQ hwm ok j y tj d x ti c1.symm c2.symm;have lx:=(jM hx).2.2.2;have ly:=(jM hy).2.2.2;omega
theorem Ku {ws:List bG} {ns:List Nt} {ms:List Nat} (pm:ms.Perm (List.range ns.length)) (mQ:(ms.map fun i=>(ns[i]?).getD (0,0,0,0)).Pairwise NZ) {i:Nat} {x y:Nt}
 (hx:(ms.map fun i=>(ns[i]?).getD (0,0,0,0))[i]? = some x) (hy:(ms.map fun i=>(ns[i]?).getD (0,0,0,0))[i+1]? = some y) (c:x.1=y.1/\x.2.2.1=y.2.2.1/\nH ws y<mU ws x):¬KJ ws ns:=fun ⟨hw,no⟩=>by
 have nd:ms.Nodup:=(pm.nodup_iff).mpr List.nodup_range;have il:=(List.getElem?_eq_some_iff.mp hy).1;rw [List.length_map] at il
 have k1:NZ x y:=by
  have h1:=(List.getElem?_eq_some_iff.mp hx).2;have h2:=(List.getElem?_eq_some_iff.mp hy).2;rw [←h1,←h2];exact List.pairwise_iff_getElem.mp mQ i (i+1) (by rw [List.length_map];omega) (by rw [List.length_map];omega) (by omega)
 have g:∀{j:Nat} (hj:j<ms.length) {z:Nt},(ms.map fun i=>(ns[i]?).getD (0,0,0,0))[j]? = some z->ns[ms[j]]? = some z:=fun {j} hj {z} e=>by
  rw [List.getElem?_map,List.getElem?_eq_getElem hj] at e;have lt:ms[j]<ns.length:=List.mem_range.mp (pm.mem_iff.mp (List.getElem_mem hj));simp only [Option.map_some] at e;rw [List.getElem?_eq_getElem lt] at e ⊢;simpa using e
 have ex:=g (j:=i) (by omega) hx;have ey:=g (j:=i+1) il hy;have hwx:=hw x (List.mem_of_getElem? ex);have hwy:=hw y (List.mem_of_getElem? ey);rw [Dh] at k1;refine no ms[i] ms[i+1] x y (fun z=> ?_) ex ey ⟨c.1,c.2.1,(Qu hwx hwy c.2.1).mpr (by omega),c.2.2⟩;have:=(List.pairwise_iff_getElem.mp nd) i (i+1) (by omega) il (by omega);exact this z
def Hq (p:Addr) (K:PySem.W.Frag):Sp:=fun vs H Q _=>∃(a s:Addr) (ws:List bG) (ns:List Nt),vs=[.ref a,.ref s]/\cu H a ws/\ws.length<=300/\bT H s ns/\ns.length<=90000/\NT p H /\ ∀(bl:Bool) (H':Hp),(bl=true↔KJ ws ns)->Kp p H H'->NT p H'->Q (.bl bl) H'
theorem Q0 {p f:Addr} {fd:FuncData} (F:BP K "apart_shows" "apart_shows" bK p f fd) (iD:FnAt P w K mg base 2 "places_of" ["web"] (kY K)) (pO:FnAt P w K mg base 4 "is_want" ["web","places","note"] (nG K)) (fL:FnAt P w K mg base 1 "hands_of" ["note"] (jA K)) (BM:Bm mg base) (Bt:xW mg):cT P w K mg base jJ 5 f fd ["web","wants"] (Hq p K):=by
 refine F.ok dW (fun vs H Q E h=> ?_) (fun c A outer s H vs Q E hcd hr h=> ?_)
 ·obtain ⟨a,s,ws,ns,rfl,_⟩:=h
  rfl
 ·obtain ⟨a,sa,ws,ns,rfl,W,wl,N,nl,lt,k⟩:=h
  have hu:=mH hr;have wH:=hr.units;have LM:=Jl (P:=P) (w:=w) (K:=K) (mg:=mg) (base:=base)
  refine ⟨_,(aA (aP (i:=2) dW.nd rfl (Or.inr rfl) (bw iD (hr.mono (by decide)) (by rfl) (aj (pv 0) aq)))
   (aA (dX (gO (fu (aU (dz (K:=K) rfl rfl) (by rfl) Bt.zU tQ (aj (iV rfl (N:=["want","web","places"]) (own:=["want"]) (caps:=[0,2]) (aR.of (by kernel_rfl)) (bQ (K:=K) rfl (pv 1)) (fun _ _ _ _=>(aX (i:=0) (show List.Nodup (["want","web","places"]:List Str) by decide +kernel) rfl (Or.inl rfl))) (fun _ _ _ _=>iU) (fun _ _ _ _=>(bw pO (hr.mono (by decide)) (by rfl) (aj (pv 1) (aj (pv 2) (aj (pv 0) aq)))))) aq)))) (aG (aW iy)) bO)
   (aA (aP (i:=3) dW.nd rfl (Or.inl rfl) (Ie (pm:=(mg "__name__").getD .none) LM (hr.mono (by decide)) (by rfl) Bt.tW pH (aj (pv 1) aq) (Ig BM rfl hcd)))
   (aA (fB PassesOwn.never rfl (Lx (K:=K) rfl (by rfl) Bt.WY (aj (pv 3) (aj (cj (jB (K:=K) rfl) (pv 3) (cO au) cP) aq))) (v9 (K:=K) (n:=2) rfl rfl (jg (aX (i:=4) dW.nd rfl (Or.inl rfl)) (jg (aX (i:=5) dW.nd rfl (Or.inl rfl)) v8)))
   (aG (dX (PW.pt (vX (bB (qL (K:=K) rfl wH) (bw fL (hr.mono (by decide)) (by rfl) (aj (pv 4) aq)) (bw fL (hr.mono (by decide)) (by rfl) (aj (pv 5) aq)) (bA _)) (qK (bB Il (jq hu (pv 2) (cj (g_ (K:=K) rfl) (pv 5) cP (cO au)) (fun _ _=>rfl)) (jq hu (pv 2) (cj (g_ (K:=K) rfl) (pv 4) (cO au) cP) (fun _ _=>rfl)) (bA _))))) (aG (aW iy)) bO)))
   (aG (aW iy)))))), ?_⟩
  refine ⟨_,rfl,a,ws,rfl,W,wl,fun d kvs H1 hd0 hd pl s1=> ?_⟩;obtain ⟨us,hus,Ng⟩:=id (N.same s1);have GP:us.length=ns.length:=by rw [Ng.length,List.length_map]
  refine ⟨_,rfl,sa,rfl,⟨_,aV.of hus⟩,fun D hD=> ?_⟩
  classical
  refine jE (K:=K) (fun i=>(ns[i]?).map fun x=>V.bl (decide (dJ ws x))) hD (aV.of hus) (by omega) (fun i v H2 G F hi s2 kG kF=> ?_) (fun H2 s2 e2=> ?_)
  ·obtain ⟨x,t,ex,rfl,ht⟩:=dI Ng hi
   rw [ex] at kF;refine iW (B:=G H2) ?_;refine ⟨_,rfl,_,rfl,_,rfl,a,d,t,kvs,ws,x,rfl,(W.same s1).same s2,s2 _ _ hd,pl,s2 _ _ ht,fun bl H3 hb s3=>kF _ _ s3 ?_⟩;show some (V.bl (decide (dJ ws x)))=some (V.bl bl);have:bl=decide (dJ ws x):=by rw [Bool.eq_iff_iff,hb,decide_eq_true_iff]
   rw [this]
  have efm:(List.range us.length).filterMap (fun i=>(ns[i]?).map fun x=>V.bl (decide (dJ ws x)))=(ns.map fun x=>decide (dJ ws x)).map V.bl:=by
   rw [GP,List.map_map];clear Ng hus GP N nl k hD e2
   induction ns with
   | nil=>rfl
   | cons x l ih=>
     rw [List.length_cons,List.range_succ_eq_map,List.filterMap_cons,List.filterMap_map];have e:List.filterMap ((fun i=>((x::l)[i]?).map fun x=>V.bl (decide (dJ ws x)))∘Nat.succ) (List.range l.length)=l.map (V.bl∘fun x=>decide (dJ ws x)):=by rw [←ih];rfl
     rw [e];rfl
  rw [efm] at e2;have s12:=s1.trans s2;refine ⟨D,_,rfl,aV.of e2,_,rfl, ?_⟩
  by_cases hall:∀x∈ns,dJ ws x
  rotate_left
  ·have:(ns.map fun x=>decide (dJ ws x)).all id=false:=by
    rw [Bool.eq_false_iff];intro z;rw [List.all_eq_true] at z;exact hall fun x hx=>of_decide_eq_true (z _ (List.mem_map.mpr ⟨x,hx,rfl⟩))
   rw [this];refine iW ?_
   exact k false H2 ⟨fun z=>(by cases z),fun z=>absurd z.1 hall⟩ (.of_same s12) (by
    rcases lt with e|⟨c,e,f⟩
    ·exact .inl (s12 _ _ e)
    ·exact .inr ⟨c,s12 _ _ e,s12 _ _ f⟩)
  have:(ns.map fun x=>decide (dJ ws x)).all id=true:=by
   rw [List.all_eq_true];intro z hz;obtain ⟨x,hx,rfl⟩:=List.mem_map.mp hz;exact decide_eq_true (hall x hx)
  rw [this];refine eX ?_
  have Gq:NT p H2:=by
   rcases lt with e|⟨c,e,f⟩
   ·exact .inl (s12 _ _ e)
   ·exact .inr ⟨c,s12 _ _ e,s12 _ _ f⟩
  obtain ⟨qF,Vr,Wc⟩:=id (N.same s12);have Px:qF.length=ns.length:=by rw [Wc.length,List.length_map]
  refine ⟨_,rfl,Gq,fun q H3 hq0 LF lt3 z8=> ?_⟩
  have Rg:∀{b:Addr} {o:HO},H2 b=some o->(∀ps,o ≠ .dU ps)->b≠p:=fun {b o} e n z=>by
   rcases Gq with q|⟨c,q,_⟩
   ·rw [z,q] at e;cases e;exact n _ rfl
   ·rw [z,q] at e;cases e;exact n _ rfl
  have ab2:=z8 _ _ Vr (Rg Vr (by intro ps z;cases z));have Y0:∀a xs,H2 a=some (HO.tup xs)->H3 a=some (HO.tup xs):=fun a xs e=>z8 _ _ e (Rg e (by intro ps z;cases z));have Wb:=aC.keep Y0 _ (aQ _ fH _) Wc;refine ⟨sa,q,qF,3,fun i=>Jw ((ns[i]?).getD (0,0,0,0)),rfl,rfl,LF,aV.of ab2,by rw [Px,sizeLine_eq];omega,by decide,fun _ _=>rfl,fun i v H4 e s4=> ?_,fun T ms H4 m1 m2 hT s4=> ?_⟩
  ·obtain ⟨x,t,ex,rfl,ht⟩:=dI Wb e
   refine ⟨t,x,rfl,s4 _ _ ht,fun pp hpp=>⟨pp,rfl, ?_,aB hpp⟩⟩;rw [ak];dsimp only;rw [ex];rfl
  have zl:(ms.map fun i=>(qF[i]?).getD V.non).length=ns.length:=by rw [List.length_map,m1.length_eq,List.length_range,Px]
  have s5:=aB (o:=HO.lst (ms.map fun i=>(qF[i]?).getD V.non)) hT;have Qp:=s4.trans s5
  have hin:∀i∈ms,i<ns.length:=fun i hi=>by
   have:=List.mem_range.mp (m1.mem_iff.mp hi);omega
  have m1':ms.Perm (List.range ns.length):=by rw [←Px];exact m1
  have mQ:(ms.map fun i=>(ns[i]?).getD (0,0,0,0)).Pairwise NZ:=by
   rw [List.pairwise_map];exact m2
  have atT:∀{i:Nat} {v:V},(ms.map fun i=>(qF[i]?).getD V.non)[i]? = some v -> ∃x t,(ms.map fun i=>(ns[i]?).getD (0,0,0,0))[i]? = some x/\v = .ref t/\(upd H4 T (HO.lst (ms.map fun i=>(qF[i]?).getD V.non))) t=some (.tup (nV x))/\dJ ws x:=fun {i v} e=>by
   rw [List.getElem?_map] at e;cases em:ms[i]? with
   | none=>rw [em] at e;cases e
   | some m=>
     rw [em] at e;simp only [Option.map_some] at e;have ml:=hin m (List.mem_of_getElem? em);rw [List.getElem?_eq_getElem (show m<qF.length by omega)] at e;have e:qF[m]'(by omega)=v:=by simpa using e
     obtain ⟨x,t,ex,rfl,ht⟩:=dI Wb (i:=m) (v:=v) (by rw [List.getElem?_eq_getElem (by omega),e]);refine ⟨x,t,by rw [List.getElem?_map,em];simp [ex],rfl,Qp _ _ ht,hall x (List.mem_of_getElem? ex)⟩
  have hT5:(upd H4 T (HO.lst (ms.map fun i=>(qF[i]?).getD V.non))) T=some (.lst (ms.map fun i=>(qF[i]?).getD V.non)):=ak
  have Tc:NT p (upd H4 T (HO.lst (ms.map fun i=>(qF[i]?).getD V.non))):=by
   rcases lt3 with e|⟨c,e,f⟩
   ·exact .inl (Qp _ _ e)
   ·exact .inr ⟨c,Qp _ _ e,Qp _ _ f⟩
  have kp5:Kp p H (upd H4 T (HO.lst (ms.map fun i=>(qF[i]?).getD V.non))):=fun b u e n=>Qp _ _ (z8 _ _ (s12 _ _ e) n);have hd5:(upd H4 T (HO.lst (ms.map fun i=>(qF[i]?).getD V.non))) d=some (.dT kvs):=Qp _ _ (z8 _ _ (s2 _ _ hd) (Rg (s2 _ _ hd) (by intro ps z;cases z)));refine ⟨_,rfl,_,rfl,_,rfl,_,_,rfl,aV.of hT5,fun U hU=> ?_⟩;generalize upd H4 T (HO.lst (ms.map fun i=>(qF[i]?).getD V.non))=H5 at hT5 Tc kp5 hd5 atT hU s5 Qp ⊢;rw [show gq (ms.map fun i=>(qF[i]?).getD V.non) (some 1) none=(ms.map fun i=>(qF[i]?).getD V.non).drop 1 from tE _ 1];have s6:=aB (o:=HO.lst ((ms.map fun i=>(qF[i]?).getD V.non).drop 1)) hU;refine ⟨T,U,_,_,rfl,aV.of (s6 _ _ hT5),aV.of ak, ?_⟩;have hU6:(upd H5 U (HO.lst ((ms.map fun i=>(qF[i]?).getD V.non).drop 1))) U=some (.lst ((ms.map fun i=>(qF[i]?).getD V.non).drop 1)):=ak;generalize upd H5 U (HO.lst ((ms.map fun i=>(qF[i]?).getD V.non).drop 1))=H6 at s6 hU6 ⊢;have dl:∀i:Nat,((ms.map fun i=>(qF[i]?).getD V.non).drop 1)[i]? = (ms.map fun i=>(qF[i]?).getD V.non)[i+1]? :=fun i=>by rw [List.getElem?_drop,Nat.add_comm]
  have fin:∀{H':Hp} {b:Bool},Same H6 H'->(b=true↔KJ ws ns)->Q (.bl b) H':=fun {H' b} sm hb=>k b H' hb (fun c u e n=>sm _ _ (s6 _ _ (kp5 c u e n))) (by
   rcases Tc with e|⟨c,e,f⟩
   ·exact .inl (sm _ _ (s6 _ _ e))
   ·exact .inr ⟨c,sm _ _ (s6 _ _ e),sm _ _ (s6 _ _ f)⟩)
  refine M_ (K:=K) (l1:=T) (l2:=U) (xs:=ms.map fun i=>(qF[i]?).getD V.non) (ys:=(ms.map fun i=>(qF[i]?).getD V.non).drop 1) rfl (fun i σ H7=>∃(x4 x5:Option V),σ=[some (.ref a),some (.ref sa),some (.ref d),some (.ref T),x4,x5]/\Same H6 H7 /\
   ∀(j:Nat) x y,j<i->(ms.map fun i=>(ns[i]?).getD (0,0,0,0))[j]? = some x->(ms.map fun i=>(ns[i]?).getD (0,0,0,0))[j+1]? = some y -> ¬(x.1=y.1/\x.2.2.1=y.2.2.1/\nH ws y<mU ws x))
   ⟨none,none,rfl,Same.refl _,fun j x y hj=>absurd hj (Nat.not_lt_zero _)⟩ (fun i σ H7 _ ⟨_,_,_,sm,_⟩=>⟨aV.of (sm _ _ (s6 _ _ hT5)),aV.of (sm _ _ hU6)⟩) ?_ ?_
  ·rintro i v1 v2 σ H7 pq h1 h2 ⟨x4,x5,rfl,sm,inv⟩ hpq
   rw [dl] at h2;obtain ⟨x,t1,tx,rfl,ht1,wx⟩:=atT h1;obtain ⟨y,t2,ty,rfl,uW,wy⟩:=atT h2;have sq:=aB (o:=HO.tup [V.ref t1,V.ref t2]) hpq;have SN:=sm.trans sq;have g1:=SN _ _ (s6 _ _ ht1);have g2:=SN _ _ (s6 _ _ uW);have gd:=SN _ _ (s6 _ _ hd5);refine ⟨pq,_,rfl,bZ.of ak,rfl,_,_,rfl,_,_,rfl,rfl, ?_⟩;generalize upd H7 pq (HO.tup [V.ref t1,V.ref t2])=H8 at sq SN g1 g2 gd ⊢;refine ⟨_,rfl,t1,x,rfl,g1,fun pa hpa=> ?_⟩;have sa1:=aB (o:=HO.tup [V.int x.1,V.int x.2.2.1]) hpa;refine ⟨_,rfl,t2,y,rfl,sa1 _ _ g2,fun pb hpb=> ?_⟩;have sb:=aB (o:=HO.tup [V.int y.1,V.int y.2.2.1]) hpb;have Qm:=sa1.trans sb;refine ⟨_,_,dg (x:=(x.1,x.2.2.1)) (sb _ _ ak),dg (x:=(y.1,y.2.2.1)) ak,rfl,rfl,_,rfl, ?_⟩
   have e:(if false=true then !PyData.eqv (pD (x.1,x.2.2.1)) (pD (y.1,y.2.2.1)) else PyData.eqv (pD (x.1,x.2.2.1)) (pD (y.1,y.2.2.1)))=decide (x.1=y.1/\x.2.2.1=y.2.2.1):=by
    rw [if_neg (by decide),m6,Bool.eq_iff_iff,decide_eq_true_iff,decide_eq_true_iff,Prod.mk.injEq]
   rw [e]
   have next:∀{H':Hp},Same H8 H' -> ¬(x.1=y.1/\x.2.2.1=y.2.2.1/\nH ws y<mU ws x)->Same H6 H' /\ ∀(j:Nat) x y,j<i+1->(ms.map fun i=>(ns[i]?).getD (0,0,0,0))[j]? = some x->(ms.map fun i=>(ns[i]?).getD (0,0,0,0))[j+1]? = some y -> ¬(x.1=y.1/\x.2.2.1=y.2.2.1/\nH ws y<mU ws x):=fun {H'} s8 hc=>⟨SN.trans s8,fun j x' y' hj e1 e2=>by
    rcases Nat.lt_succ_iff_lt_or_eq.mp hj with q|q
    ·exact inv j x' y' q e1 e2
    ·subst q
     rw [tx] at e1;rw [ty] at e2;cases e1;cases e2;exact hc⟩
   by_cases hh:x.1=y.1/\x.2.2.1=y.2.2.1
   rotate_left
   ·rw [decide_eq_false hh]
    refine eX ?_;exact ⟨_,_,rfl,next Qm fun z=>hh ⟨z.1,z.2.1⟩⟩
   rw [decide_eq_true hh];refine iW ?_;generalize upd (upd H8 pa (HO.tup [V.int x.1,V.int x.2.2.1])) pb (HO.tup [V.int y.1,V.int y.2.2.1])=H9 at Qm ⊢;refine ⟨_,rfl,_,rfl,_,rfl,_,_,rfl,bZ.of (Qm _ _ g2),wu (nV y) rfl,fun p3 hp3=> ?_⟩;rw [show gq (nV y) none (some 2)=[.int y.1,.int y.2.1] from DQ ..];have En:=aB (o:=HO.tup [V.int y.1,V.int y.2.1]) hp3;refine ⟨d,_,rfl,pl.1 _ _ (jM wy).2.1▸jk.t (k:=kx (n1 y)) (En _ _ (Qm _ _ gd)) ak, ?_⟩;refine ⟨_,rfl,_,rfl,_,rfl,_,_,rfl,bZ.of (En _ _ (Qm _ _ g1)),oZ (nV x) rfl,fun p4 Rx=> ?_⟩;rw [show gq (nV x) (some 2) none=[.int x.2.2.1,.int x.2.2.2] from u_ ..];have Og:=aB (o:=HO.tup [V.int x.2.2.1,V.int x.2.2.2]) Rx;refine ⟨d,_,rfl,pl.1 _ _ (jM wx).2.2.1▸jk.t (k:=kx (n2 x)) (Og _ _ (En _ _ (Qm _ _ gd))) ak,_,_,rfl,rfl,_,rfl, ?_⟩;have sZ:=Qm.trans (En.trans Og)
   by_cases hc:nH ws y<mU ws x
   ·rw [decide_eq_true (show ((nH ws y:Nat):Int)<((mU ws x:Nat):Int) by omega)]
    refine iW ?_;exact fin (SN.trans sZ) ⟨fun z=>(by cases z),fun z=>absurd z (Ku m1' mQ tx ty ⟨hh.1,hh.2,hc⟩)⟩
   ·rw [decide_eq_false (show ¬((nH ws y:Nat):Int)<((mU ws x:Nat):Int) by omega)]
    refine eX ?_;exact ⟨_,_,rfl,next sZ fun z=>hc z.2.2⟩
  ·rintro σ H7 ⟨x4,x5,rfl,sm,inv⟩
   refine fin (b:=true) sm ⟨fun _=>Gi hall m1' mQ fun i x y ex ey=>inv i x y ?_ ex ey,fun _=>rfl⟩;have:=(List.getElem?_eq_some_iff.mp ey).1;rw [List.length_map] at this;rw [List.length_drop,List.length_map];omega
theorem aY.ne {H:Hp} {r p:Addr} (h:aY H r) (hp:H p=none):p≠r:=by
 obtain ⟨f,t,c,e,_⟩:=h;exact (aD e hp).symm
theorem aY.tups {H H':Hp} {r:Addr} (h:aY H r) (k:Kp r H H'):∀a xs,H a=some (HO.tup xs)->H' a=some (HO.tup xs):=by
 obtain ⟨f,t,c,e,_⟩:=h;exact k.tups e
theorem yD {H:Hp}:∀{vs:List V} {ps:List kj},aC H vs (ps.map pD) -> ∃as:List Addr,vs=as.map V.ref
 | [],[],_=>⟨[],rfl⟩
 | v::vs,x::ps,h=>by
   simp only [List.map_cons,aC] at h;obtain ⟨t,rfl,_⟩:=lC h.1;obtain ⟨as,rfl⟩:=yD h.2;exact ⟨t::as,rfl⟩
 | [],_::_,h=>by simp only [List.map_cons,aC] at h
 | _::_,[],h=>by simp only [List.map_nil,aC] at h
theorem Kv (ns:List kj) (x:kj):((ns.map pD).any fun e=>PyData.eqv e (pD x))=decide (x∈ns):=by
 rw [Bool.eq_iff_iff,List.any_eq_true,decide_eq_true_iff];constructor
 ·rintro ⟨e,he,q⟩
  obtain ⟨y,hy,rfl⟩:=List.mem_map.mp he;rw [m6,decide_eq_true_iff] at q;exact q▸hy
 ·intro h
  exact ⟨pD x,List.mem_map.mpr ⟨x,h,rfl⟩,by rw [m6,decide_eq_true_iff]⟩
theorem gF (x:kj):SeqAt.shaped (pD x)=true:=rfl
theorem gC {ps:List kj}:∀e∈ps.map pD,SeqAt.shaped e=true:=fun e he=>by
 obtain ⟨y,_,rfl⟩:=List.mem_map.mp he;exact gF y
def q_ (K:PySem.W.Frag):Sp:=fun vs H Q _=>∃(c t:Addr) (ws:List bG) (x:Nt),vs=[.ref c,.ref t]/\dM H c (nm ws)/\H t=some (.tup (nV x))/\(¬oG ws x -> ∀H',Same H H'->Q .non H') /\ ∀i j,iJ ws x i j -> ∀(u:Addr) (H':Hp),H' u=some (.tup [.int i,.int j])->Same H H'->Q (.ref u) H'
theorem Mh {f:Addr} {fd:FuncData} (F:lW K "_law_ends" "_law_ends" iR f fd):cT P w K mg base jJ 1 f fd ["calls","note"] (q_ K):=by
 refine F.ok rD (fun vs H Q E h=> ?_) (fun cdv A outer s H vs Q E hr h=> ?_)
 ·obtain ⟨c,t,ws,x,rfl,_⟩:=h
  rfl
 ·obtain ⟨c,t,ws,x,rfl,C,ht,k1,k2⟩:=h
  refine ⟨_,(aA (aP (i:=2) rD.nd rfl (Or.inl rfl) (fY (aj (aK (aJ (K:=K) rfl) (pv 1) au (fun _ _=>rfl)) (aj (aK (aJ (K:=K) rfl) (pv 1) au (fun _ _=>rfl)) aq))))
   (aA (aP (i:=3) rD.nd rfl (Or.inl rfl) (fY (aj (aK (aJ (K:=K) rfl) (pv 1) au (fun _ _=>rfl)) (aj (aK (aJ (K:=K) rfl) (pv 1) au (fun _ _=>rfl)) aq))))
   (aA (dX (PW.pt (j7 (bB j8 (aK (aJ (K:=K) rfl) (pv 1) au (fun _ _=>rfl)) (aK (aJ (K:=K) rfl) (pv 1) au (fun _ _=>rfl)) (bA _)) (j7 (bB (rQ (K:=K) rfl hr.kJ) (pv 2) (pv 0) (by with_unfolding_all rfl)) (jR (bB (rQ (K:=K) rfl hr.kJ) (pv 3) (pv 0) (by with_unfolding_all rfl)))))) (aG (aW wj)) bO)
   (aA (dX (bB Cy (wk (K:=K) rfl PySem.F.plainAttrs_list PySem.F.slot_list_index PySem.F.type_list_index (jX (K:=K) rfl hr.kJ) (pv 0) (aj (pv 2) aq)) (wk (K:=K) rfl PySem.F.plainAttrs_list PySem.F.slot_list_index PySem.F.type_list_index (jX (K:=K) rfl hr.kJ) (pv 0) (aj (pv 3) aq)) (bA _)) (aG (aW wj)) bO)
   (aG (aW (fY (aj (wk (K:=K) rfl PySem.F.plainAttrs_list PySem.F.slot_list_index PySem.F.type_list_index (jX (K:=K) rfl hr.kJ) (pv 0) (aj (pv 2) aq)) (aj (wk (K:=K) rfl PySem.F.plainAttrs_list PySem.F.slot_list_index PySem.F.type_list_index (jX (K:=K) rfl hr.kJ) (pv 0) (aj (pv 3) aq)) aq))))))))), ?_⟩
  obtain ⟨vs,hc,dv⟩:=id C;obtain ⟨as,rfl⟩:=yD dv;refine ⟨_,rfl,_,_,_,_,rfl,rfl,bZ.of ht,rfl,_,rfl,_,_,_,_,rfl,rfl,bZ.of ht,rfl,(by show 2<=sizeLine;decide),fun o1 ho1=> ?_⟩;have s1:=aB (o:=HO.tup [V.int x.1,V.int x.2.1]) ho1;have ht1:=s1 _ _ ht;refine ⟨_,rfl,_,_,_,_,rfl,rfl,bZ.of ht1,rfl,_,rfl,_,_,_,_,rfl,rfl,bZ.of ht1,rfl,(by show 2<=sizeLine;decide),fun o2 ho2=> ?_⟩;have s2:=aB (o:=HO.tup [V.int x.2.2.1,V.int x.2.2.2]) ho2;have s12:=s1.trans s2;have uW:=s2 _ _ ht1;have hc2:=s12 _ _ hc;have Ti:=aC.keep s12.tups _ (aQ _ iG _) dv;have h1:(upd (upd H o1 (HO.tup [V.int x.1,V.int x.2.1])) o2 (HO.tup [V.int x.2.2.1,V.int x.2.2.2])) o1=some (.tup [.int x.1,.int x.2.1]):=s2 _ _ ak;have h2:(upd (upd H o1 (HO.tup [V.int x.1,V.int x.2.1])) o2 (HO.tup [V.int x.2.2.1,V.int x.2.2.2])) o2=some (.tup [.int x.2.2.1,.int x.2.2.2]):=ak;refine ⟨_,rfl,_,_,_,_,rfl,rfl,bZ.of uW,rfl,_,rfl,_,_,_,_,rfl,rfl,bZ.of uW,rfl,rfl,_,rfl, ?_⟩
  by_cases hne:x.1=x.2.2.1
  ·refine iY (fun _=> ?_) (fun z=>absurd (decide_eq_true (by rw [hne])) z)
   exact k1 (fun ⟨_,_,z,_⟩=>z hne) _ s12
  refine iY (fun z=>absurd (of_decide_eq_true z) (fun w=>hne (by injection w))) (fun _=> ?_);refine ⟨_,rfl,_,rfl,c,_,pD (n1 x),(nm ws).map pD,rfl,aV.of hc2,Ti,dg (x:=n1 x) h1,gF _,gC,_,rfl, ?_⟩;rw [if_pos rfl,Kv]
  by_cases m1:n1 x∈nm ws
  rotate_left
  ·rw [decide_eq_false m1]
   refine iW ?_;exact k1 (fun ⟨_,_,_,z,_⟩=>m1 (List.mem_of_getElem? z)) _ s12
  rw [decide_eq_true m1];refine eX ?_;refine ⟨_,rfl,_,rfl,c,_,pD (n2 x),(nm ws).map pD,rfl,aV.of hc2,Ti,dg (x:=n2 x) h2,gF _,gC,_,rfl, ?_⟩;rw [if_pos rfl,Kv]
  by_cases m2:n2 x∈nm ws
  rotate_left
  ·rw [decide_eq_false m2]
   refine iW ?_;exact k1 (fun ⟨_,_,_,_,z,_⟩=>m2 (List.mem_of_getElem? z)) _ s12
  rw [decide_eq_true m2];refine eX ?_;obtain ⟨i,ei⟩:=qM m1;obtain ⟨j,ej⟩:=qM m2;have hit:∀{y:kj} {m:Nat},(nm ws)[m]? = some y->((nm ws).map pD)[m]? = some (pD y):=fun e=>by rw [List.getElem?_map,e];rfl
  have first:∀{y:kj} {m:Nat},(nm ws)[m]? = some y -> ∀m' e',m'<m->((nm ws).map pD)[m']? = some e'->PyData.eqv e' (pD y)=false:=fun {y m} e m' e' lt he=>by
   rw [List.getElem?_map] at he;cases ez:(nm ws)[m']? with
   | none=>rw [ez] at he;cases he
   | some z=>
     rw [ez] at he;cases he;rw [m6];refine decide_eq_false fun w=> ?_;subst w;exact Ja ez e lt
  have same:∀y:kj,PyData.eqv (pD y) (pD y)=true:=fun y=>by rw [m6];simp
  refine ⟨_,rfl,.inl ⟨rfl,_,aV.of hc2⟩,_,rfl,c,as,_,pD (n1 x),_,i,pD (n1 x),rfl,rfl,aV.of hc2,Ti,dg (x:=n1 x) h1,gF _,gC,hit ei,same _,first ei, ?_⟩;refine ⟨_,rfl,.inl ⟨rfl,_,aV.of hc2⟩,_,rfl,c,as,_,pD (n2 x),_,j,pD (n2 x),rfl,rfl,aV.of hc2,Ti,dg (x:=n2 x) h2,gF _,gC,hit ej,same _,first ej,_,_,rfl,rfl,_,rfl, ?_⟩;refine iY (fun w=> ?_) (fun w=> ?_)
  ·have w:(i:Int)≥j:=of_decide_eq_true w
   refine k1 (fun ⟨i',j',_,a,b,lt⟩=> ?_) _ s12;have:=gR a ei;have:=gR b ej;omega
  ·have w:¬(i:Int)≥j:=fun z=>w (decide_eq_true z)
   refine ⟨_,rfl,.inl ⟨rfl,_,aV.of hc2⟩,_,rfl,c,as,_,pD (n1 x),_,i,pD (n1 x),rfl,rfl,aV.of hc2,Ti,dg (x:=n1 x) h1,gF _,gC,hit ei,same _,first ei, ?_⟩;refine ⟨_,rfl,.inl ⟨rfl,_,aV.of hc2⟩,_,rfl,c,as,_,pD (n2 x),_,j,pD (n2 x),rfl,rfl,aV.of hc2,Ti,dg (x:=n2 x) h2,gF _,gC,hit ej,same _,first ej, ?_⟩;exact ⟨(by show 2<=sizeLine;decide),fun u hu=>k2 i j ⟨hne,ei,ej,by omega⟩ u _ ak (s12.trans (aB hu))⟩
def vM (K:PySem.W.Frag):Sp:=fun vs H Q _=>∃(a c t:Addr) (ws:List bG) (x:Nt),vs=[.ref a,.ref c,.ref t]/\cu H a ws/\dM H c (nm ws)/\H t=some (.tup (nV x)) /\ ∀(bl:Bool) (H':Hp),(bl=true↔dJ ws x)->Same H H'->Q (.bl bl) H'
theorem Iu {f:Addr} {fd:FuncData} (F:lW K "_law_is_want" "_law_is_want" cY f fd) (oH:FnAt P w K mg base 1 "_law_ends" ["calls","note"] (q_ K)) (ug:FnAt P w K mg base 1 "_law_meets" ["one","other"] (yp K)):cT P w K mg base jJ 2 f fd ["web","calls","note"] (vM K):=by
 refine F.ok pW (fun vs H Q E h=> ?_) (fun cdv A outer s H vs Q E hr h=> ?_)
 ·obtain ⟨a,c,t,ws,x,rfl,_⟩:=h
  rfl
 ·obtain ⟨a,c,t,ws,x,rfl,W,C,ht,k⟩:=h
  refine ⟨_,(aA (aP (i:=3) pW.nd rfl (Or.inl rfl) (bw oH (hr.mono (by decide)) (by rfl) (aj (pv 1) (aj (pv 2) aq))))
   (aG (aW (oY (eG Cw (pv 3) wj (bA _)) (mV (bw ug (hr.mono (by decide)) (by rfl) (aj (aK (aO (K:=K) rfl) (pv 0) (aK (aJ (K:=K) rfl) (pv 3) au (fun _ _=>rfl)) (fun _ _=>rfl)) (aj (aK (aO (K:=K) rfl) (pv 0) (aK (aJ (K:=K) rfl) (pv 3) au (fun _ _=>rfl)) (fun _ _=>rfl)) aq)))))))), ?_⟩
  refine Ln (fun σ H1=>∃en:V,σ=[some (.ref a),some (.ref c),some (.ref t),some en]/\Same H H1/\((¬oG ws x/\en = .non) \/ ∃i j u,iJ ws x i j/\en = .ref u/\H1 u=some (.tup [.int i,.int j]))) (fun D' hD' _=> ?_) ?_
  ·refine ⟨_,rfl,_,rfl,c,t,ws,x,rfl,C,ht,fun n H1 s1=>hD' _ _ ⟨_,rfl,s1,.inl ⟨n,rfl⟩⟩, ?_⟩
   by_cases st:oG ws x
   ·obtain ⟨i0,j0,st⟩:=st
    exact fun i j st u H1 e s1=>hD' _ _ ⟨_,rfl,s1,.inr ⟨i,j,u,st,rfl,e⟩⟩
   ·exact fun i j st'=>absurd ⟨i,j,st'⟩ st
  rintro σ H1 ⟨en,rfl,s1,h⟩;rcases h with ⟨ns,rfl⟩|⟨i,j,u,⟨hne,ei,ej,lt⟩,rfl,eu⟩
  ·refine ⟨_,rfl,rfl,_,rfl, ?_⟩
   refine iY (fun z=>absurd z (by simp)) (fun _=> ?_);exact k _ _ ⟨fun z=>absurd z (by simp),fun ⟨i,j,_,_,z,_⟩=>absurd ⟨i,j,z⟩ ns⟩ s1
  ·obtain ⟨y,ey,_⟩:=jr ei
   obtain ⟨z,ez,_⟩:=jr ej;refine ⟨_,rfl,rfl,_,rfl, ?_⟩;refine iY (fun _=> ?_) (fun w=>absurd (by simp) w);obtain ⟨vs4,q,M4,eq4,M5⟩:=dZ (W.same s1) ey;obtain ⟨Tr,q5,Fz,eq5,hq5⟩:=dZ (W.same s1) ez;refine ⟨_,rfl,_,rfl,_,_,_,_,rfl,rfl,bZ.of eu,rfl,_,_,_,_,rfl,rfl,aV.of M4,eN eq4,_,rfl,_,rfl,_,_,_,_,rfl,rfl,bZ.of eu,rfl,_,_,_,_,rfl,rfl,aV.of Fz,eN eq5,q,q5,y,z,rfl,M5,hq5, ?_⟩;refine k _ _ ⟨fun w=>⟨i,j,y,z,⟨hne,ei,ej,lt⟩,ey,ez,w⟩, ?_⟩ s1;rintro ⟨i',j',y',z',⟨_,a1,a2,_⟩,b1,b2,b3⟩;have e1:=gR a1 ei;have e2:=gR a2 ej;subst e1 e2;rw [ey] at b1;rw [ez] at b2;cases b1;cases b2;exact b3
def Ho (K:PySem.W.Frag):Sp:=fun vs H Q _=>∃(d s:Addr) (kvs:List (List Key×V)) (ws:List bG) (ns:List Nt),vs=[.ref d,.ref s]/\H d=some (.dT kvs)/\Gk kvs (nm ws)/\bT H s ns/\ns.length<=100000/\(∀x∈ns,oG ws x) /\ ∀H',Same H H'->Q .non H'
theorem QX {f:Addr} {fd:FuncData} (F:lW K "check_strict" "check_strict" bN f fd) (lG:FnAt P w K mg base 3 "is_strict" ["places","note"] (nA K)) (Bt:xW mg):cT P w K mg base jJ 4 f fd ["places","some"] (Ho K):=by
 refine F.ok qe (fun vs H Q E h=> ?_) (fun cdv A outer s H vs Q E hr h=> ?_)
 ·obtain ⟨d,s,kvs,ws,ns,rfl,_⟩:=h
  rfl
 ·obtain ⟨d,sa,kvs,ws,ns,rfl,hd,pl,N,nl,st,k⟩:=h
  refine ⟨_,(aG (dX (gO (fu (aU (dz (K:=K) rfl rfl) (by rfl) Bt.zU tQ (aj (iV rfl (N:=["note","places"]) (own:=["note"]) (caps:=[0]) (aR.of (by kernel_rfl)) (bQ (K:=K) rfl (pv 1)) (fun _ _ _ _=>(aX (i:=0) (show List.Nodup (["note","places"]:List Str) by decide +kernel) rfl (Or.inl rfl))) (fun _ _ _ _=>iU) (fun _ _ _ _=>(bw lG (hr.mono (by decide)) (by rfl) (aj (pv 1) (aj (pv 0) aq))))) aq)))) (aG yC) bO)), ?_⟩;obtain ⟨vs,hv,dv⟩:=id N;have vl:vs.length=ns.length:=by rw [dv.length,List.length_map]
  refine ⟨_,rfl,sa,rfl,⟨_,aV.of hv⟩,fun D hD=> ?_⟩;refine jE (K:=K) (a:=sa) (xs:=vs) (fun i=>(vs[i]?).map fun _=>V.bl true) hD (aV.of hv) (by omega) (fun i v H1 G F' hi s1 kG kF=> ?_) (fun H1 s1 e1=> ?_)
  ·obtain ⟨x,t,ex,rfl,ht⟩:=dI dv hi
   refine ⟨_,rfl,_,rfl,d,t,kvs,ws,x,rfl,s1 _ _ hd,pl,s1 _ _ ht,fun bl H2 hb s2=> ?_⟩;have:bl=true:=hb.mpr (st x (List.mem_of_getElem? ex));subst this;exact kF _ _ s2 (by rw [hi];rfl)
  ·rw [wM] at e1
   have e1':H1 D=some (.lst ((vs.map fun _=>true).map V.bl)):=by rw [e1,List.map_map];rfl
   refine ⟨D,_,rfl,aV.of e1',_,rfl, ?_⟩;rw [show (vs.map fun _=>true).all id=true by rw [List.all_eq_true];intro b hb;obtain ⟨_,_,rfl⟩:=List.mem_map.mp hb;rfl];exact (show if false=true then _ else _ from eX (k _ s1))
def Hh (K:PySem.W.Frag):Sp:=fun vs H Q _=>∃(a t u:Addr) (ws:List bG) (x y:Nt),vs=[.ref a,.ref t,.ref u]/\cu H a ws/\ws.length<=300/\H t=some (.tup (nV x))/\H u=some (.tup (nV y))/\oG ws x/\dJ ws y /\ ∀H',Same H H'->Q (.bl (mB x y)) H'
theorem QS {f:Addr} {fd:FuncData} (F:lW K "meets_want" "meets_want" cA f fd) (iD:FnAt P w K mg base 2 "places_of" ["web"] (kY K)) (uf:FnAt P w K mg base 4 "check_strict" ["places","some"] (Ho K)) (pO:FnAt P w K mg base 4 "is_want" ["web","places","note"] (nG K)) (xJ:FnAt P w K mg base 2 "meets" ["note","want"] (qJ K)):cT P w K mg base jJ 5 f fd ["web","note","want"] (Hh K):=by
 refine F.ok lZ (fun vs H Q E h=> ?_) (fun cdv A outer s H vs Q E hr h=> ?_)
 ·obtain ⟨a,t,u,ws,x,y,rfl,_⟩:=h
  rfl
 ·obtain ⟨a,t,u,ws,x,y,rfl,W,wl,ht,hu',sx,wy,k⟩:=h
  refine ⟨_,(aA (aP (i:=3) lZ.nd rfl (Or.inl rfl) (bw iD (hr.mono (by decide)) (by rfl) (aj (pv 0) aq)))
   (aA (jV (bw uf (hr.mono (by decide)) (by rfl) (aj (pv 3) (aj (fZ (aj (pv 1) aq)) aq))))
   (aA (dX (gO (fu (bw pO (hr.mono (by decide)) (by rfl) (aj (pv 0) (aj (pv 3) (aj (pv 2) aq)))))) (aG yC) bO)
   (aG (aW (bw xJ (hr.mono (by decide)) (by rfl) (aj (pv 1) (aj (pv 2) aq)))))))), ?_⟩
  refine ⟨_,rfl,a,ws,rfl,W,wl,fun d kvs H1 hd0 hd pl s1=> ?_⟩;refine ⟨_,rfl,_,rfl,(by show 1<=sizeLine;decide),fun l hl=> ?_⟩;have s2:=aB (o:=HO.lst [V.ref t]) hl;have s12:=s1.trans s2;have NL:bT (upd H1 l (HO.lst [V.ref t])) l [x]:=⟨_,ak,J7 (jw (s12 _ _ ht))⟩;refine ⟨d,l,kvs,ws,[x],rfl,s2 _ _ hd,pl,NL,by show 1<=100000;decide,fun z hz=>by rw [List.mem_singleton.mp hz];exact sx,fun H3 s3=> ?_⟩;have vU:=s12.trans s3;refine ⟨_,rfl,_,rfl,_,rfl,a,d,u,kvs,ws,y,rfl,W.same vU,(s2.trans s3) _ _ hd,pl,vU _ _ hu',fun bl H4 Yd s4=>⟨_,rfl, ?_⟩⟩;have ZG:=vU.trans s4;have:bl=true:=Yd.mpr wy;subst this;refine eX ?_;exact ⟨_,rfl,_,rfl,t,u,x,y,rfl,ZG _ _ ht,ZG _ _ hu',fun H5 s5=>k H5 (ZG.trans s5)⟩
theorem nP {ws:List bG} {i:Nat} (h:i<ws.length):(nm ws)[i]? = some (hnd ws i,cnt (ws.take i) (hnd ws i)):=by
 have e:ws[i]? = some ws[i]:=by simp [h]
 rw [rW e];rw [dG e]
section
variable {ws:List bG} {g h:Int}
theorem zA:∀(n:Nat) (L:List PN),L.length<=n->L.Pairwise Pg->(∀z∈L,z_ ws g h z) -> ∀z∈L,∃y∈fr ws g n L,z.1<=y.1/\y.2.2<=z.2
 | _,[],_,_,_,z,hz=>by simp at hz
 | 0,_::_,hl,_,_,_,_=>absurd hl (by simp)
 | n+1,x::r,hl,mQ,win,z,hz=>by
   by_cases q:lst ws g x.2<z.1
   ·rcases List.mem_cons.mp hz with rfl|hz
    ·obtain ⟨x1,x2,_,x4,_⟩:=win z (.head _)
     have:=(iz (ws:=ws) x2 (by omega) x4).2.2.1 z.1 x2 x4;omega
    ·have fl:=List.length_filter_le (fun o:PN=>decide (lst ws g x.2<o.1)) r
     simp only [List.length_cons] at hl;obtain ⟨y,hy,a,b⟩:=zA n (r.filter fun o=>decide (lst ws g x.2<o.1)) (by omega) ((List.pairwise_cons.mp mQ).2.filter _) (fun z hz=>win z (.tail _ (List.mem_filter.mp hz).1)) z (List.mem_filter.mpr ⟨hz,decide_eq_true q⟩);exact ⟨y,.tail _ hy,a,b⟩
   ·refine ⟨(lst ws g x.2,x),.head _,by show z.1<=lst ws g x.2;omega, ?_⟩
    show x.2<=z.2;rcases List.mem_cons.mp hz with rfl|hz
    ·exact Nat.le_refl _
    ·rcases (List.pairwise_cons.mp mQ).1 z hz with w|w<;>omega
theorem Bh:∀(n:Nat) (L:List PN) (y:Nat×PN),y∈fr ws g n L->y.2∈L/\y.1=lst ws g y.2.2
 | 0,_,y,hy=>by simp [fr] at hy
 | _+1,[],y,hy=>by simp [fr] at hy
 | n+1,x::r,y,hy=>by
   rcases List.mem_cons.mp hy with rfl|hy
   ·exact ⟨.head _,rfl⟩
   ·obtain ⟨a,b⟩:=Bh n _ y hy
    exact ⟨.tail _ (List.mem_filter.mp a).1,b⟩
def YQ (y z:Nat×PN):Prop:=y.1<z.2.1/\y.2.2<z.2.1
theorem JM:∀(n:Nat) (L:List PN),(∀z∈L,z_ ws g h z)->L.Pairwise Pg->(fr ws g n L).Pairwise YQ
 | 0,_,_,_=>List.Pairwise.nil
 | _+1,[],_,_=>List.Pairwise.nil
 | n+1,x::r,win,mQ=>by
   refine List.pairwise_cons.mpr ⟨fun y hy=> ?_,JM n _ (fun z hz=>win z (.tail _ (List.mem_filter.mp hz).1)) ((List.pairwise_cons.mp mQ).2.filter _)⟩;obtain ⟨a,_⟩:=Bh n _ y hy;obtain ⟨a1,a2⟩:=List.mem_filter.mp a;have a2:=of_decide_eq_true a2;obtain ⟨x1,x2,x3,x4,x5⟩:=win x (.head _);obtain ⟨y1,y2,y3,y4,y5⟩:=win y.2 (.tail _ a1);refine ⟨a2, ?_⟩;show x.2<y.2.1;have ne:=(jY x3).2.2;rcases Nat.lt_trichotomy x.2 y.2.1 with q|q|q
   ·exact q
   ·exact absurd (by rw [x4,q,y4]) ne
   ·have:=(iz (ws:=ws) x2 (by omega) x4).2.2.1 y.2.1 q y4
    omega
theorem cM {y:Nat×PN} (hy:y∈u0 ws g h):z_ ws g h y.2/\y.1=lst ws g y.2.2:=by
 obtain ⟨a,b⟩:=Bh _ _ _ hy;exact ⟨ju.mp a,b⟩
theorem Dv:(u0 ws g h).Pairwise YQ:=JM (h:=h) _ _ (fun z hz=>ju.mp hz) (sH ws g h _)
theorem FP {z:PN} (hz:z_ ws g h z):∃y∈u0 ws g h,z.1<=y.1/\y.2.2<=z.2:=zA (h:=h) _ _ (Nat.le_refl _) (sH ws g h _) (fun z hz=>ju.mp hz) z (ju.mpr hz)
theorem qP {y z:Nat×PN} (hy:y∈u0 ws g h) (hz:z∈u0 ws g h):y=z\/YQ y z\/YQ z y:=by
 have:=Dv (ws:=ws) (g:=g) (h:=h);generalize u0 ws g h=l at *
 induction l with
 | nil=>simp at hy
 | cons x l ih=>
   obtain ⟨p1,p2⟩:=List.pairwise_cons.mp this;rcases List.mem_cons.mp hy with rfl|hy'
   ·rcases List.mem_cons.mp hz with rfl|hz'
    ·exact .inl rfl
    ·exact .inr (.inl (p1 z hz'))
   ·rcases List.mem_cons.mp hz with rfl|hz'
    ·exact .inr (.inr (p1 y hy'))
    ·exact ih hy' hz' p2
theorem cC {y:Nat×PN} (ok:∀x∈ws,0<=x.1/\x.1<8):y∈bF ws↔y∈u0 ws (hnd ws y.2.1) (hnd ws y.2.2):=by
 unfold bF;simp only [List.mem_flatMap,List.mem_range];constructor
 ·rintro ⟨g,_,h,_,hx⟩
  split at hx
  ·simp at hx
  ·obtain ⟨⟨_,_,_,e1,e2⟩,_⟩:=cM hx
   rw [e1,e2];exact hx
 ·intro hy
  obtain ⟨⟨a1,a2,a3,_,_⟩,_⟩:=cM hy;obtain ⟨b1,b2,ne⟩:=jY a3;have ea:ws[y.2.1]? = some ws[y.2.1]:=by simp [b1]
  have eb:ws[y.2.2]? = some ws[y.2.2]:=by simp [b2]
  obtain ⟨q1,q2⟩:=ok _ (List.getElem_mem b1);obtain ⟨q3,q4⟩:=ok _ (List.getElem_mem b2);rw [←dG ea] at q1 q2;rw [←dG eb] at q3 q4;refine ⟨(hnd ws y.2.1).toNat,by omega,(hnd ws y.2.2).toNat,by omega, ?_⟩;rw [if_neg (by omega),Int.toNat_of_nonneg q1,Int.toNat_of_nonneg q3];exact hy
def nF (ws:List bG) (y:Nat×PN):Nt:=(fW ws y).2
theorem n_ {y:Nat×PN} (hy:y∈u0 ws g h):iJ ws (nF ws y) y.1 y.2.2/\hnd ws y.1=g/\hnd ws y.2.2=h/\y.2.1<=y.1:=by
 obtain ⟨⟨a1,a2,a3,a4,a5⟩,e⟩:=cM hy;obtain ⟨l1,l2,l3,_⟩:=iz (ws:=ws) a2 (by omega) a4;rw [←e] at l1 l2 l3;have ne:=(jY a3).2.2;refine ⟨⟨?_, ?_, ?_,l1⟩,l2,a5,l3 _ a2 a4⟩
 ·show hnd ws y.1≠hnd ws y.2.2
  rw [l2,←a4];exact ne
 ·rw [nP (by omega)]
  rfl
 ·rw [nP (by omega)]
  rfl
end
section
variable {ws:List bG} {g h:Int}
theorem G7 {ws:List bG} {x:Nt} {i j i' j':Nat} (h:iJ ws x i j) (h':iJ ws x i' j'):i=i'/\j=j':=⟨gR h.2.1 h'.2.1,gR h.2.2.1 h'.2.2.1⟩
theorem RP:(u0 ws g h).Nodup:=by
 refine List.Pairwise.imp_of_mem (fun {y z} hy hz a e=> ?_) (Dv (ws:=ws) (g:=g) (h:=h));subst e;obtain ⟨⟨_,l,_⟩,_⟩:=cM hy;have:=a.2;omega
theorem Rb {y z:Nat×PN} (hy:y∈u0 ws g h) (hz:z∈u0 ws g h) (e:nF ws y=nF ws z):y=z:=by
 obtain ⟨s1,_,_,l1⟩:=n_ hy;obtain ⟨s2,_,_,l2⟩:=n_ hz;rw [e] at s1;obtain ⟨a,b⟩:=G7 s1 s2;rcases qP hy hz with q|q|q
 ·exact q
 ·have:=q.1;omega
 ·have:=q.1;omega
theorem Dm {α β:Type} {l:List α} {s:List β} (f:α->β) (nd:l.Nodup) (mem:∀x∈l,f x∈s) (inj:∀x∈l,∀y∈l,f x=f y->x=y):l.length<=s.length:=by
 have h:(l.map f).Nodup:=by
  rw [List.nodup_iff_pairwise_ne,List.pairwise_map];exact List.Pairwise.imp_of_mem (fun {x y} hx hy ne e=>ne (inj x hx y hy e)) nd
 have:=List.Nodup.length_le_of_subset h (l₂:=s) fun z hz=>by
  obtain ⟨x,hx,rfl⟩:=List.mem_map.mp hz;exact mem x hx
 rw [List.length_map] at this;exact this
theorem Dy (key:Nat×PN->List Int) (f:List Int->List (Nat×PN)):∀l:List (List Int),l.Nodup->(∀k∈l,∀y∈f k,key y=k)->(∀k∈l,(f k).Nodup)->(l.flatMap f).Nodup
 | [],_,_,_=>List.nodup_nil
 | k::l,nd,hk,hf=>by
   rw [List.flatMap_cons,List.nodup_append];obtain ⟨n1,n2⟩:=List.nodup_cons.mp nd;refine ⟨hf k (.head _),Dy key f l n2 (fun k hk'=>hk k (.tail _ hk')) fun k hk'=>hf k (.tail _ hk'),fun a ha b hb e=> ?_⟩;subst e;obtain ⟨k',h1,h2⟩:=List.mem_flatMap.mp hb;have:=hk k (.head _) a ha;rw [hk k' (.tail _ h1) a h2] at this;subst this;exact n1 h1
theorem nZ:(bF ws).Nodup:=by
 rw [sO];refine Dy (fun y=>[hnd ws y.2.1,hnd ws y.2.2]) (xU ws) lF xq (fun k hk y hy=> ?_) (fun k hk=> ?_)
 ·obtain ⟨g,h,rfl⟩:=tZ hk
  obtain ⟨⟨_,_,_,e1,e2⟩,_⟩:=cM hy;rw [e1,e2]
 ·obtain ⟨g,h,rfl⟩:=tZ hk
  exact RP
theorem nQ (ok:∀x∈ws,0<=x.1/\x.1<8) {y:Nat×PN} (hy:y∈bF ws):(nF ws y).1=hnd ws y.2.1/\(nF ws y).2.2.1=hnd ws y.2.2:=by
 obtain ⟨_,e,_⟩:=n_ ((cC ok).mp hy);exact ⟨e,rfl⟩
theorem Iz (ok:∀x∈ws,0<=x.1/\x.1<8):((bF ws).map fun y=>(fW ws y).2).Nodup:=by
 rw [List.nodup_iff_pairwise_ne,List.pairwise_map];refine List.Pairwise.imp_of_mem (fun {y z} hy hz ne e=>ne ?_) (nZ (ws:=ws));have e:nF ws y=nF ws z:=e;obtain ⟨y1,y2⟩:=nQ ok hy;obtain ⟨z1,z2⟩:=nQ ok hz;have hz':=(cC ok).mp hz;rw [←z1,←z2,←e,y1,y2] at hz';exact Rb ((cC ok).mp hy) hz' e
theorem yG {i j:Nat} (hj:j<ws.length) (ij:i<j) (ne:¬hnd ws i=hnd ws j):iJ ws (eU ws i j) i j:=by
 refine ⟨ne, ?_, ?_,ij⟩
 ·rw [nP (by omega)];rfl
 ·rw [nP hj];rfl
theorem nu {x:PN} (hx:z_ ws g h x):iJ ws (wN ws x) x.1 x.2/\dJ ws (wN ws x):=by
 obtain ⟨a1,a2,a3,a4,a5⟩:=hx;obtain ⟨b1,b2,ne⟩:=jY a3;have st:iJ ws (wN ws x) x.1 x.2:=yG a1 a2 ne;have e1:ws[x.1]? = some ws[x.1]:=by simp [b1]
 have e2:ws[x.2]? = some ws[x.2]:=by simp [b2]
 exact ⟨st,x.1,x.2,_,_,st,e1,e2,by rw [←wA e1 e2];exact a3⟩
theorem rY {n:Nt} {i j:Nat} {x:PN} (sn:iJ ws n i j) (hx:z_ ws g h x) (m:mB n (wN ws x)=true):x.1<=i/\j<=x.2:=by
 obtain ⟨a1,a2,a3,a4,a5⟩:=hx;unfold mB at m;simp only [Bool.and_eq_true,decide_eq_true_eq] at m;obtain ⟨⟨m1,m2⟩,m3,m4⟩:=m;obtain ⟨_,Rc,n2',lt⟩:=sn;have il:i<ws.length:=by have:=(List.getElem?_eq_some_iff.mp Rc).1;rw [dD] at this;exact this
 have jl:j<ws.length:=by have:=(List.getElem?_eq_some_iff.mp n2').1;rw [dD] at this;exact this
 rw [nP il] at Rc;rw [nP jl] at n2';have e1:(hnd ws i,cnt (ws.take i) (hnd ws i))=(n.1,n.2.1):=Option.some.inj Rc;have e2:(hnd ws j,cnt (ws.take j) (hnd ws j))=(n.2.2.1,n.2.2.2):=Option.some.inj n2';injection e1 with e1 e1'
 injection e2 with e2 e2'
 have w1:(wN ws x).1=g:=a4;have w2:(wN ws x).2.2.1=h:=a5;have w3:(wN ws x).2.1=cnt (ws.take x.1) g:=by rw [←a4];rfl
 have w4:(wN ws x).2.2.2=cnt (ws.take x.2) h:=by rw [←a5];rfl
 have hg:hnd ws i=g:=by rw [e1,m1,w1]
 have hh:hnd ws j=h:=by rw [e2,m2,w2]
 rw [hg] at e1';rw [hh] at e2';constructor
 ·refine Nat.le_of_not_lt fun z=> ?_
  have:=tH (ws:=ws) z il hg;omega
 ·refine Nat.le_of_not_lt fun z=> ?_
  have:=tH (ws:=ws) z a1 a5;omega
theorem Ez {Y:List (Nat×PN)} (nd:Y.Nodup) (hY:∀y∈Y,y∈u0 ws g h) {ns:List Nt} (hn:∀x∈ns,oG ws x) (lt:ns.length<Y.length):∃y∈Y,∀x∈ns,mB x (wN ws y.2)=false:=by
 refine Classical.byContradiction fun no=> ?_
 have all:∀y∈Y,∃x∈ns,mB x (wN ws y.2)=true:=fun y hy=>by
  refine Classical.byContradiction fun w=>no ⟨y,hy,fun x hx=> ?_⟩;cases e:mB x (wN ws y.2) with
  | false=>rfl
  | true=>exact absurd ⟨x,hx,e⟩ w
 have key:∀y z:Nat×PN,y∈Y->z∈Y -> ∀x∈ns,mB x (wN ws y.2)=true->mB x (wN ws z.2)=true->y=z:=fun y z hy hz x hx m1 m2=>by
  obtain ⟨i,j,st⟩:=hn x hx;have p1:=rY st (cM (hY y hy)).1 m1;have p2:=rY st (cM (hY z hz)).1 m2;have ij:=st.2.2.2;rcases qP (hY y hy) (hY z hz) with q|q|q
  ·exact q
  ·have:=q.2;omega
  ·have:=q.2;omega
 let f:Nat×PN->Nt:=fun y=>if hy:y∈Y then (all y hy).choose else (0,0,0,0)
 have fy:∀y (hy:y∈Y),f y=(all y hy).choose:=fun y hy=>dif_pos hy
 have:=Dm (l:=Y) (s:=ns) f nd (fun y hy=>by rw [fy y hy];exact (all y hy).choose_spec.1) fun y hy z hz e=>by
  have a1:=(all y hy).choose_spec;have a2:=(all z hz).choose_spec;rw [←fy y hy] at a1;rw [←fy z hz,←e] at a2;exact key y z hy hz _ a1.1 a1.2 a2.2
 omega
theorem GX (ok:∀x∈ws,0<=x.1/\x.1<8) {y:Nat×PN} (hy:y∈bF ws):oG ws (nF ws y):=⟨_,_,(n_ ((cC ok).mp hy)).1⟩
theorem B_ (ok:∀x∈ws,0<=x.1/\x.1<8) {y:Nat×PN} (hy:y∈bF ws):dJ ws (wN ws y.2):=(nu (cM ((cC ok).mp hy)).1).2
theorem Nz (ok:∀x∈ws,0<=x.1/\x.1<8):KJ ws ((bF ws).map fun y=>(fW ws y).1):=by
 refine ⟨fun x hx=> ?_,fun a b x y ne ea eb cl=> ?_⟩
 ·obtain ⟨y,hy,rfl⟩:=List.mem_map.mp hx
  exact B_ ok hy
 ·rw [List.getElem?_map] at ea eb
  cases e1:(bF ws)[a]? with
  | none=>rw [e1] at ea;cases ea
  | some y1=>
    cases e2:(bF ws)[b]? with
    | none=>rw [e2] at eb;cases eb
    | some y2=>
      rw [e1] at ea;rw [e2] at eb;have ea:wN ws y1.2=x:=Option.some.inj ea;have eb:wN ws y2.2=y:=Option.some.inj eb;subst ea eb;have m1:=List.mem_of_getElem? e1;have m2:=List.mem_of_getElem? e2;have q1:=(cC ok).mp m1;have q2:=(cC ok).mp m2;obtain ⟨c1,c2,c3,c4⟩:=cl;obtain ⟨p1,p2⟩:=uL (nu (cM q1).1).1;obtain ⟨p3,p4⟩:=uL (nu (cM q2).1).1;rw [p2,p4] at c3;rw [p3,p2] at c4;have c1:hnd ws y1.2.1=hnd ws y2.2.1:=c1;have c2:hnd ws y1.2.2=hnd ws y2.2.2:=c2;rw [←c1,←c2] at q2;have l1:=(cM q1).1.2.1;rcases qP q1 q2 with q|q|q
      ·subst q
       have:=(List.getElem?_inj (List.getElem?_eq_some_iff.mp e1).1 nZ).mp (e1.trans e2.symm);exact ne this
      ·have:=q.2;omega
      ·have:=q.2;omega
theorem NK (ok:∀x∈ws,0<=x.1/\x.1<8) {i j:Nat} (ij:i<j) (jl:j<ws.length) (m:o7 ws i j=true):∃y∈bF ws,iJ ws (nF ws y) y.1 y.2.2/\i<=y.1/\y.2.2<=j/\hnd ws y.1=hnd ws i/\hnd ws y.2.2=hnd ws j:=by
 obtain ⟨y,hy,a,b⟩:=FP (ws:=ws) (g:=hnd ws i) (h:=hnd ws j) (z:=(i,j)) ⟨jl,ij,m,rfl,rfl⟩;obtain ⟨s1,s2,s3,s4⟩:=n_ hy;refine ⟨y, ?_,s1,a,b,s2,s3⟩;obtain ⟨⟨_,_,_,e1,e2⟩,_⟩:=cM hy;exact (cC ok).mpr (by rw [e1,e2];exact hy)
def j5 (ns:List Nt) (g h:Int):Nat:=(ns.filter fun x=>decide (x.1=g)&&decide (x.2.2.1=h)).length
theorem FZ {a b:List Nt} (p:(a.map fun x=>(x.1,x.2.2.1)).Perm (b.map fun x=>(x.1,x.2.2.1))) (g h:Int):j5 a g h=j5 b g h:=by
 have e:∀l:List Nt,j5 l g h=((l.map fun x=>(x.1,x.2.2.1)).filter fun q=>decide (q.1=g)&&decide (q.2=h)).length:=fun l=>by
  unfold j5;rw [List.filter_map,List.length_map];rfl
 rw [e,e];exact (p.filter _).length_eq
theorem Bf (ok:∀x∈ws,0<=x.1/\x.1<8) {ns:List Nt} (pm:ns.Perm ((bF ws).map fun y=>(fW ws y).2)):(ns.map fun x=>(x.1,x.2.2.1)).Perm (((bF ws).map fun y=>(fW ws y).1).map fun x=>(x.1,x.2.2.1)):=by
 refine (pm.map _).trans ?_;rw [List.map_map,List.map_map];refine List.Perm.of_eq (List.map_congr_left fun y hy=> ?_);obtain ⟨e1,e2⟩:=nQ ok hy;exact Prod.ext e1 e2
end
theorem Dw {α:Type} (D:α->PyData) (M:List α) (p:α->Bool):(List.range M.length).filterMap (fun i=>(M[i]?).bind fun o=>if p o=true then some (D o) else none)=(M.filter p).map D:=by
 induction M with
 | nil=>rfl
 | cons x l ih=>
   rw [List.length_cons,List.range_succ_eq_map,List.filterMap_cons,List.filterMap_map,List.filter_cons];have e:List.filterMap ((fun i=>((x::l)[i]?).bind fun o=>if p o=true then some (D o) else none)∘Nat.succ) (List.range l.length)=(l.filter p).map D:=by rw [←ih];rfl
   rw [e];cases h:p x with
   | true=>simp [h]
   | false=>simp [h]
theorem Bj {α:Type} {D:α->PyData} (hD:∀x,Dn (D x)=true) (M:List α) (p:α->Bool) (i:Nat) (d:PyData) (h:(M[i]?).bind (fun o=>if p o=true then some (D o) else none)=some d):Dn d=true:=by
 cases e:M[i]? with
 | none=>rw [e] at h;cases h
 | some z=>
   rw [e] at h;simp only [Option.bind_some] at h;split at h
   ·cases h;exact hD z
   ·cases h
theorem V4 {α:Type} (D:α->PyData) (M:List α):(List.range M.length).filterMap (fun i=>(M[i]?).map D)=M.map D:=by
 have:=Dw D M (fun _=>true);rw [List.filter_eq_self.mpr (fun _ _=>rfl)] at this;rw [←this];congr 1;funext i;cases M[i]? <;> rfl
def zE (ws:List bG) (x:Nt):kj:=((nH ws x:Int),(mU ws x:Int))
def Hi (K:PySem.W.Frag):Sp:=fun vs H Q _=>∃(a c s:Addr) (ws:List bG) (ns:List Nt),vs=[.ref a,.ref c,.ref s]/\cu H a ws/\ws.length<=300/\dM H c (nm ws)/\bT H s ns/\ns.length<=20000/\(∀x∈ns,oG ws x) /\
 (∀i j:Nat,i<j->j<ws.length->o7 ws i j=true -> ∃x∈ns,∃i1 j1,iJ ws x i1 j1/\i<=i1/\j1<=j/\hnd ws i1=hnd ws i/\hnd ws j1=hnd ws j) /\ ∀H',Same H H'->Q (.bl true) H'
theorem QT {f:Addr} {fd:FuncData} (F:lW K "_law_all_met" "_law_all_met" cZ f fd) (oH:FnAt P w K mg base 1 "_law_ends" ["calls","note"] (q_ K)) (ug:FnAt P w K mg base 1 "_law_meets" ["one","other"] (yp K)) (Bt:xW mg):cT P w K mg base jJ 2 f fd ["web","calls","told"] (Hi K):=by
 refine F.ok iw (fun vs H Q E h=> ?_) (fun cdv A outer s H vs Q E hr h=> ?_)
 ·obtain ⟨a,c,s,ws,ns,rfl,_⟩:=h
  rfl
 ·obtain ⟨a,c,sa,ws,ns,rfl,W,wl,C,N,nl,st,cov,k⟩:=h
  have wH:=hr.units
  refine ⟨_,(aA (jU (i:=3) rfl iw.nd rfl (Or.inl rfl) (N:=["note","calls"]) (own:=["note"]) (caps:=[1]) (aR.of (by kernel_rfl)) (bQ (K:=K) rfl (pv 2)) (fun _ _ _ _=>(aX (i:=0) (show List.Nodup (["note","calls"]:List Str) by decide +kernel) rfl (Or.inl rfl))) (fun _ _ _ _=>iU) (fun _ _ _ _=>(bw oH (hr.mono (by decide)) (by rfl) (aj (pv 1) (aj (pv 0) aq)))))
   (aA (fB PassesOwn.never rfl (eF (by rfl) Bt.iZ (aj (aU (bf (K:=K) rfl) (by rfl) Bt.iI eY (aj (pv 0) aq)) aq)) (aX (i:=4) iw.nd rfl (Or.inr rfl))
   (aA (jU (i:=5) rfl iw.nd rfl (Or.inl rfl) (N:=["one","j","web"]) (own:=["one"]) (caps:=[4,0]) (aR.of (by kernel_rfl)) (bQ (K:=K) rfl (pv 3)) (fun _ _ _ _=>(aX (i:=0) (show List.Nodup (["one","j","web"]:List Str) by decide +kernel) rfl (Or.inl rfl))) (fun _ _ _ _=>(jT (PW.pt (vX (bB Om (aK (aJ (K:=K) rfl) (pv 0) au (fun _ _=>rfl)) (pv 1) (bA _)) (qK (bB j8 (aK (aJ (K:=K) rfl) (aK (aO (K:=K) rfl) (pv 2) (aK (aJ (K:=K) rfl) (pv 0) au (fun _ _=>rfl)) (fun _ _=>rfl)) au (fun _ _=>rfl)) (aK (aJ (K:=K) rfl) (aK (aO (K:=K) rfl) (pv 2) (pv 1) (fun _ _=>rfl)) au (fun _ _=>rfl)) (bA _))))))) (fun _ _ _ _=>(pv 0)))
   (aG (fB PassesOwn.never rfl (eF (by rfl) Bt.iZ (aj (pv 4) aq)) (aX (i:=6) iw.nd rfl (Or.inr rfl))
   (aG (dX (fu (bw ug (hr.mono (by decide)) (by rfl) (aj (aK (aO (K:=K) rfl) (pv 0) (pv 6) (fun _ _=>rfl)) (aj (aK (aO (K:=K) rfl) (pv 0) (pv 4) (fun _ _=>rfl)) aq)))) (aG (dX (bB (qL (K:=K) rfl wH) (iV rfl (N:=["one","i","web"]) (own:=["one"]) (caps:=[6,0]) (aR.of (by kernel_rfl)) (bQ (K:=K) rfl (pv 5)) (fun _ _ _ _=>(aX (i:=0) (show List.Nodup (["one","i","web"]:List Str) by decide +kernel) rfl (Or.inl rfl))) (fun _ _ _ _=>(jT (PW.pt (vX (bB Cy (aK (aJ (K:=K) rfl) (pv 0) au (fun _ _=>rfl)) (pv 1) (bA _)) (qK (bB j8 (aK (aJ (K:=K) rfl) (aK (aO (K:=K) rfl) (pv 2) (aK (aJ (K:=K) rfl) (pv 0) au (fun _ _=>rfl)) (fun _ _=>rfl)) au (fun _ _=>rfl)) (aK (aJ (K:=K) rfl) (aK (aO (K:=K) rfl) (pv 2) (pv 1) (fun _ _=>rfl)) au (fun _ _=>rfl)) (bA _))))))) (fun _ _ _ _=>(pv 0))) (fZ aq) (bA _)) (aG (aW iy)) bO)) bO))))))
   (aG (aW iy)))), ?_⟩
  obtain ⟨nv,hs,dn⟩:=id N;have S_:nv.length=ns.length:=by rw [dn.length,List.length_map]
  refine ⟨_,rfl,sa,rfl,⟨_,aV.of hs⟩,fun D hD=> ?_⟩;refine gZ (K:=K) (fun i=>(ns[i]?).map fun x=>pD (zE ws x)) (fun i d e=> ?_) hD (aV.of hs) (by omega) (fun i v H2 G F hi s2 kG kF=> ?_) (fun H2 ev s2 e2 d2=> ?_)
  ·cases ex:ns[i]? with
   | none=>rw [ex] at e;cases e
   | some x=>rw [ex] at e;cases e;rfl
  ·obtain ⟨x,t,ex,rfl,ht⟩:=dI dn hi
   refine ⟨_,rfl,_,rfl,c,t,ws,x,rfl,C.same s2,s2 _ _ ht,fun no=>absurd (st x (List.mem_of_getElem? ex)) no,fun i1 j1 sx u H3 hu s3=> ?_⟩;obtain ⟨e1,e2⟩:=uL sx;exact kF _ (pD (zE ws x)) H3 s3 (by rw [ex];rfl) (dg (x:=zE ws x) (by unfold zE;rw [e1,e2];exact hu))
  rw [S_,V4 (fun x=>pD (zE ws x)) ns] at d2;have d2:aC H2 ev ((ns.map (zE ws)).map pD):=by rw [List.map_map];exact d2
  have evl:ev.length=ns.length:=by rw [d2.length,List.length_map,List.length_map]
  have E2:dM H2 D (ns.map (zE ws)):=⟨ev,e2,d2⟩;obtain ⟨wv,hw,dw⟩:=id (W.same s2);have wvl:wv.length=ws.length:=by rw [dw.length,List.length_map]
  refine ⟨_,rfl,a,_,rfl,.inl (aV.of hw),_,rfl,by omega,by omega, ?_⟩;rw [show ((wv.length:Nat):Int).toNat=ws.length by omega];refine gW (lo:=0) (n:=ws.length) (fun j σ H3=>∃(x1 x2 x3:Option V),σ=[some (.ref a),some (.ref c),some (.ref sa),some (.ref D),x1,x2,x3]/\Same H2 H3) ⟨none,none,none,rfl,Same.refl _⟩ ?_ ?_
  ·rintro j σ H3 hj ⟨x1,x2,x3,rfl,s3⟩
   obtain ⟨z,ez⟩:∃z,ws[j]? = some z:=⟨ws[j],by simp [hj]⟩;have ej:(0+(j:Int))=(j:Int):=by omega
   have W3:=(W.same s2).same s3;obtain ⟨ev3,hD3,de3⟩:=id (E2.same s3);have acv:ev3.length=ns.length:=by rw [de3.length,List.length_map,List.length_map]
   have pls:∀q:kj,q∈ns.map (zE ws) -> ∃x∈ns,∃i1 j1:Nat,iJ ws x i1 j1/\q=((i1:Int),(j1:Int))/\i1<ws.length/\j1<ws.length:=fun q hq=>by
    obtain ⟨x,hx,rfl⟩:=List.mem_map.mp hq;obtain ⟨i1,j1,sx⟩:=st x hx;obtain ⟨e1,e2⟩:=uL sx;have l1:=(List.getElem?_eq_some_iff.mp sx.2.1).1;have l2:=(List.getElem?_eq_some_iff.mp sx.2.2.1).1;rw [dD] at l1 l2;exact ⟨x,hx,i1,j1,sx,by unfold zE;rw [e1,e2],l1,l2⟩
   refine ⟨_,rfl,D,rfl,⟨_,aV.of hD3⟩,fun T hT=> ?_⟩;refine gZ (K:=K) (fun i=>((ns.map (zE ws))[i]?).bind fun q=>if (decide (q.2<=(j:Int))&&decide (hnd ws q.2.toNat=hnd ws j))=true then some (pD q) else none) (Bj iG _ _) hT (aV.of hD3) (by omega) (fun i v H4 G F hi s4 kG kF=> ?_) (fun H4 tv s4 e4 d4=> ?_)
   ·obtain ⟨q,t,eq,rfl,ht⟩:=v7 de3 hi
    obtain ⟨x,hx,i1,j1,sx,rfl,l1,l2⟩:=pls q (List.mem_of_getElem? eq);have Vy:=s4 _ _ ht;rw [eq] at kG kF;simp only [Option.bind_some] at kG kF;refine ⟨_,rfl,_,_,_,_,rfl,rfl,bZ.of Vy,rfl,_,rfl,_,_,rfl,rfl,_,rfl, ?_⟩;refine iY (fun w'=> ?_) (fun w'=> ?_)
    ·have w':(j1:Int)<=0+(j:Int):=of_decide_eq_true w'
     obtain ⟨y1,V6⟩:∃y,ws[j1]? = some y:=⟨ws[j1],by simp [l2]⟩;obtain ⟨wv4,q1,M4,eq1,hq1⟩:=dZ (W3.same s4) V6;obtain ⟨wv5,q2,Fz,eq2,hq2⟩:=dZ (W3.same s4) ez;refine ⟨_,rfl,_,rfl,_,_,_,_,rfl,rfl,bZ.of Vy,rfl,_,_,_,_,rfl,rfl,aV.of M4,eN eq1,_,_,_,_,rfl,rfl,bZ.of hq1,rfl,_,rfl,_,rfl,_,_,_,_,rfl,rfl,aV.of Fz,xg eq2,_,_,_,_,rfl,rfl,bZ.of hq2,rfl,rfl,_,rfl, ?_⟩;have h1:hnd ws j1=y1.1:=dG V6;have h2:hnd ws j=z.1:=dG ez
     by_cases w2:y1.1=z.1
     ·refine iY (fun _=> ?_) (fun w3=>absurd (decide_eq_true (by rw [w2])) w3)
      refine ⟨_,rfl,kF _ _ H4 (Same.refl _) (if_pos ?_) (dg (x:=((i1:Int),(j1:Int))) Vy)⟩;simp only [Int.toNat_natCast,Bool.and_eq_true,decide_eq_true_eq];exact ⟨by omega,by rw [h1,h2,w2]⟩
     ·refine iY (fun w3=>absurd (of_decide_eq_true w3) (fun e=>w2 (by injection e))) (fun _=> ?_)
      refine kG H4 (Same.refl _) (if_neg fun e=>w2 ?_);simp only [Int.toNat_natCast,Bool.and_eq_true,decide_eq_true_eq] at e;rw [←h1,←h2];exact e.2
    ·have w':¬(j1:Int)<=0+(j:Int):=fun e=>w' (decide_eq_true e)
     refine eX (kG H4 (Same.refl _) (if_neg fun e=>w' ?_));simp only [Bool.and_eq_true,decide_eq_true_eq] at e;omega
   rw [acv,←List.length_map (f:=zE ws) (as:=ns),Dw pD] at d4;generalize hL:(ns.map (zE ws)).filter (fun q=>decide (q.2<=(j:Int))&&decide (hnd ws q.2.toNat=hnd ws j))=L at d4;have T4:dM H4 T L:=⟨tv,e4,d4⟩
   have Ll:L.length<=20000:=by
    have:=List.length_filter_le (fun q:kj=>decide (q.2<=(j:Int))&&decide (hnd ws q.2.toNat=hnd ws j)) (ns.map (zE ws));rw [hL,List.length_map] at this;omega
   refine ⟨_,rfl,0+(j:Int),rfl,by omega,by omega, ?_⟩;rw [show (0+(j:Int)).toNat=j by omega];refine gW (lo:=0) (n:=j) (fun i σ H5=>∃(x3:Option V),σ=[some (.ref a),some (.ref c),some (.ref sa),some (.ref D),some (.int (0+(j:Int))),some (.ref T),x3]/\Same H4 H5) ⟨_,rfl,Same.refl _⟩ ?_ ?_
   ·rintro i σ H5 hi ⟨x3,rfl,s5⟩
    obtain ⟨y,ey⟩:∃y,ws[i]? = some y:=⟨ws[i]'(by omega),by simp [show i<ws.length by omega]⟩;have W5:=(W3.same s4).same s5;obtain ⟨wv4,q1,M4,eq1,hq1⟩:=dZ W5 ey;obtain ⟨wv5,q2,Fz,eq2,hq2⟩:=dZ W5 ez;refine ⟨_,rfl,_,rfl,_,_,_,_,rfl,rfl,aV.of M4,xg eq1,_,rfl,_,rfl,_,_,_,_,rfl,rfl,aV.of Fz,xg eq2,q1,q2,y,z,rfl,hq1,hq2,_,rfl, ?_⟩;cases em:mt y z with
    | false=>exact eX ⟨_,rfl,s5⟩
    | true=>
      refine iW ?_;obtain ⟨x,hx,i1,j1,sx,li,lj,h1,h2⟩:=cov i j hi hj (by rw [wA ey ez];exact em);obtain ⟨e1,e2⟩:=uL sx;obtain ⟨tv5,hT5,Wi⟩:=id (T4.same s5);have YZ:tv5.length=L.length:=by rw [Wi.length,List.length_map]
      refine ⟨_,rfl,T,rfl,⟨_,aV.of hT5⟩,fun D6 hD6=> ?_⟩;refine gZ (K:=K) (fun m=>(L[m]?).bind fun q=>if (decide (q.1≥(i:Int))&&decide (hnd ws q.1.toNat=hnd ws i))=true then some (pD q) else none) (Bj iG _ _) hD6 (aV.of hT5) (by omega) (fun m v H6 G F hm s6 kG kF=> ?_) (fun H6 fv s6 e6 d6=> ?_)
      ·obtain ⟨q,t,eq,rfl,ht⟩:=v7 Wi hm
       have qm:q∈ns.map (zE ws):=by
        have:=List.mem_of_getElem? eq;rw [←hL] at this;exact (List.mem_filter.mp this).1
       obtain ⟨x',hx',i2,j2,sx',rfl,l1,l2⟩:=pls q qm;have ht6:=s6 _ _ ht;rw [eq] at kG kF;simp only [Option.bind_some] at kG kF;refine ⟨_,rfl,_,_,_,_,rfl,rfl,bZ.of ht6,rfl,_,rfl,_,_,rfl,rfl,_,rfl, ?_⟩;refine iY (fun w'=> ?_) (fun w'=> ?_)
       ·have w':(i2:Int)≥0+(i:Int):=of_decide_eq_true w'
        obtain ⟨y1,V6⟩:∃y,ws[i2]? = some y:=⟨ws[i2],by simp [l1]⟩;obtain ⟨wv6,q3,Td,eq3,Yb⟩:=dZ (W5.same s6) V6;obtain ⟨wv7,q4,hw7,eq4,M5⟩:=dZ (W5.same s6) ey;refine ⟨_,rfl,_,rfl,_,_,_,_,rfl,rfl,bZ.of ht6,rfl,_,_,_,_,rfl,rfl,aV.of Td,eN eq3,_,_,_,_,rfl,rfl,bZ.of Yb,rfl,_,rfl,_,rfl,_,_,_,_,rfl,rfl,aV.of hw7,xg eq4,_,_,_,_,rfl,rfl,bZ.of M5,rfl,rfl,_,rfl, ?_⟩;have h1:hnd ws i2=y1.1:=dG V6;have h2:hnd ws i=y.1:=dG ey
        by_cases w2:y1.1=y.1
        ·refine iY (fun _=> ?_) (fun w3=>absurd (decide_eq_true (by rw [w2])) w3)
         refine ⟨_,rfl,kF _ _ H6 (Same.refl _) (if_pos ?_) (dg (x:=((i2:Int),(j2:Int))) ht6)⟩;simp only [Int.toNat_natCast,Bool.and_eq_true,decide_eq_true_eq];exact ⟨by omega,by rw [h1,h2,w2]⟩
        ·refine iY (fun w3=>absurd (of_decide_eq_true w3) (fun e=>w2 (by injection e))) (fun _=> ?_)
         refine kG H6 (Same.refl _) (if_neg fun e=>w2 ?_);simp only [Int.toNat_natCast,Bool.and_eq_true,decide_eq_true_eq] at e;rw [←h1,←h2];exact e.2
       ·have w':¬(i2:Int)≥0+(i:Int):=fun e=>w' (decide_eq_true e)
        refine eX (kG H6 (Same.refl _) (if_neg fun e=>w' ?_));simp only [Bool.and_eq_true,decide_eq_true_eq] at e;omega
      rw [YZ,Dw pD] at d6
      have ne:L.filter (fun q=>decide (q.1≥(i:Int))&&decide (hnd ws q.1.toNat=hnd ws i))≠[]:=fun z=>by
       have:zE ws x∈L.filter (fun q=>decide (q.1≥(i:Int))&&decide (hnd ws q.1.toNat=hnd ws i)):=by
        refine List.mem_filter.mpr ⟨?_, ?_⟩
        ·rw [←hL]
         refine List.mem_filter.mpr ⟨List.mem_map.mpr ⟨x,hx,rfl⟩, ?_⟩;unfold zE;rw [e1,e2];simp only [Int.toNat_natCast,Bool.and_eq_true,decide_eq_true_eq];exact ⟨by omega,h2⟩
        ·unfold zE
         rw [e1,e2];simp only [Int.toNat_natCast,Bool.and_eq_true,decide_eq_true_eq];exact ⟨by omega,h1⟩
       rw [z] at this;cases this
      generalize L.filter (fun q=>decide (q.1≥(i:Int))&&decide (hnd ws q.1.toNat=hnd ws i))=M at d6 ne;refine ⟨(by show 0<=sizeLine;decide),fun q7 hq7=> ?_⟩;have s7:=aB (o:=HO.lst []) hq7;refine ⟨_,_,jD (ds:=M.map pD) (s7 _ _ e6) (aC.keep s7.tups _ (aQ _ iG _) d6),jD (ds:=([]:List kj).map pD) ak (by simp only [List.map_nil,aC]),rB _,rB _,_,rfl, ?_⟩;rw [if_neg Bool.false_ne_true,sU pD m6,decide_eq_false ne];refine eX ?_;exact ⟨_,rfl,(s5.trans s6).trans s7⟩
   ·rintro σ H5 ⟨x3,rfl,s5⟩
    exact ⟨_,_,_,rfl,(s3.trans s4).trans s5⟩
  ·rintro σ H3 ⟨x1,x2,x3,rfl,s3⟩
   exact k H3 (s2.trans s3)
structure zZ (kvs:List (List Key×V)) (ns:List Nt):Prop where
 nd:(kvs.map (·.1)).Nodup
 mem:∀z,z∈kvs.map (·.1) ↔ ∃g h:Int,z=[Sum.inl g,Sum.inl h]/\0<j5 ns g h
 val:∀g h:Int,0<j5 ns g h->cG kvs [Sum.inl g,Sum.inl h]=some (.int (j5 ns g h:Nat))
theorem jG (ns:List Nt) (x:Nt) (g h:Int):j5 (ns++[x]) g h=j5 ns g h+(if x.1=g/\x.2.2.1=h then 1 else 0):=by
 unfold j5;rw [List.filter_append,List.length_append];congr 1
 by_cases e:x.1=g/\x.2.2.1=h
 ·rw [if_pos e];simp [e.1,e.2]
 ·rw [if_neg e]
  rw [List.filter_cons,if_neg (by simpa using e)];rfl
theorem Ce:∀{kvs:List (List Key×V)} {kv:List Key×V},(kvs.map (·.1)).Nodup->kv∈kvs->cG kvs kv.1=some kv.2
 | p::r,kv,nd,h=>by
   rw [List.map_cons,List.nodup_cons] at nd;rcases List.mem_cons.mp h with rfl|h
   ·exact dh rfl
   ·rw [dj fun z=>nd.1 (by rw [z];exact List.mem_map.mpr ⟨kv,h,rfl⟩)]
    exact Ce nd.2 h
theorem HF (l:List (List Key×V)) (k:List Key) (v:V) (z:List Key):z∈(putK l k v).map (·.1)↔z=k\/z∈l.map (·.1):=by
 unfold putK;split
 ·rename_i h
  obtain ⟨q,hq,e⟩:=List.any_eq_true.mp h;have e:=of_decide_eq_true e
  have em:(l.map fun kv=>if kv.1=k then (kv.1,v) else kv).map (·.1)=l.map (·.1):=by
   rw [List.map_map];refine List.map_congr_left fun y _=> ?_;show (if y.1=k then (y.1,v) else y).1=y.1;split<;>rfl
  rw [em];constructor
  ·exact .inr
  ·rintro (rfl|h)
   ·exact List.mem_map.mpr ⟨q,hq,e⟩
   ·exact h
 ·rw [List.map_append,List.mem_append]
  simp only [List.map_cons,List.map_nil,List.mem_singleton];exact ⟨fun h=>h.symm,fun h=>h.symm⟩
theorem Lw {l:List (List Key×V)} {k:List Key} {v:V} (nd:(l.map (·.1)).Nodup):((putK l k v).map (·.1)).Nodup:=by
 unfold putK;split
 ·have em:(l.map fun kv=>if kv.1=k then (kv.1,v) else kv).map (·.1)=l.map (·.1):=by
   rw [List.map_map];refine List.map_congr_left fun y _=> ?_;show (if y.1=k then (y.1,v) else y).1=y.1;split<;>rfl
  rw [em];exact nd
 ·rename_i h
  rw [List.map_append];refine List.nodup_append.mpr ⟨nd,by simp,fun a ha b hb e=>h ?_⟩;have:b=k:=by simpa using hb
  subst this;subst e;obtain ⟨q,hq,e⟩:=List.mem_map.mp ha;exact List.any_eq_true.mpr ⟨q,hq,decide_eq_true e⟩
theorem key2 {a b c d:Int}:([Sum.inl a,Sum.inl b]:List Key)=[Sum.inl c,Sum.inl d]↔a=c/\b=d:=by
 constructor
 ·intro z
  injection z with z1 z2
  injection z2 with z2 _
  exact ⟨Sum.inl.inj z1,Sum.inl.inj z2⟩
 ·rintro ⟨rfl,rfl⟩;rfl
theorem zZ.put {kvs:List (List Key×V)} {ns:List Nt} (C:zZ kvs ns) (x:Nt):zZ (putK kvs [Sum.inl x.1,Sum.inl x.2.2.1] (.int ((j5 ns x.1 x.2.2.1:Nat)+1))) (ns++[x]) where
 nd:=Lw C.nd
 mem:=fun z=>by
  rw [HF,C.mem];constructor
  ·rintro (rfl|⟨g,h,rfl,q⟩)
   ·exact ⟨_,_,rfl,by rw [jG,if_pos ⟨rfl,rfl⟩];omega⟩
   ·exact ⟨g,h,rfl,by rw [jG];omega⟩
  ·rintro ⟨g,h,rfl,q⟩
   rw [jG] at q
   by_cases e:x.1=g/\x.2.2.1=h
   ·exact .inl (key2.mpr ⟨e.1.symm,e.2.symm⟩)
   ·rw [if_neg e] at q
    exact .inr ⟨g,h,rfl,by omega⟩
 val:=fun g h q=>by
  rw [jd,jG]
  by_cases e:x.1=g/\x.2.2.1=h
  ·rw [if_pos (key2.mpr ⟨e.1.symm,e.2.symm⟩),if_pos e,e.1,e.2]
   rfl
  ·rw [if_neg fun z=>e ⟨(key2.mp z).1.symm,(key2.mp z).2.symm⟩,if_neg e]
   rw [jG,if_neg e] at q;exact C.val g h (by omega)
theorem Nm {kvs:List (List Key×V)} {ns:List Nt} (C:zZ kvs ns) (g h:Int):(cG kvs [Sum.inl g,Sum.inl h]).getD (.int 0) = .int (j5 ns g h:Nat):=by
 by_cases q:0<j5 ns g h
 ·rw [C.val g h q];rfl
 ·cases e:cG kvs [Sum.inl g,Sum.inl h] with
  | none=>rw [show j5 ns g h=0 by omega];rfl
  | some v=>
    obtain ⟨g',h',e',q'⟩:=(C.mem _).mp (K6 e);obtain ⟨rfl,rfl⟩:=key2.mp e';exact absurd q' q
theorem Nk {ka kb:List (List Key×V)} {ns ms:List Nt} (A:zZ ka ns) (B:zZ kb ms) (e:∀g h,j5 ns g h=j5 ms g h):ka.length=kb.length /\ ∀kv∈ka,∃n:Int,kv.2 = .int n/\cG kb kv.1=some (.int n):=by
 constructor
 ·have:=(List.perm_ext_iff_of_nodup A.nd B.nd).mpr fun z=>by
   rw [A.mem,B.mem];constructor
   ·rintro ⟨g,h,q,r⟩;exact ⟨g,h,q,by rw [←e];exact r⟩
   ·rintro ⟨g,h,q,r⟩;exact ⟨g,h,q,by rw [e];exact r⟩
  have:=this.length_eq;rw [List.length_map,List.length_map] at this;exact this
 ·intro kv hk
  obtain ⟨g,h,q,r⟩:=(A.mem kv.1).mp (List.mem_map.mpr ⟨kv,hk,rfl⟩);have v1:=Ce A.nd hk;rw [q,A.val g h r] at v1;refine ⟨(j5 ns g h:Nat),(Option.some.inj v1).symm, ?_⟩;rw [q,e g h];exact B.val g h (by rw [←e];exact r)
def Hl (K:PySem.W.Frag):Sp:=fun vs H Q _=>∃(s:Addr) (ns:List Nt),vs=[.ref s]/\bT H s ns/\ns.length<=20000 /\ ∀(d:Addr) (kvs:List (List Key×V)) (H':Hp),H d=none->H' d=some (.dT kvs)->zZ kvs ns->Same H H'->Q (.ref d) H'
theorem QZ {f:Addr} {fd:FuncData} (F:lW K "_law_counts" "_law_counts" eE f fd):cT P w K mg base jJ 1 f fd ["some"] (Hl K):=by
 refine F.ok mR (fun vs H Q E h=> ?_) (fun cdv A outer s H vs Q E hr h=> ?_)
 ·obtain ⟨s,ns,rfl,_⟩:=h
  rfl
 ·obtain ⟨sa,ns,rfl,N,nl,k⟩:=h
  have hu:=mH hr
  refine ⟨_,(aA (aP (i:=1) mR.nd rfl (Or.inl rfl) rO)
   (aA (fB PassesOwn.never rfl (bQ (K:=K) rfl (pv 0)) (aX (i:=2) mR.nd rfl (Or.inl rfl))
   (aG (vY hu (pv 1) (fY (aj (aK (aJ (K:=K) rfl) (pv 2) au (fun _ _=>rfl)) (aj (aK (aJ (K:=K) rfl) (pv 2) au (fun _ _=>rfl)) aq))) (bI gb (yE hu (pv 1) (fY (aj (aK (aJ (K:=K) rfl) (pv 2) au (fun _ _=>rfl)) (aj (aK (aJ (K:=K) rfl) (pv 2) au (fun _ _=>rfl)) aq))) au ⟨rfl,rfl,rfl,rfl⟩) au) rfl)))
   (aG (aW (pv 1))))), ?_⟩
  obtain ⟨nv,hs,dn⟩:=id N;have S_:nv.length=ns.length:=by rw [dn.length,List.length_map]
  intro d hd;have s1:=aB (o:=HO.dT []) hd;refine ⟨_,rfl,sa,rfl,⟨_,aV.of (s1 _ _ hs)⟩, ?_⟩
  refine jC (K:=K) (a:=sa) (xs:=nv) (fun i σ H2=>∃(kvs:List (List Key×V)) (x1:Option V),σ=[some (.ref sa),some (.ref d),x1]/\Same H H2/\H2 d=some (.dT kvs)/\kvs.length<=i/\zZ kvs (ns.take i))
   ⟨[],none,rfl,s1,ak,Nat.zero_le _,⟨List.nodup_nil,fun z=>⟨fun h=>(by cases h),fun ⟨g,h,_,q⟩=>absurd q (by simp [j5])⟩,fun g h q=>absurd q (by simp [j5])⟩⟩ (fun i σ H2 _ ⟨_,_,_,s2,_⟩=>aV.of (s2 _ _ hs)) ?_ ?_
  ·rintro i v σ H2 hi ⟨kvs,x1,rfl,s2,hd2,kl,C⟩
   have il:=(List.getElem?_eq_some_iff.mp hi).1;obtain ⟨x,t,ex,rfl,ht0⟩:=dI dn hi;have ht:=s2 _ _ ht0;have tk:ns.take (i+1)=ns.take i++[x]:=by rw [List.take_add_one,ex];rfl
   refine ⟨_,rfl,d,rfl,.inr ⟨_,.inl hd2⟩,_,rfl,_,_,_,_,rfl,rfl,bZ.of ht,rfl,_,rfl,_,_,_,_,rfl,rfl,bZ.of ht,rfl,(by show 2<=sizeLine;decide),fun t1 ht1=> ?_⟩;have u1:=aB (o:=HO.tup [V.int x.1,V.int x.2.2.1]) ht1;refine ⟨_,jk.t (k:=[Sum.inl x.1,Sum.inl x.2.2.1]) (u1 _ _ hd2) ak, ?_⟩;rw [Nm C];have htu:=u1 _ _ ht;refine ⟨_,_,rfl,rfl,_,rfl,_,rfl,_,_,_,_,rfl,rfl,bZ.of htu,rfl,_,rfl,_,_,_,_,rfl,rfl,bZ.of htu,rfl,(by show 2<=sizeLine;decide),fun t2 uW=> ?_⟩;have u2:=aB (o:=HO.tup [V.int x.1,V.int x.2.2.1]) uW;have u12:=u1.trans u2;refine ⟨d,_,rfl,xO.t (k:=[Sum.inl x.1,Sum.inl x.2.2.1]) (u12 _ _ hd2) ak (by rw [sizeLine_eq];omega), ?_⟩;refine ⟨_,_,rfl,fun b o e=> ?_,ak,Nat.le_trans (dY ..) (by omega),by rw [tk];exact C.put x⟩;rw [aN (aD e hd)];exact u12 _ _ (s2 _ _ e)
  ·rintro σ H2 ⟨kvs,x1,rfl,s2,hd2,kl,C⟩
   rw [S_,List.take_length] at C;exact ⟨_,rfl,k d kvs H2 hd hd2 C s2⟩
def Hg (K:PySem.W.Frag):Sp:=fun vs H Q _=>∃(a u s:Addr) (ws:List bG) (us ns:List Nt),vs=[.ref a,.ref u,.ref s]/\cu H a ws/\ws.length<=300/\bT H u us/\us.length<=20000/\bT H s ns/\ns.length<=20000/\(∀x∈us,dJ ws x)/\(∀x∈ns,oG ws x)/\(∃y∈us,∀x∈ns,mB x y=false) /\ ∀H',Same H H'->Q (.bl true) H'
theorem V5 (ns:List Nt) (y:Nt):(List.range ns.length).filterMap (fun i=>(ns[i]?).map fun x=>V.bl (mB x y))=(ns.map fun x=>mB x y).map V.bl:=by
 rw [List.map_map]
 induction ns with
 | nil=>rfl
 | cons x l ih=>
   rw [List.length_cons,List.range_succ_eq_map,List.filterMap_cons,List.filterMap_map];have e:List.filterMap ((fun i=>((x::l)[i]?).map fun x=>V.bl (mB x y))∘Nat.succ) (List.range l.length)=l.map (V.bl∘fun x=>mB x y):=by rw [←ih];rfl
   rw [e];rfl
theorem QM {f:Addr} {fd:FuncData} (F:lW K "_law_one_unmet" "_law_one_unmet" cB f fd) (xH:FnAt P w K mg base 5 "meets_want" ["web","note","want"] (Hh K)) (Bt:xW mg):cT P w K mg base jJ 6 f fd ["web","wants","some"] (Hg K):=by
 refine F.ok mz (fun vs H Q E h=> ?_) (fun cdv A outer s H vs Q E hr h=> ?_)
 ·obtain ⟨a,u,s,ws,us,ns,rfl,_⟩:=h
  rfl
 ·obtain ⟨a,u,sa,ws,us,ns,rfl,W,wl,U,ul,N,nl,hw,hn,⟨y0,hy0,no⟩,k⟩:=h
  refine ⟨_,(aA (fB PassesOwn.never rfl (bQ (K:=K) rfl (pv 1)) (aX (i:=3) mz.nd rfl (Or.inr rfl))
   (aG (dX (gO (fu (aU (qu (K:=K) rfl rfl) (by rfl) Bt.W6 R8 (aj (iV rfl (N:=["note","web","want"]) (own:=["note"]) (caps:=[0,3]) (aR.of (by kernel_rfl)) (bQ (K:=K) rfl (pv 2)) (fun _ _ _ _=>(aX (i:=0) (show List.Nodup (["note","web","want"]:List Str) by decide +kernel) rfl (Or.inl rfl))) (fun _ _ _ _=>iU) (fun _ _ _ _=>(bw xH (hr.mono (by decide)) (by rfl) (aj (pv 1) (aj (pv 0) (aj (pv 2) aq)))))) aq)))) (aG (aW iy)) bO)))
   (aG (aW iy))), ?_⟩
  obtain ⟨uv,hu1,du⟩:=id U;have YS:uv.length=us.length:=by rw [du.length,List.length_map]
  refine ⟨_,rfl,u,rfl,⟨_,aV.of hu1⟩, ?_⟩
  refine jC (K:=K) (a:=u) (xs:=uv) (fun i σ H2=>∃(x1:Option V),σ=[some (.ref a),some (.ref u),some (.ref sa),x1]/\Same H H2 /\ ∀y∈us.take i,y≠y0)
   ⟨none,rfl,Same.refl _,fun y hy=>by simp at hy⟩ (fun i σ H2 _ ⟨_,_,s2,_⟩=>aV.of (s2 _ _ hu1)) ?_ ?_
  ·rintro i v σ H2 hi ⟨x1,rfl,s2,ny⟩
   obtain ⟨y,t,ey,rfl,ht⟩:=dI du hi;have tk:us.take (i+1)=us.take i++[y]:=by rw [List.take_add_one,ey];rfl
   obtain ⟨nv,hs,dn⟩:=id (N.same s2);have S_:nv.length=ns.length:=by rw [dn.length,List.length_map]
   refine ⟨_,rfl,sa,rfl,⟨_,aV.of hs⟩,fun D hD=> ?_⟩;refine jE (K:=K) (fun i=>(ns[i]?).map fun x=>V.bl (mB x y)) hD (aV.of hs) (by omega) (fun m v H3 G F hm s3 kG kF=> ?_) (fun H3 s3 e3=> ?_)
   ·obtain ⟨x,q,ex,rfl,hx⟩:=dI dn hm
    have Uk:=s2.trans s3;refine ⟨_,rfl,_,rfl,_,rfl,a,q,t,ws,x,y,rfl,W.same Uk,wl,s3 _ _ hx,Uk _ _ ht,hn x (List.mem_of_getElem? ex),hw y (List.mem_of_getElem? ey),fun H4 s4=>kF _ H4 s4 (by rw [ex];rfl)⟩
   rw [S_,V5] at e3;refine ⟨D,_,rfl,aV.of e3,_,rfl, ?_⟩
   by_cases an:(ns.map fun x=>mB x y).any id=true
   ·rw [an]
    refine eX ?_;refine ⟨_,rfl,s2.trans s3,fun y' hy'=> ?_⟩;rw [tk] at hy';rcases List.mem_append.mp hy' with hy'|hy'
    ·exact ny y' hy'
    ·have:y'=y:=by simpa using hy'
     subst this;intro z;subst z;obtain ⟨b,hb,hb'⟩:=List.any_eq_true.mp an;obtain ⟨x,hx,rfl⟩:=List.mem_map.mp hb;have:=no x hx;rw [this] at hb';cases hb'
   ·rw [Bool.eq_false_iff.mpr an]
    refine iW ?_;exact k H3 (s2.trans s3)
  ·rintro σ H2 ⟨x1,rfl,s2,ny⟩
   rw [YS,List.take_length] at ny;exact absurd rfl (ny y0 hy0)
def hpl (ws:List bG) (g:Int):List Nat:=(List.range ws.length).filter fun i=>decide (hnd ws i=g)
theorem wJ {ws:List bG} {g:Int} {i:Nat}:i∈hpl ws g↔i<ws.length/\hnd ws i=g:=by
 unfold hpl;rw [List.mem_filter,List.mem_range,decide_eq_true_iff]
theorem Dq (ws:List bG) (g:Int):(hpl ws g).length<=ws.length:=by
 have:=List.length_filter_le (fun i=>decide (hnd ws i=g)) (List.range ws.length);rw [List.length_range] at this;exact this
theorem JD (ws:List bG) (g:Int):(List.range ws.length).filterMap (fun i=>if hnd ws i=g then some (V.int (0+(i:Int))) else none)=(hpl ws g).map fun (i:Nat)=>V.int (i:Int):=by
 unfold hpl
 induction List.range ws.length with
 | nil=>rfl
 | cons x l ih=>
   rw [List.filterMap_cons,List.filter_cons]
   by_cases e:hnd ws x=g
   ·simp only [e,if_true,decide_true,List.map_cons,ih]
    rw [Int.zero_add]
   ·simp only [e,if_false,decide_false,ih]
    rfl
theorem JF {ws:List bG} {g n:Int} (n0:0<=n) (n1:n<(hpl ws g).length):∃i:Nat,Gh ((hpl ws g).map fun (i:Nat)=>V.int (i:Int)) n=some (.int (i:Int))/\i<ws.length/\hnd ws i=g:=by
 obtain ⟨m,rfl⟩:=Int.eq_ofNat_of_zero_le n0;have hm:m<(hpl ws g).length:=by omega
 have e:(hpl ws g)[m]? = some (hpl ws g)[m]:=by simp [hm]
 have q:=wJ.mp (List.mem_of_getElem? e);exact ⟨(hpl ws g)[m],eN (by rw [List.getElem?_map,e];rfl),q⟩
theorem dM.vL {H H':Hp} {a r:Addr} {ps:List kj} (h:dM H a ps) (S:aY H r) (k:Kp r H H') (n:a≠r):dM H' a ps:=by
 obtain ⟨vs,e,d⟩:=h;exact ⟨vs,k _ _ e n,aC.keep (S.tups k) _ (aQ _ iG _) d⟩
theorem bT.vL {H H':Hp} {a r:Addr} {ns:List Nt} (h:bT H a ns) (S:aY H r) (k:Kp r H H') (n:a≠r):bT H' a ns:=h.kp (S.tups k) k n
def Hj (K:PySem.W.Frag):Sp:=fun vs H Q _=>∃(r c t:Addr) (ws:List bG) (g h many:Int),vs=[.ref r,.ref c,.ref t,.int many]/\aY H r/\dM H c (nm ws)/\c≠r/\ws.length<=300/\H t=some (.tup [.int g,.int h]) /\ ¬g=h/\(∃i,i<ws.length/\hnd ws i=g)/\(∃i,i<ws.length/\hnd ws i=h)/\0<=many/\many<=300 /\
 ∀(p:Addr) (ns:List Nt) (H':Hp),H p=none->bT H' p ns->ns.length<=many.toNat->(∀x∈ns,oG ws x)->aY H' r->Kp r H H'->Q (.ref p) H'
theorem QW {f:Addr} {fd:FuncData} (F:lW K "_law_fewer" "_law_fewer" fU f fd) (cQ:FnAt P w K mg base 1 "_law_draw" ["spring","many"] (kZ K)) (Bt:xW mg):cT P w K mg base jJ 2 f fd ["spring","calls","hands","many"] (Hj K):=by
 refine F.ok gJ (fun vs H Q E h=> ?_) (fun cdv A outer s H vs Q E hr h=> ?_)
 ·obtain ⟨r,c,t,ws,g,h,many,rfl,_⟩:=h
  rfl
 ·obtain ⟨r,c,t,ws,g,h,many,rfl,S,C,XH,wl,ht,U4,⟨ig,ig1,ig2⟩,⟨ih,ih1,ih2⟩,m0,m1,k⟩:=h
  refine ⟨_,(aA (jU (i:=4) rfl gJ.nd rfl (Or.inl rfl) (N:=["at","hands","calls"]) (own:=["at"]) (caps:=[2,1]) (aR.of (by kernel_rfl)) (eF (by rfl) Bt.iZ (aj (aU (bf (K:=K) rfl) (by rfl) Bt.iI eY (aj (pv 1) aq)) aq)) (fun _ _ _ _=>(aX (i:=0) (show List.Nodup (["at","hands","calls"]:List Str) by decide +kernel) rfl (Or.inl rfl))) (fun _ _ _ _=>(jT (bB j8 (aK (aJ (K:=K) rfl) (aK (aO (K:=K) rfl) (pv 2) (pv 0) (fun _ _=>rfl)) au (fun _ _=>rfl)) (aK (aJ (K:=K) rfl) (pv 1) au (fun _ _=>rfl)) (bA _)))) (fun _ _ _ _=>(pv 0)))
   (aA (jU (i:=5) rfl gJ.nd rfl (Or.inl rfl) (N:=["at","hands","calls"]) (own:=["at"]) (caps:=[2,1]) (aR.of (by kernel_rfl)) (eF (by rfl) Bt.iZ (aj (aU (bf (K:=K) rfl) (by rfl) Bt.iI eY (aj (pv 1) aq)) aq)) (fun _ _ _ _=>(aX (i:=0) (show List.Nodup (["at","hands","calls"]:List Str) by decide +kernel) rfl (Or.inl rfl))) (fun _ _ _ _=>(jT (bB j8 (aK (aJ (K:=K) rfl) (aK (aO (K:=K) rfl) (pv 2) (pv 0) (fun _ _=>rfl)) au (fun _ _=>rfl)) (aK (aJ (K:=K) rfl) (pv 1) au (fun _ _=>rfl)) (bA _)))) (fun _ _ _ _=>(pv 0)))
   (aA (aP (i:=6) gJ.nd rfl (Or.inl rfl) (fZ aq))
   (aA (fB PassesOwn.never rfl (eF (by rfl) Bt.iZ (aj (pv 3) aq)) (aX (i:=7) gJ.nd rfl (Or.inl rfl))
   (aA (aP (i:=8) gJ.nd rfl (Or.inl rfl) (aK (aO (K:=K) rfl) (pv 4) (bw cQ (hr.mono (by decide)) (by rfl) (aj (pv 0) (aj (aU (bf (K:=K) rfl) (by rfl) Bt.iI eY (aj (pv 4) aq)) aq))) (fun _ _=>rfl)))
   (aA (aP (i:=9) gJ.nd rfl (Or.inl rfl) (aK (aO (K:=K) rfl) (pv 5) (bw cQ (hr.mono (by decide)) (by rfl) (aj (pv 0) (aj (aU (bf (K:=K) rfl) (by rfl) Bt.iI eY (aj (pv 5) aq)) aq))) (fun _ _=>rfl)))
   (aG (dX (bB Il (pv 8) (pv 9) (bA _)) (aG (jV (gQ (K:=K) rfl (pv 6) (aj (bI (rT (K:=K) rfl) (aK (aO (K:=K) rfl) (pv 1) (pv 8) (fun _ _=>rfl)) (aK (aO (K:=K) rfl) (pv 1) (pv 9) (fun _ _=>rfl))) aq)))) bO)))))
   (aG (aW (pv 6))))))), ?_⟩
  obtain ⟨cv,hc,dc⟩:=id C;have cvl:cv.length=ws.length:=by rw [dc.length,List.length_map,dD]
  have one:∀(H1:Hp) (j:Nat),Same H H1->j<ws.length -> ∃(q:Addr),Gh cv (0+(j:Int))=some (V.ref q)/\H1 c=some (.lst cv)/\H1 q=some (.tup [.int (hnd ws j),.int (cnt (ws.take j) (hnd ws j))]):=fun H1 j s1 hj=>by
   obtain ⟨vs',q,e1,e2,e3⟩:=rM (C.same s1) (nP hj);have:=s1 _ _ hc;rw [e1] at this;injection this with this
   injection this with this
   subst this;exact ⟨q,xg e2,e1,e3⟩
  refine ⟨_,rfl,c,_,rfl,.inl (aV.of hc),_,rfl,by omega,by omega,fun D1 hD1=> ?_⟩;rw [show ((cv.length:Nat):Int).toNat=ws.length by omega];refine vf (fun (i:Nat)=>if hnd ws i=g then some (V.int (0+(i:Int))) else none) hD1 (by omega) (fun j H1 G F hj s1 kG kF=> ?_) (fun H1 s1 e1=> ?_)
  ·obtain ⟨q,a1,a2,a3⟩:=one H1 j s1 hj
   refine ⟨_,rfl,_,rfl,_,_,_,_,rfl,rfl,aV.of a2,a1,_,_,_,_,rfl,rfl,bZ.of a3,rfl,_,rfl,_,_,_,_,rfl,rfl,bZ.of (s1 _ _ ht),rfl,rfl,_,rfl, ?_⟩
   by_cases e:hnd ws j=g
   ·refine iY (fun _=>⟨_,rfl,kF _ H1 (Same.refl _) (if_pos e)⟩) (fun z=>absurd (decide_eq_true (by rw [e])) z)
   ·refine iY (fun z=>absurd (of_decide_eq_true z) (fun w'=>e (by injection w'))) (fun _=>kG H1 (Same.refl _) (if_neg e))
  rw [JD] at e1;obtain ⟨cv1,hc1,_⟩:=id (C.same s1);have ecv:cv1=cv:=by have:=s1 _ _ hc;rw [hc1] at this;injection this with this;injection this
  subst ecv;refine ⟨_,rfl,c,_,rfl,.inl (aV.of hc1),_,rfl,by omega,by omega,fun D2 hD2=> ?_⟩;rw [show ((cv1.length:Nat):Int).toNat=ws.length by omega];refine vf (fun (i:Nat)=>if hnd ws i=h then some (V.int (0+(i:Int))) else none) hD2 (by omega) (fun j H2 G F hj s2 kG kF=> ?_) (fun H2 s2 e2=> ?_)
  ·obtain ⟨q,a1,a2,a3⟩:=one H2 j (s1.trans s2) hj
   refine ⟨_,rfl,_,rfl,_,_,_,_,rfl,rfl,aV.of a2,a1,_,_,_,_,rfl,rfl,bZ.of a3,rfl,_,rfl,_,_,_,_,rfl,rfl,bZ.of ((s1.trans s2) _ _ ht),rfl,rfl,_,rfl, ?_⟩
   by_cases e:hnd ws j=h
   ·refine iY (fun _=>⟨_,rfl,kF _ H2 (Same.refl _) (if_pos e)⟩) (fun z=>absurd (decide_eq_true (by rw [e])) z)
   ·refine iY (fun z=>absurd (of_decide_eq_true z) (fun w'=>e (by injection w'))) (fun _=>kG H2 (Same.refl _) (if_neg e))
  rw [JD] at e2;have s12:=s1.trans s2;have VP:=s2 _ _ e1;have S2:=S.keep s12;have nD1:D1≠r:=S.ne hD1;have nD2:D2≠r:=(S.keep s1).ne hD2;refine ⟨(by show 0<=sizeLine;decide),fun p hp=> ?_⟩;have s3:=aB (o:=HO.lst []) hp;have npr:p≠r:=S2.ne hp;have vU:=s12.trans s3;have aa3:D1≠p:=aD VP hp;have aa2:D2≠p:=aD e2 hp;have ncp:c≠p:=aD (s2 _ _ hc1) hp;have hp0:H p=none:=s12.free hp;have lg:0<(hpl ws g).length:=List.length_pos_of_mem (wJ.mpr ⟨ig1,ig2⟩);have lh:0<(hpl ws h).length:=List.length_pos_of_mem (wJ.mpr ⟨ih1,ih2⟩);have lg3:=Dq ws g;have lh3:=Dq ws h;refine ⟨_,rfl,many,rfl,by omega,by omega, ?_⟩
  refine gW (lo:=0) (n:=many.toNat) (fun n σ H4=>∃(ns:List Nt) (x1 x2 x3:Option V),σ=[some (.ref r),some (.ref c),some (.ref t),some (.int many),some (.ref D1),some (.ref D2),some (.ref p),x1,x2,x3]/\aY H4 r/\dM H4 c (nm ws)/\H4 D1=some (.lst ((hpl ws g).map fun (i:Nat)=>V.int (i:Int)))/\H4 D2=some (.lst ((hpl ws h).map fun (i:Nat)=>V.int (i:Int)))/\bT H4 p ns/\ns.length<=n/\(∀x∈ns,oG ws x)/\Kp r H H4)
   ⟨[],none,none,none,rfl,S2.keep s3,C.same vU,s3 _ _ VP,s3 _ _ e2,⟨[],ak,by simp [aC]⟩,Nat.le_refl _,fun x hx=>(by cases hx),.of_same vU⟩ ?_ ?_
  ·rintro n σ H4 hn ⟨ns,x1,x2,x3,rfl,S4,C4,d1,d2,N4,nl,st,k4⟩
   refine ⟨_,rfl,_,rfl,_,rfl,D1,_,rfl,.inl (aV.of d1),r,_,rfl,S4,by rw [List.length_map];omega,by rw [List.length_map];omega,fun z1 H5 z10 z11 S5 k5=> ?_⟩;rw [List.length_map] at z11;obtain ⟨o1,oa,ol,oh⟩:=JF z10 z11;have d15:=k5 _ _ d1 nD1;have d25:=k5 _ _ d2 nD2;have C5:=C4.vL S4 k5 XH;have N5:=N4.vL S4 k5 npr;refine ⟨_,_,_,_,rfl,rfl,aV.of d15,oa, ?_⟩;refine ⟨_,rfl,_,rfl,_,rfl,D2,_,rfl,.inl (aV.of d25),r,_,rfl,S5,by rw [List.length_map];omega,by rw [List.length_map];omega,fun z2 H6 z20 z21 S6 k6=> ?_⟩;rw [List.length_map] at z21;obtain ⟨o2,ob,ol2,oh2⟩:=JF z20 z21;have d16:=k6 _ _ d15 nD1;have d26:=k6 _ _ d25 nD2;have C6:=C5.vL S5 k6 XH;have N6:=N5.vL S5 k6 npr;have k46:=(k4.trans k5).trans k6;refine ⟨_,_,_,_,rfl,rfl,aV.of d26,ob, ?_⟩;refine ⟨_,rfl,_,rfl,_,_,rfl,rfl,_,rfl, ?_⟩;refine iY (fun lt=> ?_) (fun _=>⟨ns,_,_,_,rfl,S6,C6,d16,d26,N6,by omega,st,k46⟩);have lt:(o1:Int)<o2:=of_decide_eq_true lt;obtain ⟨v1,q1,e11,e12,e13⟩:=rM C6 (nP ol);obtain ⟨v2,q2,e21,e22,V9⟩:=rM C6 (nP ol2);obtain ⟨nv,Yc,dn6⟩:=id N6;have S_:nv.length=ns.length:=by rw [dn6.length,List.length_map]
   refine ⟨_,rfl,.inl ⟨rfl,_,aV.of Yc⟩,_,rfl,_,rfl,_,_,_,_,rfl,rfl,aV.of e11,eN e12,_,rfl,_,rfl,_,_,_,_,rfl,rfl,aV.of e21,eN e22,q1,q2,_,_,rfl,rfl,bZ.of e13,bZ.of V9,by simp,by show 4<=sizeLine;decide,fun z=>absurd z (by simp),fun _ u hu=> ?_⟩;have s7:=aB (o:=HO.tup ([V.int (hnd ws o1),V.int (cnt (ws.take o1) (hnd ws o1))]++[V.int (hnd ws o2),V.int (cnt (ws.take o2) (hnd ws o2))])) hu;have hux:(upd H6 u (HO.tup ([V.int (hnd ws o1),V.int (cnt (ws.take o1) (hnd ws o1))]++[V.int (hnd ws o2),V.int (cnt (ws.take o2) (hnd ws o2))]))) u=some (.tup (nV (eU ws o1 o2))):=by rw [ak];rfl
   generalize (upd H6 u (HO.tup ([V.int (hnd ws o1),V.int (cnt (ws.take o1) (hnd ws o1))]++[V.int (hnd ws o2),V.int (cnt (ws.take o2) (hnd ws o2))])))=H7 at s7 hux ⊢;have VB:=s7 _ _ Yc;refine ⟨p,_,_,rfl,rfl,VB,by rw [sizeLine_eq];omega, ?_⟩;have k8:Kp p H7 (upd H7 p (.lst (nv++[V.ref u]))):=Kp.set;have t8:=k8.tups VB;refine ⟨ns++[eU ws o1 o2],_,_,_,rfl,(S6.keep s7).keep' k8 npr.symm, ?_,k8 _ _ (s7 _ _ d16) aa3,k8 _ _ (s7 _ _ d26) aa2,⟨_,ak, ?_⟩,by rw [List.length_append];simp;omega,fun x hx=> ?_,fun b o e nb=>k8 _ _ (s7 _ _ (k46 _ _ e nb)) (aD e hp0)⟩
   ·obtain ⟨cv7,hc7,dc7⟩:=C6.same s7
    exact ⟨cv7,k8 _ _ hc7 ncp,aC.keep t8 _ (aQ _ iG _) dc7⟩
   ·rw [List.map_append]
    exact u9 (aC.keep (fun b xs z=>t8 _ _ (s7.tups _ _ z)) _ (aQ _ fH _) dn6) (jw (t8 _ _ hux))
   ·rcases List.mem_append.mp hx with hx|hx
    ·exact st x hx
    ·rw [List.mem_singleton.mp hx]
     exact ⟨o1,o2,yG ol2 (by omega) (by rw [oh,oh2];exact U4)⟩
  ·rintro σ H4 ⟨ns,x1,x2,x3,rfl,S4,C4,d1,d2,N4,nl,st,k4⟩
   exact ⟨_,rfl,k p ns H4 hp0 N4 nl st S4 k4⟩
theorem JN {ws:List bG} (ok:∀x∈ws,0<=x.1/\x.1<8):(bF ws).length<=8*ws.length:=by
 have key:=Dm (l:=bF ws) (s:=(List.range 8).flatMap fun (g:Nat)=>(List.range ws.length).map fun j=>((g:Int),j)) (fun y=>(hnd ws y.2.1,y.2.2)) nZ (fun y hy=> ?_) fun y hy z hz e=> ?_
 ·have e:∀n:Nat,((List.range n).flatMap fun (g:Nat)=>(List.range ws.length).map fun j=>((g:Int),j)).length=n*ws.length:=fun n=>by
   induction n with
   | zero=>simp
   | succ n ih=>rw [List.range_succ,List.flatMap_append,List.length_append,ih,List.flatMap_cons,List.flatMap_nil,List.append_nil,List.length_map,List.length_range,Nat.succ_mul]
  rw [e] at key;exact key
 ·obtain ⟨⟨a1,a2,a3,_,_⟩,_⟩:=cM ((cC ok).mp hy)
  obtain ⟨b1,b2,_⟩:=jY a3;have ea:ws[y.2.1]? = some ws[y.2.1]:=by simp [b1]
  obtain ⟨q1,q2⟩:=ok _ (List.getElem_mem b1);rw [←dG ea] at q1 q2;refine List.mem_flatMap.mpr ⟨(hnd ws y.2.1).toNat,by rw [List.mem_range];omega,List.mem_map.mpr ⟨y.2.2,by rw [List.mem_range];exact a1, ?_⟩⟩;rw [Int.toNat_of_nonneg q1]
 ·injection e with e1 e2
  have q1:=(cC ok).mp hy;have q2:=(cC ok).mp hz;rw [←e1,←e2] at q2;have l1:=(cM q1).1.2.1;have l2:=(cM q2).1.2.1;rcases qP q1 q2 with q|q|q
  ·exact q
  ·have:=q.2;omega
  ·have:=q.2;omega
theorem Iw {H:Hp}:∀{vs:List V} {ns:List Nt},aC H vs (ns.map nD) -> ∃as:List EK,vs=as.map (fun x=>V.ref x.2)/\as.map (·.1)=ns.map nK /\ ∀x∈as,H x.2=some (.tup (x.1.map V.int))
 | [],[],_=>⟨[],rfl,rfl,fun x hx=>(by cases hx)⟩
 | [],_::_,h=>by simp only [List.map_cons,aC] at h
 | _::_,[],h=>by simp only [List.map_nil,aC] at h
 | v::vs,n::ns,h=>by
   simp only [List.map_cons,aC] at h;obtain ⟨t,rfl,ht⟩:=gY h.1;obtain ⟨as,e1,e2,e3⟩:=Iw h.2;refine ⟨(nK n,t)::as,by rw [e1];rfl,by rw [List.map_cons,List.map_cons,e2],fun x hx=> ?_⟩;rcases List.mem_cons.mp hx with rfl|hx
   ·exact ht
   ·exact e3 x hx
theorem jN {p a:Addr} {H:Hp} {o:HO} (l:∃ps,H p=some (.dU ps)) (e:H a=some o) (n:∀ps,o ≠ .dU ps):a≠p:=fun z=>by
 obtain ⟨ps,q⟩:=l;rw [z,q] at e;cases e;exact n _ rfl
theorem qX {p:Addr} {H H':Hp} (l:∃ps,H p=some (.dU ps)) (k:Kp p H H'):∀a xs,H a=some (HO.tup xs)->H' a=some (HO.tup xs):=fun a xs e=>k _ _ e (jN l e (by intro ps z;cases z))
theorem dF {p:Addr} {H H':Hp} {pos:Pos} {q:Str} (h:pL H p pos q) (s:Same H H'):pL H' p pos q:=by
 rcases h with e|⟨c,e,f⟩
 ·exact .inl (s _ _ e)
 ·exact .inr ⟨c,s _ _ e,s _ _ f⟩
theorem lA {p:Addr} {H:Hp} {pos:Pos} {q:Str} (h:pL H p pos q):∃ps,H p=some (.dU ps):=by
 rcases h with e|⟨c,e,_⟩
 ·exact ⟨_,e⟩
 ·exact ⟨_,e⟩
theorem Df {p p':Addr} {H H':Hp} {pos:Pos} {q:Str} (h:pL H p pos q) (ne:p≠p') (l:∃ps,H p'=some (.dU ps)) (k:Kp p' H H'):pL H' p pos q:=by
 rcases h with e|⟨c,e,f⟩
 ·exact .inl (k _ _ e ne)
 ·exact .inr ⟨c,k _ _ e ne,k _ _ f (jN l f (by intro ps z;cases z))⟩
theorem Jo {p r:Addr} {H H':Hp} {ys:List V} {pos:Pos} {q:Str} (h:pL H p pos q) (hr:H r=some (.lst ys)) (k:Kp r H H'):pL H' p pos q:=by
 have nr:=jN (lA h) hr (by intro ps z;cases z);rcases h with e|⟨c,e,f⟩
 ·exact .inl (k _ _ e nr.symm)
 ·exact .inr ⟨c,k _ _ e nr.symm,k _ _ f (fM f hr (by intro z;cases z))⟩
theorem yV {p r:Addr} {H H':Hp} {pos:Pos} {q:Str} (h:pL H p pos q) (S:aY H r) (k:Kp r H H'):pL H' p pos q:=by
 obtain ⟨f1,f2,f3,e1,_⟩:=S;exact Jo h e1 k
theorem vK {p a:Addr} {xs:List V} {H H':Hp} (h:aV K H a xs) (l:∃ps,H p=some (.dU ps)) (k:Kp p H H'):aV K H' a xs:=by
 rcases h with (h|⟨o,h⟩)|h
 ·exact .inl (.inl (k _ _ h (jN l h (by intro ps z;cases z))))
 ·exact .inl (.inr ⟨o,k _ _ h (jN l h (by intro ps z;cases z))⟩)
 ·exact .inr h
structure Ky (r wb l c to wa:Addr) (ws:List bG) (oM Ob:List Nt) (H:Hp):Prop where
 sp:aY H r
 web:cu H wb ws
 hd:cu H l ws
 cs:dM H c (nm ws)
 told:bT H to oM
 wants:bT H wa Ob
 ne:wb≠r/\l≠r/\c≠r/\to≠r/\wa≠r
section
variable {r wb l c to wa p:Addr} {ws:List bG} {oM Ob:List Nt} {H H':Hp}
theorem Ky.same (h:Ky r wb l c to wa ws oM Ob H) (s:Same H H'):Ky r wb l c to wa ws oM Ob H':=⟨h.sp.keep s,h.web.same s,h.hd.same s,h.cs.same s,h.told.same s,h.wants.same s,h.ne⟩
theorem Ky.Lf (h:Ky r wb l c to wa ws oM Ob H) (k:Kp r H H') (S:aY H' r):Ky r wb l c to wa ws oM Ob H':=
 ⟨S,h.web.Lf h.sp k h.ne.1,h.hd.Lf h.sp k h.ne.2.1,h.cs.vL h.sp k h.ne.2.2.1,h.told.vL h.sp k h.ne.2.2.2.1,h.wants.vL h.sp k h.ne.2.2.2.2,h.ne⟩
theorem cu.dU {a:Addr} (h:cu H a ws) (t:∃ps,H p=some (.dU ps)) (k:Kp p H H'):cu H' a ws:=by
 obtain ⟨vs,e,d⟩:=h;exact ⟨vs,k _ _ e (jN t e (by intro ps z;cases z)),aC.keep (qX t k) _ (aQ _ pA ws) d⟩
theorem bT.dU {a:Addr} {ns:List Nt} (h:bT H a ns) (t:∃ps,H p=some (.dU ps)) (k:Kp p H H'):bT H' a ns:=by
 obtain ⟨vs,e,d⟩:=h;exact ⟨vs,k _ _ e (jN t e (by intro ps z;cases z)),aC.keep (qX t k) _ (aQ _ fH _) d⟩
theorem dM.dU {a:Addr} {ps':List kj} (h:dM H a ps') (t:∃ps,H p=some (.dU ps)) (k:Kp p H H'):dM H' a ps':=by
 obtain ⟨vs,e,d⟩:=h;exact ⟨vs,k _ _ e (jN t e (by intro ps z;cases z)),aC.keep (qX t k) _ (aQ _ iG _) d⟩
theorem aY.dU (S:aY H r) (t:∃ps,H p=some (.dU ps)) (k:Kp p H H'):aY H' r:=by
 obtain ⟨f1,f2,f3,e1,q⟩:=S;exact ⟨f1,f2,f3,k _ _ e1 (jN t e1 (by intro ps z;cases z)),q⟩
theorem Ky.dU (h:Ky r wb l c to wa ws oM Ob H) (t:∃ps,H p=some (.dU ps)) (k:Kp p H H'):Ky r wb l c to wa ws oM Ob H':=⟨h.sp.dU t k,h.web.dU t k,h.hd.dU t k,h.cs.dU t k,h.told.dU t k,h.wants.dU t k,h.ne⟩
end
theorem M8 {α:Type} {Y:List α} (nd:Y.Nodup) (b n:Nat):((Y.drop b++Y.take b).take n).Nodup /\ ∀y∈(Y.drop b++Y.take b).take n,y∈Y:=by
 have p:(Y.drop b++Y.take b).Perm Y:=List.perm_append_comm.trans (by rw [List.take_append_drop]);exact ⟨(List.take_sublist n _).nodup (p.nodup_iff.mpr nd),fun y hy=>p.mem_iff.mp (List.mem_of_mem_take hy)⟩
def Ck (p p2:Addr) (K:PySem.W.Frag):Sp:=fun vs H Q _=>∃(a:Addr) (ns:List Int),vs=[.ref a]/\aV K H a (ns.map V.int)/\ns.length<=63/\H p=some (.dU #[])/\H p2=some (.dU #[]) /\ ∀H',Q (.bl true) H'
theorem QV {p p2:Addr} {f:Addr} {fd:FuncData} (F:lW K "law" "law" lq f fd) (Gn:FnAt P w K mg base 1 "_law_spring" ["script"] (qY K)) (cQ:FnAt P w K mg base 1 "_law_draw" ["spring","many"] (kZ K)) (Sx:FnAt P w K mg base 2 "_law_web" ["spring","most"] (Hf K)) (KD:FnAt P w K mg base 1 "_law_calls" ["web"] (vN K)) (ud:FnAt P w K mg base 4 "strict_notes" ["web"] (oR p K)) (uD:FnAt P w K mg base 4 "wants_apart" ["web"] (vO p K)) (oH:FnAt P w K mg base 1 "_law_ends" ["calls","note"] (q_ K)) (BX:FnAt P w K mg base 2 "_law_is_want" ["web","calls","note"] (vM K)) (BZ:FnAt P w K mg base 2 "_law_all_met" ["web","calls","told"] (Hi K)) (vC:FnAt P w K mg base 1 "_law_counts" ["some"] (Hl K)) (uE:FnAt P w K mg base 5 "apart_shows" ["web","wants"] (Hq p2 K)) (KC:FnAt P w K mg base 2 "_law_fewer" ["spring","calls","hands","many"] (Hj K)) (xK:FnAt P w K mg base 6 "_law_one_unmet" ["web","wants","some"] (Hg K)) (Bt:xW mg) (hpp:p≠p2):cT P w K mg base jJ 7 f fd ["script"] (Ck p p2 K):=by
 refine F.ok gG (fun vs H Q E h=> ?_) (fun cdv A outer s H vs Q E hr h=> ?_)
 ·obtain ⟨a,ns,rfl,_⟩:=h
  rfl
 ·obtain ⟨a,ns,rfl,hS,hlen,hp0,ab9,k⟩:=h
  have wH:=hr.units;have hu:=mH hr
  refine ⟨_,(aA (aP (i:=1) gG.nd rfl (Or.inl rfl) (bw Gn (hr.mono (by decide)) (by rfl) (aj (pv 0) aq)))
   (aA (aP (i:=2) gG.nd rfl (Or.inr rfl) (bw Sx (hr.mono (by decide)) (by rfl) (aj (pv 1) (aj au aq))))
   (aA (aP (i:=3) gG.nd rfl (Or.inr rfl) (bw KD (hr.mono (by decide)) (by rfl) (aj (pv 2) aq)))
   (aA (aP (i:=4) gG.nd rfl (Or.inl rfl) (lK (mK (K:=K) rfl) (by rfl) Bt.w5 qQ (aj (pv 2) aq)))
   (aA (aP (i:=5) gG.nd rfl (Or.inl rfl) (bw ud (hr.mono (by decide)) (by rfl) (aj (pv 4) aq)))
   (aA (aP (i:=6) gG.nd rfl (Or.inl rfl) (bw uD (hr.mono (by decide)) (by rfl) (aj (pv 4) aq)))
   (aA (dX (PW.pt (j7 (gO (fu (aU (jH (K:=K) (cv:= .ty "list") (c:= .type "list") rfl rfl) (by rfl) Bt.gj eZ (aj (pv 5) (aj (nM (v:= .ty "list") (by rfl) Bt.w5 qQ rfl) aq))))) (j7 (gO (fu (aU (jH (K:=K) (cv:= .ty "list") (c:= .type "list") rfl rfl) (by rfl) Bt.gj eZ (aj (pv 6) (aj (nM (v:= .ty "list") (by rfl) Bt.w5 qQ rfl) aq))))) (jR (bB (LR (K:=K) rfl wH) (pv 4) (pv 2) (bA _)))))) (aG (aW iy)) bO)
   (aA (dX (PW.pt (j7 (gO (fu (aU (dz (K:=K) rfl rfl) (by rfl) Bt.zU tQ (aj (iV rfl (N:=["note","calls"]) (own:=["note"]) (caps:=[3]) (aR.of (by kernel_rfl)) (bQ (K:=K) rfl (pv 5)) (fun _ _ _ _=>(aX (i:=0) (show List.Nodup (["note","calls"]:List Str) by decide +kernel) rfl (Or.inl rfl))) (fun _ _ _ _=>iU) (fun _ _ _ _=>(eG Cw (bw oH (hr.mono (by decide)) (by rfl) (aj (pv 1) (aj (pv 0) aq))) wj (bA _)))) aq)))) (jR (bB nO (aU Gb (by rfl) Bt.iI eY (aj (lK (Br (K:=K) rfl rfl hr.kJ) (by rfl) Bt.W0 R7 (aj (pv 5) aq)) aq)) (aU (bf (K:=K) rfl) (by rfl) Bt.iI eY (aj (pv 5) aq)) (bA _))))) (aG (aW iy)) bO)
   (aA (dX (PW.pt (j7 (gO (fu (bw BZ (hr.mono (by decide)) (by rfl) (aj (pv 2) (aj (pv 3) (aj (pv 5) aq)))))) (jR (gO (fu (aU (dz (K:=K) rfl rfl) (by rfl) Bt.zU tQ (aj (iV rfl (N:=["want","web","calls"]) (own:=["want"]) (caps:=[2,3]) (aR.of (by kernel_rfl)) (bQ (K:=K) rfl (pv 6)) (fun _ _ _ _=>(aX (i:=0) (show List.Nodup (["want","web","calls"]:List Str) by decide +kernel) rfl (Or.inl rfl))) (fun _ _ _ _=>iU) (fun _ _ _ _=>(bw BX (hr.mono (by decide)) (by rfl) (aj (pv 1) (aj (pv 2) (aj (pv 0) aq)))))) aq))))))) (aG (aW iy)) bO)
   (aA (dX (PW.pt (j7 (bB (QF hr.kJ (Nat.lt_of_succ_lt hu)) (bw vC (hr.mono (by decide)) (by rfl) (aj (pv 5) aq)) (bw vC (hr.mono (by decide)) (by rfl) (aj (pv 6) aq)) (bA _)) (jR (bB LQ (bw uE (hr.mono (by decide)) (by rfl) (aj (pv 4) (aj (lK (mK (K:=K) rfl) (by rfl) Bt.w5 qQ (aj (pv 6) aq)) aq))) iy (bA _))))) (aG (aW iy)) bO)
   (aA (fB PassesOwn.never rfl (eF (by rfl) Bt.iZ (aj (bI rR (bI gb au (aU (vh rfl) (by rfl) Bt.Kr Bs (aj (aU (bf (K:=K) rfl) (by rfl) Bt.iI eY (aj (pv 0) aq)) (aj au aq)))) (aU (vh rfl) (by rfl) Bt.Kr Bs (aj au (aj (aU (bf (K:=K) rfl) (by rfl) Bt.iI eY (aj (pv 5) aq)) aq)))) aq)) (aX (i:=7) gG.nd rfl (Or.inl rfl))
   (aA (aP (i:=8) gG.nd rfl (Or.inl rfl) (aK (aO (K:=K) rfl) (pv 5) (bw cQ (hr.mono (by decide)) (by rfl) (aj (pv 1) (aj (aU (bf (K:=K) rfl) (by rfl) Bt.iI eY (aj (pv 5) aq)) aq))) (fun _ _=>rfl)))
   (aA (aP (i:=9) gG.nd rfl (Or.inr rfl) (fY (aj (aK (aJ (K:=K) rfl) (pv 8) au (fun _ _=>rfl)) (aj (aK (aJ (K:=K) rfl) (pv 8) au (fun _ _=>rfl)) aq))))
   (aA (jU (i:=10) rfl gG.nd rfl (Or.inl rfl) (N:=["want","hands"]) (own:=["want"]) (caps:=[9]) (aR.of (by kernel_rfl)) (bQ (K:=K) rfl (pv 6)) (fun _ _ _ _=>(aX (i:=0) (show List.Nodup (["want","hands"]:List Str) by decide +kernel) rfl (Or.inl rfl))) (fun _ _ _ _=>(jT (PW.pt (vX (bB j8 (aK (aJ (K:=K) rfl) (pv 0) au (fun _ _=>rfl)) (aK (aJ (K:=K) rfl) (pv 1) au (fun _ _=>rfl)) (bA _)) (qK (bB j8 (aK (aJ (K:=K) rfl) (pv 0) au (fun _ _=>rfl)) (aK (aJ (K:=K) rfl) (pv 1) au (fun _ _=>rfl)) (bA _))))))) (fun _ _ _ _=>(pv 0)))
   (aA (aP (i:=11) gG.nd rfl (Or.inl rfl) (bw cQ (hr.mono (by decide)) (by rfl) (aj (pv 1) (aj (aU (bf (K:=K) rfl) (by rfl) Bt.iI eY (aj (pv 10) aq)) aq))))
   (aA (aP (i:=10) gG.nd rfl (Or.inl rfl) (cj (jB (K:=K) rfl) (bI QJ (cj (jB (K:=K) rfl) (pv 10) (cO (pv 11)) cP) (cj (jB (K:=K) rfl) (pv 10) cP (cO (pv 11)))) cP (cO au)))
   (aG (dX (gO (fu (bw xK (hr.mono (by decide)) (by rfl) (aj (pv 4) (aj (pv 10) (aj (bw KC (hr.mono (by decide)) (by rfl) (aj (pv 1) (aj (pv 3) (aj (pv 9) (aj (bI Ik (aU (bf (K:=K) rfl) (by rfl) Bt.iI eY (aj (pv 10) aq)) au) aq))))) aq)))))) (aG (aW iy)) bO))))))))
   (aG (aW (eG (qL (K:=K) rfl wH) (pv 4) (pv 2) (bA _))))))))))))))), ?_⟩
  refine ⟨_,rfl,a,ns,rfl,hS,hlen,fun r H1 hr1 S1 KN=> ?_⟩;refine ⟨_,rfl,r,100,rfl,S1,by decide,by decide,fun wb ws H2 hw W ok len S2 k2=> ?_⟩;have KR:∀x∈ws,0<=x.1/\x.1<8:=fun x hx=>(ok x hx).1;have few:=JN KR;have nwr:wb≠r:=S1.ne hw;have Gq:LT p H2:=yV (dF (.inl hp0) KN) S1 k2;have mt2:NT p2 H2:=yV (dF (.inl ab9) KN) S1 k2;have sc2:aV K H2 a (ns.map V.int):=Same.seq (fun b u e=>k2 _ _ (KN _ _ e) (aD e hr1)) hS;refine ⟨_,rfl,wb,ws,rfl,W,ok,len,fun c H3 hc C s3=> ?_⟩;have XH:c≠r:=S2.ne hc;obtain ⟨wv,hwv,dwv⟩:=id (W.same s3);refine ⟨_,rfl,wb,_,rfl,.inl (aV.of hwv),fun l hl=> ?_⟩;have nlr:l≠r:=(S2.keep s3).ne hl;have Xr:=aB (o:=HO.lst wv) hl;have L4:cu (upd H3 l (HO.lst wv)) l ws:=⟨wv,ak,aC.keep Xr.tups _ (aQ _ pA ws) dwv⟩;have s4:=s3.trans Xr;have C4:=C.same Xr;have S4:=S2.keep s4;have W4:=W.same s4;have XM:LT p (upd H3 l (HO.lst wv)):=dF Gq s4;have mt4:NT p2 (upd H3 l (HO.lst wv)):=dF mt2 s4;have Zy:=s4.seq sc2;generalize (upd H3 l (HO.lst wv))=H4 at L4 C4 S4 W4 XM mt4 Zy s4 ⊢;clear s3 Xr hl hwv dwv hc C W S2 k2 Gq mt2 sc2;refine ⟨_,rfl,l,ws,rfl,L4,ok,len,XM,fun to oM H5 hto T5 pm mQ k5 Tc=> ?_⟩;have ntr:to≠r:=S4.ne hto;have t4:=lA XM;refine ⟨_,rfl,l,ws,rfl,L4.dU t4 k5,ok,len,Tc,fun wa H6 hwa U6 k6 lt6=> ?_⟩;have aaV:wa≠r:=(S4.dU t4 k5).ne hwa;have t5:=lA Tc;have I6:Ky r wb l c to wa ws oM ((bF ws).map fun y=>(fW ws y).1) H6:=⟨(S4.dU t4 k5).dU t5 k6,(W4.dU t4 k5).dU t5 k6,(L4.dU t4 k5).dU t5 k6,(C4.dU t4 k5).dU t5 k6,T5.dU t5 k6,U6,nwr,nlr,XH,ntr,aaV⟩;have mt6:NT p2 H6:=Df (Df mt4 hpp.symm t4 k5) hpp.symm t5 k6;have sc6:=vK (vK Zy t4 k5) t5 k6;clear L4 C4 S4 W4 XM mt4 Zy s4 k5 k6 T5 U6 Tc lt6 t4 t5;have tl:oM.length=(bF ws).length:=by rw [pm.length_eq,List.length_map]
  have tnd:oM.Nodup:=pm.nodup_iff.mpr (Iz KR)
  have TJ:∀x∈oM,∃y∈bF ws,x=nF ws y:=fun x hx=>by
   obtain ⟨y,hy,rfl⟩:=List.mem_map.mp (pm.mem_iff.mp hx);exact ⟨y,hy,rfl⟩
  have Tz:∀x∈oM,oG ws x:=fun x hx=>by
   obtain ⟨y,hy,rfl⟩:=TJ x hx;exact GX KR hy
  obtain ⟨tv,htv,Tj⟩:=id I6.told;obtain ⟨uv,huv,duv⟩:=id I6.wants;have YZ:tv.length=oM.length:=by rw [Tj.length,List.length_map]
  refine ⟨_,rfl,_,_,true,rfl,.lst htv,mG K,true,rfl,eX ?_⟩;refine ⟨_,rfl,_,_,true,rfl,.lst huv,mG K,true,rfl,eX ?_⟩;obtain ⟨l6,Gr,Nh⟩:=id I6.hd;obtain ⟨w6,Td,YC⟩:=id I6.web;refine ⟨_,rfl,_,rfl,_,_,jD Gr Nh,jD Td YC,jO ok,jO ok,_,rfl, ?_⟩;rw [if_pos rfl,sU tD JT];refine yZ rfl ?_;refine ⟨_,rfl,to,rfl,⟨_,aV.of htv⟩,fun D hD=> ?_⟩;refine jE (K:=K) (fun i=>(tv[i]?).map fun _=>V.bl true) hD (aV.of htv) (by omega) (fun i v H7 G F hi s7 kG kF=> ?_) (fun H7 s7 e7=> ?_)
  ·obtain ⟨x,t,ex,rfl,ht⟩:=dI Tj hi
   refine ⟨_,rfl,_,rfl,c,t,ws,x,rfl,I6.cs.same s7,s7 _ _ ht,fun no=>absurd (Tz x (List.mem_of_getElem? ex)) no,fun i1 j1 sx u H8 hu s8=>⟨rfl, ?_⟩⟩;exact kF _ H8 s8 (by rw [hi];rfl)
  rw [wM] at e7;have e7':H7 D=some (.lst ((tv.map fun _=>true).map V.bl)):=by rw [e7,List.map_map];rfl
  refine ⟨D,_,rfl,aV.of e7',_,rfl, ?_⟩;rw [show (tv.map fun _=>true).all id=true by rw [List.all_eq_true];intro b hb;obtain ⟨_,_,rfl⟩:=List.mem_map.mp hb;rfl];refine eX ?_;have I7:=I6.same s7;have mt7:NT p2 H7:=dF mt6 s7;have sc7:=s7.seq sc6;clear I6 mt6 sc6 Gr Nh Td YC e7 e7' htv Tj huv duv hD;obtain ⟨tv7,Vv,Wf⟩:=id I7.told;obtain ⟨as,ea,ek,eh⟩:=Iw Wf;have asl:as.length=oM.length:=by have:=congrArg List.length ek;simpa using this
  have and_:(as.map (·.1)).Nodup:=by
   rw [ek,List.nodup_iff_pairwise_ne,List.pairwise_map];exact List.Pairwise.imp (fun ne e=>ne (Ra e)) tnd
  refine ⟨_,rfl,to,as,rfl,by rw [←ea];exact aV.of Vv,eh,by omega,fun q xs hq fl=> ?_⟩;have s8:=aB (o:=Gj P w q xs) hq;refine ⟨q,xs,rfl,ak, ?_⟩;have I8:=I7.same s8;have mt8:=dF mt7 s8;have sc8:=s8.seq sc7;obtain ⟨tv8,Vu,Wd⟩:=id I8.told;have YX:tv8.length=oM.length:=by rw [Wd.length,List.length_map]
  refine ⟨_,rfl,to,_,rfl,.inl (aV.of Vu),rfl,_,rfl, ?_⟩;refine yZ (by rw [(fl.2.2.1 and_).length_eq,asl,YX]) ?_;refine ⟨_,rfl,_,rfl,_,rfl,wb,c,to,ws,oM,rfl,I8.web,len,I8.cs,I8.told,by omega,Tz,fun i j ij jl m=> ?_,fun H9 s9=>⟨_,rfl,eX ?_⟩⟩
  ·obtain ⟨y,hy,s1,a1,a2,a3,a4⟩:=NK KR ij jl m
   exact ⟨nF ws y,pm.mem_iff.mpr (List.mem_map.mpr ⟨y,hy,rfl⟩),y.1,y.2.2,s1,a1,a2,a3,a4⟩
  have I9:=I8.same s9;have mt9:=dF mt8 s9;have sc9:=s9.seq sc8;clear I7 mt7 sc7 I8 mt8 sc8 s8 s9 Vv Wf ea ek eh asl and_ hq fl Vu Wd;obtain ⟨Xn,Ru,RV⟩:=id I9.wants;have afV:Xn.length=(bF ws).length:=by rw [RV.length,List.length_map,List.length_map]
  refine ⟨_,rfl,wa,rfl,⟨_,aV.of Ru⟩,fun D2 hD2=> ?_⟩;refine jE (K:=K) (fun i=>(Xn[i]?).map fun _=>V.bl true) hD2 (aV.of Ru) (by omega) (fun i v H10 G F hi En kG kF=> ?_) (fun H10 En e10=> ?_)
  ·obtain ⟨x,t,ex,rfl,ht⟩:=dI RV hi
   refine ⟨_,rfl,_,rfl,_,rfl,wb,c,t,ws,x,rfl,I9.web.same En,I9.cs.same En,En _ _ ht,fun bl H11 hb Og=> ?_⟩
   have:bl=true:=hb.mpr (by
    obtain ⟨y,hy,rfl⟩:=List.mem_map.mp (List.mem_of_getElem? ex);exact B_ KR hy)
   subst this;exact kF _ H11 Og (by rw [hi];rfl)
  rw [wM] at e10;have Wa:H10 D2=some (.lst ((Xn.map fun _=>true).map V.bl)):=by rw [e10,List.map_map];rfl
  refine ⟨D2,_,rfl,aV.of Wa,_,rfl, ?_⟩;rw [show (Xn.map fun _=>true).all id=true by rw [List.all_eq_true];intro b hb;obtain ⟨_,_,rfl⟩:=List.mem_map.mp hb;rfl];refine eX ?_;have YG:=I9.same En;have U8:=dF mt9 En;have Ui:=En.seq sc9;clear I9 mt9 sc9 En e10 Wa Ru RV hD2;have ul:((bF ws).map fun y=>(fW ws y).1).length<=20000:=by rw [List.length_map];omega
  refine ⟨_,rfl,to,oM,rfl,YG.told,by omega,fun d1 ka H11 hd1 hk1 c1 Og=> ?_⟩;refine ⟨_,rfl,wa,_,rfl,YG.wants.same Og,ul,fun d2 kb H12 hd2 hk2 c2 s12=> ?_⟩;obtain ⟨el,hv⟩:=Nk c1 c2 (FZ (Bf KR pm));refine ⟨d1,d2,ka,kb,rfl,rfl,s12 _ _ hk1,hk2,el,hv,_,rfl,eX ?_⟩;have Cm:=Og.trans s12;have I12:=YG.same Cm;have U7:=dF U8 Cm;have Uh:=Cm.seq Ui;clear YG U8 Ui Og s12 Cm hk1 hk2 c1 c2 el hv hd1 hd2;obtain ⟨K7,Ox,O7⟩:=id I12.wants;refine ⟨_,rfl,_,rfl,wa,_,rfl,.inl (aV.of Ox),fun l2 hl2=> ?_⟩;have vU:=aB (o:=HO.lst K7) hl2;have N13:bT (upd H12 l2 (HO.lst K7)) l2 ((bF ws).map fun y=>(fW ws y).1):=⟨K7,ak,aC.keep vU.tups _ (aQ _ fH _) O7⟩;have I13:=I12.same vU;have Mq:NT p2 (upd H12 l2 (HO.lst K7)):=dF U7 vU;have Ug:=vU.seq Uh;refine ⟨l,l2,ws,_,rfl,I13.hd,len,N13,by omega,Mq,fun bl H14 hb k14 _=> ?_⟩;have eb:bl=true:=hb.mpr (Nz KR);subst eb;refine ⟨_,_,rfl,rfl,_,rfl,eX ?_⟩;have I14:=I13.dU (lA Mq) k14;have Ue:=vK Ug (lA Mq) k14;clear I12 U7 Uh I13 Mq Ug vU N13 Ox O7 hb k14 hl2;obtain ⟨Eb,Oz,O8⟩:=id I14.told;have Tv:Eb.length=oM.length:=by rw [O8.length,List.length_map]
  refine ⟨_,rfl,a,_,rfl,.inl Ue,_,_,rfl,_,_,rfl,rfl,_,rfl,to,_,rfl,.inl (aV.of Oz),_,_,rfl,_,_,rfl,rfl, ?_, ?_⟩
  ·refine .inr ?_
   split<;>omega
  have rng:∃n:Int,n=(1+(if (4:Int)<((ns.map V.int).length:Int) then 4 else ((ns.map V.int).length:Int)))*(if (Eb.length:Int)<1 then (Eb.length:Int) else 1)/\0<=n/\n<=5/\(0<n->0<oM.length):=by
   refine ⟨_,rfl, ?_⟩
   by_cases z:oM.length=0
   ·rw [if_pos (show (Eb.length:Int)<1 by omega),show (Eb.length:Int)=0 by omega,Int.mul_zero]
    exact ⟨by omega,by omega,fun w=>absurd w (by omega)⟩
   ·rw [if_neg (show ¬(Eb.length:Int)<1 by omega),Int.mul_one]
    refine ⟨by split<;>omega,by split<;>omega,fun _=>by omega⟩
  obtain ⟨n,en,n0,n5,npos⟩:=rng;refine ⟨_,rfl, ?_, ?_, ?_⟩
  ·rw [←en];omega
  ·rw [←en];omega
  rw [←en]
  refine gW (lo:=0) (n:=n.toNat) (fun i σ YK=>∃(x1 x2 x3 x4 x5:Option V),σ=[some (.ref a),some (.ref r),some (.ref wb),some (.ref c),some (.ref l),some (.ref to),some (.ref wa),x1,x2,x3,x4,x5]/\Ky r wb l c to wa ws oM ((bF ws).map fun y=>(fW ws y).1) YK)
   ⟨none,none,none,none,none,rfl,I14⟩ ?_ ?_
  ·clear I14 Ue Oz O8 Tv en
   rintro i σ YK hi ⟨x1,x2,x3,x4,x5,rfl,I⟩;have tpos:=npos (by omega);obtain ⟨tv,htv,Tj⟩:=id I.told;have YZ:tv.length=oM.length:=by rw [Tj.length,List.length_map]
   refine ⟨_,rfl,_,rfl,_,rfl,to,_,rfl,.inl (aV.of htv),r,_,rfl,I.sp,by omega,by omega,fun z H16 z0 z1 S16 Rq=> ?_⟩;have I16:=I.Lf Rq S16;obtain ⟨m,rfl⟩:=Int.eq_ofNat_of_zero_le z0;have ml:m<oM.length:=by omega
   obtain ⟨x,ex⟩:∃x,oM[m]? = some x:=⟨oM[m],by simp [ml]⟩;obtain ⟨y,hy,rfl⟩:=TJ x (List.mem_of_getElem? ex);obtain ⟨h1,h2⟩:=nQ KR hy;obtain ⟨tv',Vw,Wg⟩:=id I16.told;obtain ⟨v,ev,dx⟩:=Wg.getD (i:=m) (d:=nD (nF ws y)) (by rw [List.getElem?_map,ex];rfl);obtain ⟨t,rfl,ht⟩:=gY dx;refine ⟨_,_,_,_,rfl,rfl,aV.of Vw,eN ev, ?_⟩;clear I htv Tj Rq;refine ⟨_,rfl,_,_,_,_,rfl,rfl,bZ.of ht,rfl,_,rfl,_,_,_,_,rfl,rfl,bZ.of ht,rfl,(by show 2<=sizeLine;decide),fun hh hhh=> ?_⟩;have ZF:=aB (o:=HO.tup [V.int (nF ws y).1,V.int (nF ws y).2.2.1]) hhh;have RT:(upd H16 hh (HO.tup [V.int (nF ws y).1,V.int (nF ws y).2.2.1])) hh=some (.tup [.int (hnd ws y.2.1),.int (hnd ws y.2.2)]):=by rw [ak,h1,h2]
   have Tn:=I16.same ZF;generalize (upd H16 hh (HO.tup [V.int (nF ws y).1,V.int (nF ws y).2.2.1]))=H17 at ZF RT Tn ⊢;have hf:=(cC KR).mp hy;obtain ⟨⟨f1,f2,f3,_,_⟩,_⟩:=cM hf;obtain ⟨b1,b2,U4⟩:=jY f3;generalize hg:hnd ws y.2.1=g at RT hf U4;generalize hq:hnd ws y.2.2=q at RT hf U4;clear Vw Wg ht dx I16 ZF hhh;obtain ⟨uv,huv,duv⟩:=id Tn.wants;have YS:uv.length=(bF ws).length:=by rw [duv.length,List.length_map,List.length_map]
   refine ⟨_,rfl,wa,rfl,⟨_,aV.of huv⟩,fun D hD=> ?_⟩;refine gZ (K:=K) (fun i=>(((bF ws).map fun y=>(fW ws y).1)[i]?).bind fun u=>if (decide (u.1=g)&&decide (u.2.2.1=q))=true then some (nD u) else none) (Bj fH _ _) hD (aV.of huv) (by omega) (fun j v YJ G F hj S9 kG kF=> ?_) (fun YJ yv S9 e18 Wn=> ?_)
   ·obtain ⟨u,tu,eu,rfl,htu⟩:=dI duv hj
    have ht8:=S9 _ _ htu;have e8:=S9 _ _ RT;rw [eu] at kG kF;simp only [Option.bind_some] at kG kF;refine ⟨_,rfl,_,_,_,_,rfl,rfl,bZ.of ht8,rfl,_,rfl,_,_,_,_,rfl,rfl,bZ.of e8,rfl,rfl,_,rfl, ?_⟩
    by_cases w1:u.1=g
    ·refine iY (fun _=> ?_) (fun z=>absurd (decide_eq_true (by rw [w1])) z)
     refine ⟨_,rfl,_,_,_,_,rfl,rfl,bZ.of ht8,rfl,_,rfl,_,_,_,_,rfl,rfl,bZ.of e8,rfl,rfl,_,rfl, ?_⟩
     by_cases w2:u.2.2.1=q
     ·refine iY (fun _=> ?_) (fun z=>absurd (decide_eq_true (by rw [w2])) z)
      exact ⟨_,rfl,kF _ _ YJ (Same.refl _) (if_pos (by simp [w1,w2])) (jw ht8)⟩
     ·refine iY (fun z=>absurd (of_decide_eq_true z) (fun e=>w2 (by injection e))) (fun _=>kG YJ (Same.refl _) (if_neg (by simp [w2])))
    ·refine iY (fun z=>absurd (of_decide_eq_true z) (fun e=>w1 (by injection e))) (fun _=> ?_)
     exact eX (kG YJ (Same.refl _) (if_neg (by simp [w1])))
   rw [YS,←List.length_map (f:=fun y=>(fW ws y).1) (as:=bF ws),Dw nD,List.filter_map] at Wn;generalize hY:(bF ws).filter ((fun u:Nt=>decide (u.1=g)&&decide (u.2.2.1=q))∘fun y=>(fW ws y).1)=Y at Wn
   have Yfr:∀z∈Y,z∈u0 ws g q:=fun z hz=>by
    rw [←hY] at hz;obtain ⟨z1,z2⟩:=List.mem_filter.mp hz;simp only [Function.comp,Bool.and_eq_true,decide_eq_true_eq] at z2;have:=(cC KR).mp z1;rw [show hnd ws z.2.1=g from z2.1,show hnd ws z.2.2=q from z2.2] at this;exact this
   have Ynd:Y.Nodup:=by rw [←hY];exact nZ.filter _
   have adR:y∈Y:=by
    rw [←hY];refine List.mem_filter.mpr ⟨hy, ?_⟩;simp only [Function.comp,Bool.and_eq_true,decide_eq_true_eq];exact ⟨hg,hq⟩
   have Yl:Y.length<=20000:=by
    rw [←hY];have:=List.length_filter_le ((fun u:Nt=>decide (u.1=g)&&decide (u.2.2.1=q))∘fun y=>(fW ws y).1) (bF ws);omega
   have Yp:0<Y.length:=List.length_pos_of_mem adR;have yvl:yv.length=Y.length:=by rw [Wn.length,List.length_map,List.length_map]
   have YF:=Tn.same S9;have V_:=S9 _ _ RT;have nDr:D≠r:=Tn.sp.ne hD
   have nhr:hh≠r:=by
    obtain ⟨_,_,_,er,_⟩:=Tn.sp;exact fM RT er (by intro z;cases z)
   clear Tn huv duv RT S9 hD hY;refine ⟨_,rfl,_,rfl,D,_,rfl,.inl (aV.of e18),r,_,rfl,YF.sp,by omega,by omega,fun bz YH b0 b1' S19 KY=> ?_⟩;obtain ⟨b,rfl⟩:=Int.eq_ofNat_of_zero_le b0;have e19:=KY _ _ e18 nDr;have d19:=aC.keep (YF.sp.tups KY) _ (aQ _ fH _) Wn;have t19:=KY _ _ V_ nhr;have I19:=YF.Lf KY S19;clear YF e18 Wn KY S19 V_;refine ⟨_,rfl,_,rfl,_,rfl,D,yv,rfl,aV.of e19,fun q1 hq1=> ?_⟩;rw [show gq yv (some (b:Int)) none=yv.drop b from tE yv b];have u1:=aB (o:=HO.lst (yv.drop b)) hq1;refine ⟨_,rfl,_,rfl,_,rfl,D,yv,rfl,aV.of (u1 _ _ e19),fun q2 hq2=> ?_⟩;rw [show gq yv none (some (b:Int))=yv.take b from oA yv b];have u2:=aB (o:=HO.lst (yv.take b)) hq2;refine ⟨q1,q2,_,_,rfl,rfl,u2 _ _ ak,ak,by rw [sizeLine_eq,List.length_drop,List.length_take];omega,fun q3 Yb=> ?_⟩;have u3:=aB (o:=HO.lst (yv.drop b++yv.take b)) Yb;refine ⟨_,rfl,q3,_,rfl,aV.of ak,fun q4 M5=> ?_⟩;rw [show gq (yv.drop b++yv.take b) none (some (12:Int))=(yv.drop b++yv.take b).take 12 from oA _ 12];have u4:=aB (o:=HO.lst ((yv.drop b++yv.take b).take 12)) M5;have Tt:=((u1.trans u2).trans u3).trans u4
   have dq:aC (upd (upd (upd (upd YH q1 (HO.lst (yv.drop b))) q2 (HO.lst (yv.take b))) q3 (HO.lst (yv.drop b++yv.take b))) q4 (HO.lst ((yv.drop b++yv.take b).take 12))) ((yv.drop b++yv.take b).take 12) ((((Y.drop b++Y.take b).take 12).map fun y=>(fW ws y).1).map nD):=by
    have:=aC.keep Tt.tups _ (aQ _ fH _) d19;rw [List.map_take,List.map_take,List.map_append,List.map_append,List.map_drop,List.map_drop,List.map_take,List.map_take];exact (aC.append (this.drop b) (this.take b)).take 12
   obtain ⟨Zn,Zm⟩:=M8 Ynd b 12
   have Zl:0<((Y.drop b++Y.take b).take 12).length/\((Y.drop b++Y.take b).take 12).length<=12:=by
    rw [List.length_take,List.length_append,List.length_drop,List.length_take];omega
   have V9:(upd (upd (upd (upd YH q1 (HO.lst (yv.drop b))) q2 (HO.lst (yv.take b))) q3 (HO.lst (yv.drop b++yv.take b))) q4 (HO.lst ((yv.drop b++yv.take b).take 12))) q4=some (.lst ((yv.drop b++yv.take b).take 12)):=ak;have N23:bT (upd (upd (upd (upd YH q1 (HO.lst (yv.drop b))) q2 (HO.lst (yv.take b))) q3 (HO.lst (yv.drop b++yv.take b))) q4 (HO.lst ((yv.drop b++yv.take b).take 12))) q4 (((Y.drop b++Y.take b).take 12).map fun y=>(fW ws y).1):=⟨_,ak,dq⟩;generalize (upd (upd (upd (upd YH q1 (HO.lst (yv.drop b))) q2 (HO.lst (yv.take b))) q3 (HO.lst (yv.drop b++yv.take b))) q4 (HO.lst ((yv.drop b++yv.take b).take 12)))=H23 at Tt V9 N23 dq u4 ⊢;generalize (Y.drop b++Y.take b).take 12=Z at N23 dq Zn Zm Zl;generalize (yv.drop b++yv.take b).take 12=zv at V9 dq;have zvl:zv.length=Z.length:=by rw [dq.length,List.length_map,List.length_map]
   have Xi:=I19.same Tt;have t23:=Tt _ _ t19;have nq4:q4≠r:=((I19.sp.keep ((u1.trans u2).trans u3))).ne M5;clear u1 u2 u3 u4 hq1 hq2 Yb M5 e19 d19 t19 I19 dq Tt;refine ⟨_,rfl,_,rfl,_,rfl,_,rfl,_,rfl,_,rfl,q4,_,rfl,.inl (aV.of V9),_,_,rfl,rfl,r,c,hh,ws,g,q,_,rfl,Xi.sp,Xi.cs,Xi.ne.2.2.1,len,t23,U4,⟨y.2.1,b1,hg⟩,⟨y.2.2,b2,hq⟩,by omega,by omega,fun pf fs H24 hpf N24 fl fst S24 Rp=> ?_⟩;have I24:=Xi.Lf Rp S24;have ad0:=N23.vL Xi.sp Rp nq4;obtain ⟨y0,hy0,un⟩:=Ez Zn (fun z hz=>Yfr z (Zm z hz)) fst (by omega);refine ⟨l,q4,pf,ws,_,fs,rfl,I24.hd,len,ad0,by rw [List.length_map];omega,N24,by omega,fun u hu=> ?_,fst,⟨wN ws y0.2,List.mem_map.mpr ⟨y0,hy0,rfl⟩,un⟩,fun H25 Xu=>⟨_,rfl,eX ?_⟩⟩
   ·obtain ⟨z,hz,rfl⟩:=List.mem_map.mp hu
    exact (nu (cM (Yfr z (Zm z hz))).1).2
   exact ⟨_,_,_,_,_,rfl,I24.same Xu⟩
  ·rintro σ YK ⟨x1,x2,x3,x4,x5,rfl,I⟩
   obtain ⟨l6,Gr,Nh⟩:=id I.hd;obtain ⟨w6,Td,YC⟩:=id I.web;refine ⟨_,rfl,_,rfl,_,_,jD Gr Nh,jD Td YC,jO ok,jO ok, ?_⟩;rw [if_neg Bool.false_ne_true,sU tD JT,decide_eq_true rfl];exact k YK
end
theorem len0 {us:List Value} (h:us.length=0):us=[]:=List.eq_nil_of_length_eq_zero h
theorem bY {us:List Value} {n:Nat} (h:us.length=n+1):∃a vs,us=a::vs/\vs.length=n:=by
 cases us with
 | nil=>cases h
 | cons a t=>exact ⟨a,t,rfl,Nat.succ.inj h⟩
theorem Bx (kV doc pm:Value) (an:Option Addr) (cdv ct:Value) (us:List Value) (hl:us.length=(["script"]:List Str).length):bindArgs (PySem.W.fnOf "_law_spring" "_law_spring" (aH d_) (aF d_) (ao d_) .none kV doc pm an cdv ct) ⟨us,[]⟩=pure ((["script"]:List Str).zip us):=by obtain ⟨_,_,rfl,h1⟩:=bY hl;cases len0 h1;rfl
theorem Km (kV doc pm:Value) (an:Option Addr) (cdv ct:Value) (us:List Value) (hl:us.length=(["spring","many"]:List Str).length):bindArgs (PySem.W.fnOf "_law_draw" "_law_draw" (aH iT) (aF iT) (ao iT) .none kV doc pm an cdv ct) ⟨us,[]⟩=pure ((["spring","many"]:List Str).zip us):=by obtain ⟨_,_,rfl,h1⟩:=bY hl;obtain ⟨_,_,rfl,h2⟩:=bY h1;cases len0 h2;rfl
theorem Nu (kV doc pm:Value) (an:Option Addr) (cdv ct:Value) (us:List Value) (hl:us.length=(["spring","most"]:List Str).length):bindArgs (PySem.W.fnOf "_law_web" "_law_web" (aH jQ) (aF jQ) (ao jQ) .none kV doc pm an cdv ct) ⟨us,[]⟩=pure ((["spring","most"]:List Str).zip us):=by obtain ⟨_,_,rfl,h1⟩:=bY hl;obtain ⟨_,_,rfl,h2⟩:=bY h1;cases len0 h2;rfl
theorem Kg (kV doc pm:Value) (an:Option Addr) (cdv ct:Value) (us:List Value) (hl:us.length=(["web"]:List Str).length):bindArgs (PySem.W.fnOf "names" "names" (aH iM) (aF iM) (ao iM) .none kV doc pm an cdv ct) ⟨us,[]⟩=pure ((["web"]:List Str).zip us):=by obtain ⟨_,_,rfl,h1⟩:=bY hl;cases len0 h1;rfl
theorem qw (kV doc pm:Value) (an:Option Addr) (cdv ct:Value) (us:List Value) (hl:us.length=(["one","other"]:List Str).length):bindArgs (PySem.W.fnOf "touches_meet" "touches_meet" (aH bL) (aF bL) (ao bL) .none kV doc pm an cdv ct) ⟨us,[]⟩=pure ((["one","other"]:List Str).zip us):=by obtain ⟨_,_,rfl,h1⟩:=bY hl;obtain ⟨_,_,rfl,h2⟩:=bY h1;cases len0 h2;rfl
theorem zO (kV doc pm:Value) (an:Option Addr) (cdv ct:Value) (us:List Value) (hl:us.length=(["value"]:List Str).length):bindArgs (PySem.W.fnOf "is_whole" "is_whole" (aH cW) (aF cW) (ao cW) .none kV doc pm an cdv ct) ⟨us,[]⟩=pure ((["value"]:List Str).zip us):=by obtain ⟨_,_,rfl,h1⟩:=bY hl;cases len0 h1;rfl
theorem Bw (kV doc pm:Value) (an:Option Addr) (cdv ct:Value) (us:List Value) (hl:us.length=(["value"]:List Str).length):bindArgs (PySem.W.fnOf "is_note" "is_note" (aH d9) (aF d9) (ao d9) .none kV doc pm an cdv ct) ⟨us,[]⟩=pure ((["value"]:List Str).zip us):=by obtain ⟨_,_,rfl,h1⟩:=bY hl;cases len0 h1;rfl
theorem wY (kV doc pm:Value) (an:Option Addr) (cdv ct:Value) (us:List Value) (hl:us.length=(["web"]:List Str).length):bindArgs (PySem.W.fnOf "places_of" "places_of" (aH cH) (aF cH) (ao cH) .none kV doc pm an cdv ct) ⟨us,[]⟩=pure ((["web"]:List Str).zip us):=by obtain ⟨_,_,rfl,h1⟩:=bY hl;cases len0 h1;rfl
theorem wZ (kV doc pm:Value) (an:Option Addr) (cdv ct:Value) (us:List Value) (hl:us.length=(["places","note"]:List Str).length):bindArgs (PySem.W.fnOf "is_strict" "is_strict" (aH cI) (aF cI) (ao cI) .none kV doc pm an cdv ct) ⟨us,[]⟩=pure ((["places","note"]:List Str).zip us):=by obtain ⟨_,_,rfl,h1⟩:=bY hl;obtain ⟨_,_,rfl,h2⟩:=bY h1;cases len0 h2;rfl
theorem Bv (kV doc pm:Value) (an:Option Addr) (cdv ct:Value) (us:List Value) (hl:us.length=(["web","places","note"]:List Str).length):bindArgs (PySem.W.fnOf "is_want" "is_want" (aH d8) (aF d8) (ao d8) .none kV doc pm an cdv ct) ⟨us,[]⟩=pure ((["web","places","note"]:List Str).zip us):=by obtain ⟨_,_,rfl,h1⟩:=bY hl;obtain ⟨_,_,rfl,h2⟩:=bY h1;obtain ⟨_,_,rfl,h3⟩:=bY h2;cases len0 h3;rfl
theorem zP (kV doc pm:Value) (an:Option Addr) (cdv ct:Value) (us:List Value) (hl:us.length=(["note"]:List Str).length):bindArgs (PySem.W.fnOf "hands_of" "hands_of" (aH cX) (aF cX) (ao cX) .none kV doc pm an cdv ct) ⟨us,[]⟩=pure ((["note"]:List Str).zip us):=by obtain ⟨_,_,rfl,h1⟩:=bY hl;cases len0 h1;rfl
theorem Kh (kV doc pm:Value) (an:Option Addr) (cdv ct:Value) (us:List Value) (hl:us.length=(["note","want"]:List Str).length):bindArgs (PySem.W.fnOf "meets" "meets" (aH iQ) (aF iQ) (ao iQ) .none kV doc pm an cdv ct) ⟨us,[]⟩=pure ((["note","want"]:List Str).zip us):=by obtain ⟨_,_,rfl,h1⟩:=bY hl;obtain ⟨_,_,rfl,h2⟩:=bY h1;cases len0 h2;rfl
theorem oE (kV doc pm:Value) (an:Option Addr) (cdv ct:Value) (us:List Value) (hl:us.length=(["web"]:List Str).length):bindArgs (PySem.W.fnOf "wants_by_hands" "wants_by_hands" (aH bD) (aF bD) (ao bD) .none kV doc pm an cdv ct) ⟨us,[]⟩=pure ((["web"]:List Str).zip us):=by obtain ⟨_,_,rfl,h1⟩:=bY hl;cases len0 h1;rfl
theorem zN (kV doc pm:Value) (an:Option Addr) (cdv ct:Value) (us:List Value) (hl:us.length=(["web","places","want"]:List Str).length):bindArgs (PySem.W.fnOf "note_for" "note_for" (aH cV) (aF cV) (ao cV) .none kV doc pm an cdv ct) ⟨us,[]⟩=pure ((["web","places","want"]:List Str).zip us):=by obtain ⟨_,_,rfl,h1⟩:=bY hl;obtain ⟨_,_,rfl,h2⟩:=bY h1;obtain ⟨_,_,rfl,h3⟩:=bY h2;cases len0 h3;rfl
theorem lV (kV doc pm:Value) (an:Option Addr) (cdv ct:Value) (us:List Value) (hl:us.length=(["web"]:List Str).length):bindArgs (PySem.W.fnOf "wants_with_notes" "wants_with_notes" (aH aZ) (aF aZ) (ao aZ) .none kV doc pm an cdv ct) ⟨us,[]⟩=pure ((["web"]:List Str).zip us):=by obtain ⟨_,_,rfl,h1⟩:=bY hl;cases len0 h1;rfl
theorem qz (kV doc pm:Value) (an:Option Addr) (cdv ct:Value) (us:List Value) (hl:us.length=(["web"]:List Str).length):bindArgs (PySem.W.fnOf "strict_notes" "strict_notes" (aH bM) (aF bM) (ao bM) .none kV doc pm an cdv ct) ⟨us,[]⟩=pure ((["web"]:List Str).zip us):=by obtain ⟨_,_,rfl,h1⟩:=bY hl;cases len0 h1;rfl
theorem tR (kV doc pm:Value) (an:Option Addr) (cdv ct:Value) (us:List Value) (hl:us.length=(["web"]:List Str).length):bindArgs (PySem.W.fnOf "wants_apart" "wants_apart" (aH bV) (aF bV) (ao bV) .none kV doc pm an cdv ct) ⟨us,[]⟩=pure ((["web"]:List Str).zip us):=by obtain ⟨_,_,rfl,h1⟩:=bY hl;cases len0 h1;rfl
theorem tU (kV doc pm:Value) (an:Option Addr) (cdv ct:Value) (us:List Value) (hl:us.length=(["web","wants"]:List Str).length):bindArgs (PySem.W.fnOf "apart_shows" "apart_shows" (aH bK) (aF bK) (ao bK) .none kV doc pm an cdv ct) ⟨us,[]⟩=pure ((["web","wants"]:List Str).zip us):=by obtain ⟨_,_,rfl,h1⟩:=bY hl;obtain ⟨_,_,rfl,h2⟩:=bY h1;cases len0 h2;rfl
theorem qC (kV doc pm:Value) (an:Option Addr) (cdv ct:Value) (us:List Value) (hl:us.length=(["places","some"]:List Str).length):bindArgs (PySem.W.fnOf "check_strict" "check_strict" (aH bN) (aF bN) (ao bN) .none kV doc pm an cdv ct) ⟨us,[]⟩=pure ((["places","some"]:List Str).zip us):=by obtain ⟨_,_,rfl,h1⟩:=bY hl;obtain ⟨_,_,rfl,h2⟩:=bY h1;cases len0 h2;rfl
theorem uy (kV doc pm:Value) (an:Option Addr) (cdv ct:Value) (us:List Value) (hl:us.length=(["web","note","want"]:List Str).length):bindArgs (PySem.W.fnOf "meets_want" "meets_want" (aH cA) (aF cA) (ao cA) .none kV doc pm an cdv ct) ⟨us,[]⟩=pure ((["web","note","want"]:List Str).zip us):=by obtain ⟨_,_,rfl,h1⟩:=bY hl;obtain ⟨_,_,rfl,h2⟩:=bY h1;obtain ⟨_,_,rfl,h3⟩:=bY h2;cases len0 h3;rfl
theorem Gg (kV doc pm:Value) (an:Option Addr) (cdv ct:Value) (us:List Value) (hl:us.length=(["web"]:List Str).length):bindArgs (PySem.W.fnOf "_law_calls" "_law_calls" (aH fV) (aF fV) (ao fV) .none kV doc pm an cdv ct) ⟨us,[]⟩=pure ((["web"]:List Str).zip us):=by obtain ⟨_,_,rfl,h1⟩:=bY hl;cases len0 h1;rfl
theorem Ge (kV doc pm:Value) (an:Option Addr) (cdv ct:Value) (us:List Value) (hl:us.length=(["one","other"]:List Str).length):bindArgs (PySem.W.fnOf "_law_meets" "_law_meets" (aH fQ) (aF fQ) (ao fQ) .none kV doc pm an cdv ct) ⟨us,[]⟩=pure ((["one","other"]:List Str).zip us):=by obtain ⟨_,_,rfl,h1⟩:=bY hl;obtain ⟨_,_,rfl,h2⟩:=bY h1;cases len0 h2;rfl
theorem Kl (kV doc pm:Value) (an:Option Addr) (cdv ct:Value) (us:List Value) (hl:us.length=(["calls","note"]:List Str).length):bindArgs (PySem.W.fnOf "_law_ends" "_law_ends" (aH iR) (aF iR) (ao iR) .none kV doc pm an cdv ct) ⟨us,[]⟩=pure ((["calls","note"]:List Str).zip us):=by obtain ⟨_,_,rfl,h1⟩:=bY hl;obtain ⟨_,_,rfl,h2⟩:=bY h1;cases len0 h2;rfl
theorem zQ (kV doc pm:Value) (an:Option Addr) (cdv ct:Value) (us:List Value) (hl:us.length=(["web","calls","note"]:List Str).length):bindArgs (PySem.W.fnOf "_law_is_want" "_law_is_want" (aH cY) (aF cY) (ao cY) .none kV doc pm an cdv ct) ⟨us,[]⟩=pure ((["web","calls","note"]:List Str).zip us):=by obtain ⟨_,_,rfl,h1⟩:=bY hl;obtain ⟨_,_,rfl,h2⟩:=bY h1;obtain ⟨_,_,rfl,h3⟩:=bY h2;cases len0 h3;rfl
theorem zR (kV doc pm:Value) (an:Option Addr) (cdv ct:Value) (us:List Value) (hl:us.length=(["web","calls","told"]:List Str).length):bindArgs (PySem.W.fnOf "_law_all_met" "_law_all_met" (aH cZ) (aF cZ) (ao cZ) .none kV doc pm an cdv ct) ⟨us,[]⟩=pure ((["web","calls","told"]:List Str).zip us):=by obtain ⟨_,_,rfl,h1⟩:=bY hl;obtain ⟨_,_,rfl,h2⟩:=bY h1;obtain ⟨_,_,rfl,h3⟩:=bY h2;cases len0 h3;rfl
theorem BJ (kV doc pm:Value) (an:Option Addr) (cdv ct:Value) (us:List Value) (hl:us.length=(["some"]:List Str).length):bindArgs (PySem.W.fnOf "_law_counts" "_law_counts" (aH eE) (aF eE) (ao eE) .none kV doc pm an cdv ct) ⟨us,[]⟩=pure ((["some"]:List Str).zip us):=by obtain ⟨_,_,rfl,h1⟩:=bY hl;cases len0 h1;rfl
theorem Gf (kV doc pm:Value) (an:Option Addr) (cdv ct:Value) (us:List Value) (hl:us.length=(["spring","calls","hands","many"]:List Str).length):bindArgs (PySem.W.fnOf "_law_fewer" "_law_fewer" (aH fU) (aF fU) (ao fU) .none kV doc pm an cdv ct) ⟨us,[]⟩=pure ((["spring","calls","hands","many"]:List Str).zip us):=by obtain ⟨_,_,rfl,h1⟩:=bY hl;obtain ⟨_,_,rfl,h2⟩:=bY h1;obtain ⟨_,_,rfl,h3⟩:=bY h2;obtain ⟨_,_,rfl,h4⟩:=bY h3;cases len0 h4;rfl
theorem uz (kV doc pm:Value) (an:Option Addr) (cdv ct:Value) (us:List Value) (hl:us.length=(["web","wants","some"]:List Str).length):bindArgs (PySem.W.fnOf "_law_one_unmet" "_law_one_unmet" (aH cB) (aF cB) (ao cB) .none kV doc pm an cdv ct) ⟨us,[]⟩=pure ((["web","wants","some"]:List Str).zip us):=by obtain ⟨_,_,rfl,h1⟩:=bY hl;obtain ⟨_,_,rfl,h2⟩:=bY h1;obtain ⟨_,_,rfl,h3⟩:=bY h2;cases len0 h3;rfl
theorem all_mk {l:PySem.W.OpenLaw} {w:World} {K:PySem.W.Frag} {h:Heap} {mg:Str->Option Value} {fa p p2 f0 f1 f2 f3 f4 f5 f6 f7 f8 f9 Yz f11 Yy Yx Yw Yv Yu Yt Ys Yr Yq Yo Yn Ym Yk Yj Yi Yh f28 R6 R5:Addr} (X:K.In h) (G:h.Ns mainGlobals mg) (hfa:mg "law" = some (.ref fa))
 {od0 an0 od1 an1 od2 an2 od3 an3 od4 an4 od5 an5 od6 an6 od7 an7 od8 an8 od9 an9 aaB adP aaA adO aaz adN aay adM aax adL aaw adK aav adJ aau adI aat adH aas adG aar adF aaq adE aap adD aao adC aan adB aam adA aal adz aak ady aaj W9:Option Addr} {sl0 sl1 sl2 sl3 sl4 sl5 sl6 sl7 sl8 sl9 Zx Zw Zv Zu Zt Zr Zq Zo Zk Zj Zi Zh Zg Zf Ze Zd Zc Zb Za:Array (Option Value)} {oc0 kV0 dc0 pm0 cd0 ct0 oc1 kV1 dc1 pm1 cd1 ct1 oc2 kV2 dc2 Xz cd2 ct2 oc3 kV3 dc3 pm3 cd3 ct3 oc4 kV4 dc4 pm4 cd4 ct4 oc5 kV5 dc5 pm5 cd5 ct5 oc6 kV6 dc6 pm6 cd6 ct6 oc7 kV7 dc7 pm7 cd7 ct7 oc8 kV8 dc8 pm8 cd8 ct8 oc9 kV9 dc9 pm9 cd9 ct9 aaU abO acS aag WX ac' aaT abN acR aaf WT ac_ aaS abM acQ aae WR ac9 aaR abL acP aad WQ ac8 aaQ abK acO aac ac7 aaP abJ acN Z_ WM ac6 aaO abI acM Z9 WL ac5 aaN abH acL Z8 ac4 aaM abG acK Z7 WK ac3 aaL abF acJ Z6 Wz ac2 aaK abE acI Z5 Wy ac1 aaJ abD acH Z4 Wx ac0 aaI abC acG Z2 Ww acZ aaH abB acF Z1 Wv acY aaG abA acE Z0 Wu acX aaF abz acD ZX Wt acW aaE aby acC ZW Ws acV aaD abx acB ZV Wr acU aaC Vj Wm Ux R4 Wo:Value}
 (a0:PySem.W.nsIn K mainGlobals "_law_spring" = some (some (.ref f0))) (l0:K.lookup f0=some ⟨oc0,od0,.func (PySem.W.fnOf "_law_spring" "_law_spring" (aH d_) (aF d_) (ao d_) .none kV0 dc0 pm0 an0 cd0 ct0),sl0⟩) (c0:PySem.W.codeIn K cd0 "_law_spring" = true) (k0:PySem.W.keepIn K (.ref f0)=true)
 (a1:PySem.W.nsIn K mainGlobals "_law_draw" = some (some (.ref f1))) (l1:K.lookup f1=some ⟨oc1,od1,.func (PySem.W.fnOf "_law_draw" "_law_draw" (aH iT) (aF iT) (ao iT) .none kV1 dc1 pm1 an1 cd1 ct1),sl1⟩) (c1:PySem.W.codeIn K cd1 "_law_draw" = true) (k1:PySem.W.keepIn K (.ref f1)=true)
 (a2:PySem.W.nsIn K mainGlobals "_law_web" = some (some (.ref f2))) (l2:K.lookup f2=some ⟨oc2,od2,.func (PySem.W.fnOf "_law_web" "_law_web" (aH jQ) (aF jQ) (ao jQ) .none kV2 dc2 Xz an2 cd2 ct2),sl2⟩) (c2:PySem.W.codeIn K cd2 "_law_web" = true) (k2:PySem.W.keepIn K (.ref f2)=true)
 (a3:PySem.W.nsIn K mainGlobals "names" = some (some (.ref f3))) (l3:K.lookup f3=some ⟨oc3,od3,.func (PySem.W.fnOf "names" "names" (aH iM) (aF iM) (ao iM) .none kV3 dc3 pm3 an3 cd3 ct3),sl3⟩) (c3:PySem.W.codeIn K cd3 "names" = true) (k3:PySem.W.keepIn K (.ref f3)=true)
 (a4:PySem.W.nsIn K mainGlobals "touches_meet" = some (some (.ref f4))) (l4:K.lookup f4=some ⟨oc4,od4,.func (PySem.W.fnOf "touches_meet" "touches_meet" (aH bL) (aF bL) (ao bL) .none kV4 dc4 pm4 an4 cd4 ct4),sl4⟩) (c4:PySem.W.codeIn K cd4 "touches_meet" = true) (k4:PySem.W.keepIn K (.ref f4)=true)
 (a5:PySem.W.nsIn K mainGlobals "is_whole" = some (some (.ref f5))) (l5:K.lookup f5=some ⟨oc5,od5,.func (PySem.W.fnOf "is_whole" "is_whole" (aH cW) (aF cW) (ao cW) .none kV5 dc5 pm5 an5 cd5 ct5),sl5⟩) (c5:PySem.W.codeIn K cd5 "is_whole" = true) (k5:PySem.W.keepIn K (.ref f5)=true)
 (a6:PySem.W.nsIn K mainGlobals "is_note" = some (some (.ref f6))) (l6:K.lookup f6=some ⟨oc6,od6,.func (PySem.W.fnOf "is_note" "is_note" (aH d9) (aF d9) (ao d9) .none kV6 dc6 pm6 an6 cd6 ct6),sl6⟩) (c6:PySem.W.codeIn K cd6 "is_note" = true) (k6:PySem.W.keepIn K (.ref f6)=true)
 (a7:PySem.W.nsIn K mainGlobals "places_of" = some (some (.ref f7))) (l7:K.lookup f7=some ⟨oc7,od7,.func (PySem.W.fnOf "places_of" "places_of" (aH cH) (aF cH) (ao cH) .none kV7 dc7 pm7 an7 cd7 ct7),sl7⟩) (c7:PySem.W.codeIn K cd7 "places_of" = true) (k7:PySem.W.keepIn K (.ref f7)=true)
 (a8:PySem.W.nsIn K mainGlobals "is_strict" = some (some (.ref f8))) (l8:K.lookup f8=some ⟨oc8,od8,.func (PySem.W.fnOf "is_strict" "is_strict" (aH cI) (aF cI) (ao cI) .none kV8 dc8 pm8 an8 cd8 ct8),sl8⟩) (c8:PySem.W.codeIn K cd8 "is_strict" = true) (k8:PySem.W.keepIn K (.ref f8)=true)
 (a9:PySem.W.nsIn K mainGlobals "is_want" = some (some (.ref f9))) (l9:K.lookup f9=some ⟨oc9,od9,.func (PySem.W.fnOf "is_want" "is_want" (aH d8) (aF d8) (ao d8) .none kV9 dc9 pm9 an9 cd9 ct9),sl9⟩) (c9:PySem.W.codeIn K cd9 "is_want" = true) (k9:PySem.W.keepIn K (.ref f9)=true)
 (a10:PySem.W.nsIn K mainGlobals "hands_of" = some (some (.ref Yz))) (l10:K.lookup Yz=some ⟨aaU,aaB,.func (PySem.W.fnOf "hands_of" "hands_of" (aH cX) (aF cX) (ao cX) .none abO acS aag adP WX ac'),Zx⟩) (c10:PySem.W.codeIn K WX "hands_of" = true) (k10:PySem.W.keepIn K (.ref Yz)=true)
 (a11:PySem.W.nsIn K mainGlobals "meets" = some (some (.ref f11))) (l11:K.lookup f11=some ⟨aaT,aaA,.func (PySem.W.fnOf "meets" "meets" (aH iQ) (aF iQ) (ao iQ) .none abN acR aaf adO WT ac_),Zw⟩) (c11:PySem.W.codeIn K WT "meets" = true) (k11:PySem.W.keepIn K (.ref f11)=true)
 (a12:PySem.W.nsIn K mainGlobals "wants_by_hands" = some (some (.ref Yy))) (l12:K.lookup Yy=some ⟨aaS,aaz,.func (PySem.W.fnOf "wants_by_hands" "wants_by_hands" (aH bD) (aF bD) (ao bD) .none abM acQ aae adN WR ac9),Zv⟩) (c12:PySem.W.codeIn K WR "wants_by_hands" = true) (k12:PySem.W.keepIn K (.ref Yy)=true)
 (a13:PySem.W.nsIn K mainGlobals "note_for" = some (some (.ref Yx))) (l13:K.lookup Yx=some ⟨aaR,aay,.func (PySem.W.fnOf "note_for" "note_for" (aH cV) (aF cV) (ao cV) .none abL acP aad adM WQ ac8),Zu⟩) (c13:PySem.W.codeIn K WQ "note_for" = true) (k13:PySem.W.keepIn K (.ref Yx)=true)
 (a14:PySem.W.nsIn K mainGlobals "wants_with_notes" = some (some (.ref Yw))) (l14:K.lookup Yw=some ⟨aaQ,aax,.func (PySem.W.fnOf "wants_with_notes" "wants_with_notes" (aH aZ) (aF aZ) (ao aZ) .none abK acO aac adL (.ref R6) ac7),Zt⟩) (c14:PySem.W.codeIn K (.ref R6) "wants_with_notes" = true) (k14:PySem.W.keepIn K (.ref Yw)=true) (h14:PySem.W.codeHdIn K R6 p=true) (hkp:K.lookup p=none)
 (a15:PySem.W.nsIn K mainGlobals "strict_notes" = some (some (.ref Yv))) (l15:K.lookup Yv=some ⟨aaP,aaw,.func (PySem.W.fnOf "strict_notes" "strict_notes" (aH bM) (aF bM) (ao bM) .none abJ acN Z_ adK WM ac6),Zr⟩) (c15:PySem.W.codeIn K WM "strict_notes" = true) (X_:PySem.W.keepIn K (.ref Yv)=true)
 (a16:PySem.W.nsIn K mainGlobals "wants_apart" = some (some (.ref Yu))) (l16:K.lookup Yu=some ⟨aaO,aav,.func (PySem.W.fnOf "wants_apart" "wants_apart" (aH bV) (aF bV) (ao bV) .none abI acM Z9 adJ WL ac5),Zq⟩) (c16:PySem.W.codeIn K WL "wants_apart" = true) (Rq:PySem.W.keepIn K (.ref Yu)=true)
 (a17:PySem.W.nsIn K mainGlobals "apart_shows" = some (some (.ref Yt))) (l17:K.lookup Yt=some ⟨aaN,aau,.func (PySem.W.fnOf "apart_shows" "apart_shows" (aH bK) (aF bK) (ao bK) .none abH acL Z8 adI (.ref R5) ac4),Zo⟩) (c17:PySem.W.codeIn K (.ref R5) "apart_shows" = true) (X8:PySem.W.keepIn K (.ref Yt)=true) (Ye:PySem.W.codeHdIn K R5 p2=true) (RB:K.lookup p2=none)
 (a18:PySem.W.nsIn K mainGlobals "check_strict" = some (some (.ref Ys))) (l18:K.lookup Ys=some ⟨aaM,aat,.func (PySem.W.fnOf "check_strict" "check_strict" (aH bN) (aF bN) (ao bN) .none abG acK Z7 adH WK ac3),Zk⟩) (c18:PySem.W.codeIn K WK "check_strict" = true) (X7:PySem.W.keepIn K (.ref Ys)=true)
 (a19:PySem.W.nsIn K mainGlobals "meets_want" = some (some (.ref Yr))) (l19:K.lookup Yr=some ⟨aaL,aas,.func (PySem.W.fnOf "meets_want" "meets_want" (aH cA) (aF cA) (ao cA) .none abF acJ Z6 adG Wz ac2),Zj⟩) (c19:PySem.W.codeIn K Wz "meets_want" = true) (KY:PySem.W.keepIn K (.ref Yr)=true)
 (a20:PySem.W.nsIn K mainGlobals "_law_calls" = some (some (.ref Yq))) (l20:K.lookup Yq=some ⟨aaK,aar,.func (PySem.W.fnOf "_law_calls" "_law_calls" (aH fV) (aF fV) (ao fV) .none abE acI Z5 adF Wy ac1),Zi⟩) (c20:PySem.W.codeIn K Wy "_law_calls" = true) (X6:PySem.W.keepIn K (.ref Yq)=true)
 (a21:PySem.W.nsIn K mainGlobals "_law_meets" = some (some (.ref Yo))) (l21:K.lookup Yo=some ⟨aaJ,aaq,.func (PySem.W.fnOf "_law_meets" "_law_meets" (aH fQ) (aF fQ) (ao fQ) .none abD acH Z4 adE Wx ac0),Zh⟩) (c21:PySem.W.codeIn K Wx "_law_meets" = true) (X5:PySem.W.keepIn K (.ref Yo)=true)
 (a22:PySem.W.nsIn K mainGlobals "_law_ends" = some (some (.ref Yn))) (l22:K.lookup Yn=some ⟨aaI,aap,.func (PySem.W.fnOf "_law_ends" "_law_ends" (aH iR) (aF iR) (ao iR) .none abC acG Z2 adD Ww acZ),Zg⟩) (c22:PySem.W.codeIn K Ww "_law_ends" = true) (X4:PySem.W.keepIn K (.ref Yn)=true)
 (a23:PySem.W.nsIn K mainGlobals "_law_is_want" = some (some (.ref Ym))) (l23:K.lookup Ym=some ⟨aaH,aao,.func (PySem.W.fnOf "_law_is_want" "_law_is_want" (aH cY) (aF cY) (ao cY) .none abB acF Z1 adC Wv acY),Zf⟩) (c23:PySem.W.codeIn K Wv "_law_is_want" = true) (X3:PySem.W.keepIn K (.ref Ym)=true)
 (a24:PySem.W.nsIn K mainGlobals "_law_all_met" = some (some (.ref Yk))) (l24:K.lookup Yk=some ⟨aaG,aan,.func (PySem.W.fnOf "_law_all_met" "_law_all_met" (aH cZ) (aF cZ) (ao cZ) .none abA acE Z0 adB Wu acX),Ze⟩) (c24:PySem.W.codeIn K Wu "_law_all_met" = true) (Rp:PySem.W.keepIn K (.ref Yk)=true)
 (a25:PySem.W.nsIn K mainGlobals "_law_counts" = some (some (.ref Yj))) (l25:K.lookup Yj=some ⟨aaF,aam,.func (PySem.W.fnOf "_law_counts" "_law_counts" (aH eE) (aF eE) (ao eE) .none abz acD ZX adA Wt acW),Zd⟩) (c25:PySem.W.codeIn K Wt "_law_counts" = true) (XS:PySem.W.keepIn K (.ref Yj)=true)
 (a26:PySem.W.nsIn K mainGlobals "_law_fewer" = some (some (.ref Yi))) (l26:K.lookup Yi=some ⟨aaE,aal,.func (PySem.W.fnOf "_law_fewer" "_law_fewer" (aH fU) (aF fU) (ao fU) .none aby acC ZW adz Ws acV),Zc⟩) (c26:PySem.W.codeIn K Ws "_law_fewer" = true) (XR:PySem.W.keepIn K (.ref Yi)=true)
 (a27:PySem.W.nsIn K mainGlobals "_law_one_unmet" = some (some (.ref Yh))) (l27:K.lookup Yh=some ⟨aaD,aak,.func (PySem.W.fnOf "_law_one_unmet" "_law_one_unmet" (aH cB) (aF cB) (ao cB) .none abx acB ZV ady Wr acU),Zb⟩) (c27:PySem.W.codeIn K Wr "_law_one_unmet" = true) (XQ:PySem.W.keepIn K (.ref Yh)=true)
 (a28:PySem.W.nsIn K mainGlobals "law" = some (some (.ref f28))) (l28:K.lookup f28=some ⟨aaC,aaj,.func (PySem.W.fnOf "law" "law" (aH lq) (aF lq) (ao lq) .none Vj Wm Ux W9 R4 Wo),Za⟩) (c28:PySem.W.codeIn K R4 "law" = true) (k28:PySem.W.keepIn K (.ref f28)=true)
 (Rw:(p==p2)=false)
 (GF:PySem.W.nsIn K mainGlobals "abs" = some none) (GD:PySem.W.nsIn K mainGlobals "all" = some none) (GC:PySem.W.nsIn K mainGlobals "any" = some none) (Ab:PySem.W.nsIn K mainGlobals "bool" = some none) (kE:PySem.W.nsIn K mainGlobals "enumerate" = some none) (Gz:PySem.W.nsIn K mainGlobals "int" = some none) (jK:PySem.W.nsIn K mainGlobals "isinstance" = some none) (Gy:PySem.W.nsIn K mainGlobals "len" = some none) (Aa:PySem.W.nsIn K mainGlobals "list" = some none) (Gx:PySem.W.nsIn K mainGlobals "max" = some none) (Gw:PySem.W.nsIn K mainGlobals "min" = some none) (vG:PySem.W.nsIn K mainGlobals "range" = some none) (mL:PySem.W.nsIn K mainGlobals "reversed" = some none) (Gv:PySem.W.nsIn K mainGlobals "set" = some none) (qR:PySem.W.nsIn K mainGlobals "sorted" = some none) (vD:PySem.W.nsIn K mainGlobals "tuple" = some none) (Gu:PySem.W.nsIn K mainGlobals "zip" = some none):
 (∀p0∈[p,p2],K.lookup p0=none /\ ∃c,PySem.W.codeHdIn K c p0=true) /\ ∃fd:FuncData,(∀(s:Shared) (v:Value),BindsTo s fd ⟨[v],[]⟩ [("script",v)]) /\ ∀base:Heap,K.In base->base.Ns mainGlobals mg->Bm mg base->cT l.prog w K mg base jJ 7 fa fd ["script"] (Ck p p2 K):=by
 have e:=hfa.symm.trans (PySem.W.mg_of X G a28);cases e;have hpp:p≠p2:=beq_eq_false_iff_ne.mp Rw;have Bt:xW mg:=⟨PySem.W.mg_none_of X G GF,PySem.W.mg_none_of X G GD,PySem.W.mg_none_of X G GC,PySem.W.mg_none_of X G Ab,PySem.W.mg_none_of X G kE,PySem.W.mg_none_of X G Gz,PySem.W.mg_none_of X G jK,PySem.W.mg_none_of X G Gy,PySem.W.mg_none_of X G Aa,PySem.W.mg_none_of X G Gx,PySem.W.mg_none_of X G Gw,PySem.W.mg_none_of X G vG,PySem.W.mg_none_of X G mL,PySem.W.mg_none_of X G Gv,PySem.W.mg_none_of X G qR,PySem.W.mg_none_of X G vD,PySem.W.mg_none_of X G Gu⟩;have F0:=bU (st:=d_) l0 c0 k0;have F1:=bU (st:=iT) l1 c1 k1;have F2:=bU (st:=jQ) l2 c2 k2;have F3:=bU (st:=iM) l3 c3 k3;have F4:=bU (st:=bL) l4 c4 k4;have F5:=bU (st:=cW) l5 c5 k5;have F6:=bU (st:=d9) l6 c6 k6;have F7:=bU (st:=cH) l7 c7 k7;have F8:=bU (st:=cI) l8 c8 k8;have F9:=bU (st:=d8) l9 c9 k9;have F10:=bU (st:=cX) l10 c10 k10;have F11:=bU (st:=iQ) l11 c11 k11;have F12:=bU (st:=bD) l12 c12 k12;have F13:=bU (st:=cV) l13 c13 k13;have L14:=Dr (st:=aZ) l14 c14 k14 h14;have F14:=L14.fun;have F15:=bU (st:=bM) l15 c15 X_;have F16:=bU (st:=bV) l16 c16 Rq;have L17:=Dr (st:=bK) l17 c17 X8 Ye;have F17:=L17.fun;have F18:=bU (st:=bN) l18 c18 X7;have F19:=bU (st:=cA) l19 c19 KY;have F20:=bU (st:=fV) l20 c20 X6;have F21:=bU (st:=fQ) l21 c21 X5;have F22:=bU (st:=iR) l22 c22 X4;have F23:=bU (st:=cY) l23 c23 X3;have F24:=bU (st:=cZ) l24 c24 Rp;have F25:=bU (st:=eE) l25 c25 XS;have F26:=bU (st:=fU) l26 c26 XR;have F27:=bU (st:=cB) l27 c27 XQ;have F28:=bU (st:=lq) l28 c28 k28
 refine ⟨fun p0 hp0=>by
  simp only [List.mem_cons,List.not_mem_nil,or_false] at hp0;rcases hp0 with rfl|rfl
  ·exact ⟨hkp,_,h14⟩
  ·exact ⟨RB,_,Ye⟩, ?_⟩
 refine ⟨PySem.W.fnOf "law" "law" (aH lq) (aF lq) (ao lq) .none Vj Wm Ux W9 R4 Wo,fun s v=> .of_eq rfl,fun base _ _ BM=> ?_⟩;have A0:FnAt l.prog w K mg base 1 "_law_spring" ["script"] (qY K):=⟨f0,_,E_ F0 Bt,PySem.W.mg_of X G a0,k0,F0.binds (ps:=["script"]) Bx⟩;have A1:FnAt l.prog w K mg base 1 "_law_draw" ["spring","many"] (kZ K):=⟨f1,_,Mi F1,PySem.W.mg_of X G a1,k1,F1.binds (ps:=["spring","many"]) Km⟩;have A2:FnAt l.prog w K mg base 2 "_law_web" ["spring","most"] (Hf K):=⟨f2,_,QL F2 A1 Bt,PySem.W.mg_of X G a2,k2,F2.binds (ps:=["spring","most"]) Nu⟩;have A3:FnAt l.prog w K mg base 1 "names" ["web"] (qI K):=⟨f3,_,Im F3,PySem.W.mg_of X G a3,k3,F3.binds (ps:=["web"]) Kg⟩;have A4:FnAt l.prog w K mg base 1 "touches_meet" ["one","other"] (yp K):=⟨f4,_,qg F4,PySem.W.mg_of X G a4,k4,F4.binds (ps:=["one","other"]) qw⟩;have A5:FnAt l.prog w K mg base 1 "is_whole" ["value"] (Qj K):=⟨f5,_,yF F5 Bt,PySem.W.mg_of X G a5,k5,F5.binds (ps:=["value"]) zO⟩;have A6:FnAt l.prog w K mg base 2 "is_note" ["value"] (qZ K):=⟨f6,_,Ax F6 A5 Bt,PySem.W.mg_of X G a6,k6,F6.binds (ps:=["value"]) Bw⟩;have A7:FnAt l.prog w K mg base 2 "places_of" ["web"] (kY K):=⟨f7,_,Fb F7 A3 Bt,PySem.W.mg_of X G a7,k7,F7.binds (ps:=["web"]) wY⟩;have A8:FnAt l.prog w K mg base 3 "is_strict" ["places","note"] (nA K):=⟨f8,_,EY F8 A6,PySem.W.mg_of X G a8,k8,F8.binds (ps:=["places","note"]) wZ⟩;have A9:FnAt l.prog w K mg base 4 "is_want" ["web","places","note"] (nG K):=⟨f9,_,Fd F9 A8 A4,PySem.W.mg_of X G a9,k9,F9.binds (ps:=["web","places","note"]) Bv⟩;have A10:FnAt l.prog w K mg base 1 "hands_of" ["note"] (jA K):=⟨Yz,_,Ay F10,PySem.W.mg_of X G a10,k10,F10.binds (ps:=["note"]) zP⟩;have A11:FnAt l.prog w K mg base 2 "meets" ["note","want"] (qJ K):=⟨f11,_,Io F11 A10,PySem.W.mg_of X G a11,k11,F11.binds (ps:=["note","want"]) Kh⟩;have A12:FnAt l.prog w K mg base 2 "wants_by_hands" ["web"] (oO K):=⟨Yy,_,Ar F12 A3 A4 A10 Bt,PySem.W.mg_of X G a12,k12,F12.binds (ps:=["web"]) oE⟩;have A13:FnAt l.prog w K mg base 1 "note_for" ["web","places","want"] (oU K):=⟨Yx,_,Aw F13 Bt,PySem.W.mg_of X G a13,k13,F13.binds (ps:=["web","places","want"]) zN⟩;have A14:FnAt l.prog w K mg base 3 "wants_with_notes" ["web"] (Cj p K):=⟨Yw,_,QK L14 A7 A12 A13 A11 BM Bt,PySem.W.mg_of X G a14,k14,F14.binds (ps:=["web"]) lV⟩;have A15:FnAt l.prog w K mg base 4 "strict_notes" ["web"] (oR p K):=⟨Yv,_,Av F15 A14 Bt,PySem.W.mg_of X G a15,X_,F15.binds (ps:=["web"]) qz⟩;have A16:FnAt l.prog w K mg base 4 "wants_apart" ["web"] (vO p K):=⟨Yu,_,Ir F16 A14 Bt,PySem.W.mg_of X G a16,Rq,F16.binds (ps:=["web"]) tR⟩;have A17:FnAt l.prog w K mg base 5 "apart_shows" ["web","wants"] (Hq p2 K):=⟨Yt,_,Q0 L17 A7 A9 A10 BM Bt,PySem.W.mg_of X G a17,X8,F17.binds (ps:=["web","wants"]) tU⟩;have A18:FnAt l.prog w K mg base 4 "check_strict" ["places","some"] (Ho K):=⟨Ys,_,QX F18 A8 Bt,PySem.W.mg_of X G a18,X7,F18.binds (ps:=["places","some"]) qC⟩;have A19:FnAt l.prog w K mg base 5 "meets_want" ["web","note","want"] (Hh K):=⟨Yr,_,QS F19 A7 A18 A9 A11,PySem.W.mg_of X G a19,KY,F19.binds (ps:=["web","note","want"]) uy⟩;have A20:FnAt l.prog w K mg base 1 "_law_calls" ["web"] (vN K):=⟨Yq,_,Ip F20 Bt,PySem.W.mg_of X G a20,X6,F20.binds (ps:=["web"]) Gg⟩;have A21:FnAt l.prog w K mg base 1 "_law_meets" ["one","other"] (yp K):=⟨Yo,_,Fe F21,PySem.W.mg_of X G a21,X5,F21.binds (ps:=["one","other"]) Ge⟩;have A22:FnAt l.prog w K mg base 1 "_law_ends" ["calls","note"] (q_ K):=⟨Yn,_,Mh F22,PySem.W.mg_of X G a22,X4,F22.binds (ps:=["calls","note"]) Kl⟩;have A23:FnAt l.prog w K mg base 2 "_law_is_want" ["web","calls","note"] (vM K):=⟨Ym,_,Iu F23 A22 A21,PySem.W.mg_of X G a23,X3,F23.binds (ps:=["web","calls","note"]) zQ⟩;have A24:FnAt l.prog w K mg base 2 "_law_all_met" ["web","calls","told"] (Hi K):=⟨Yk,_,QT F24 A22 A21 Bt,PySem.W.mg_of X G a24,Rp,F24.binds (ps:=["web","calls","told"]) zR⟩;have A25:FnAt l.prog w K mg base 1 "_law_counts" ["some"] (Hl K):=⟨Yj,_,QZ F25,PySem.W.mg_of X G a25,XS,F25.binds (ps:=["some"]) BJ⟩;have A26:FnAt l.prog w K mg base 2 "_law_fewer" ["spring","calls","hands","many"] (Hj K):=⟨Yi,_,QW F26 A1 Bt,PySem.W.mg_of X G a26,XR,F26.binds (ps:=["spring","calls","hands","many"]) Gf⟩;have A27:FnAt l.prog w K mg base 6 "_law_one_unmet" ["web","wants","some"] (Hg K):=⟨Yh,_,QM F27 A19 Bt,PySem.W.mg_of X G a27,XQ,F27.binds (ps:=["web","wants","some"]) uz⟩;exact QV F28 A0 A1 A2 A20 A15 A16 A22 A23 A24 A25 A17 A26 A27 Bt hpp
theorem walk {l:PySem.W.OpenLaw} {p p2:Addr} {q:Program} {loose:List Str} {XP:(Str->Option Value)->Heap->Prop} {YP:World->Heap->Prop} {d:DefRec} {K:Params->PySem.W.Frag} (hn:l.most=some 63) (hdf:d.params.defaults=[])
 (hY:∀(w:World) (h:Heap),YP w h->(K w.params).In h) (hT:∀(w:World) (h:Heap),YP w h -> ∀p0∈[p,p2],h.get? p0=some (PySem.W.tabObj #[]))
 (F:∀(w:World) (mg:Str->Option Value) (fa:Addr) (h:Heap),(K w.params).In h->h.Ns mainGlobals mg->mg d.name=some (.ref fa) ->
   (∀p0∈[p,p2],(K w.params).lookup p0=none /\ ∃c,PySem.W.codeHdIn (K w.params) c p0=true) /\ ∃fd:FuncData,(∀(s:Shared) (u:Value),BindsTo s fd ⟨[u],[]⟩ [("script",u)]) /\ ∀base:Heap,(K w.params).In base->base.Ns mainGlobals mg->Bm mg base->cT l.prog w (K w.params) mg base jJ 7 fa fd ["script"] (Ck p p2 (K w.params))):
 PySem.W.WalkO q loose XP YP l.row.toRowW d [] (fun f vs=>PySem.call f vs):=
 L2.GK (n:=63) (k:=7) (x:= "script") (CX:=fun _=>jJ) (sp:=fun w=>Ck p p2 (K w.params)) hn (by decide) hdf ⟨rfl,by decide,by decide⟩ hY hT F (fun _ _ a ns hl _ hS hH=>⟨a,ns,rfl,hS,hl,hH _ (by simp),hH _ (by simp),fun _=>rfl⟩) fun _ _ _ _ _ z=>z
theorem Jb {h:Heap} {a b p0:Addr} (hp:p0∈[a,b]) (ha:h.get? a=some (PySem.W.tabObj #[])) (hb:h.get? b=some (PySem.W.tabObj #[])):h.get? p0=some (PySem.W.tabObj #[]):=by
 simp only [List.mem_cons,List.not_mem_nil,or_false] at hp;rcases hp with rfl|rfl
 ·exact ha
 ·exact hb
end Prf
namespace PySem.W.Fast
def tw12729927190437754916:=()
def tw17966974548776258808:=()
def tw11394012908054177039:=()
def tw1746310593064630157:=()
def tw13961939733521639057:=()
def tw3948396676126256527:=()
def tw12999049668987489463:=()
def tw16362576395959074154:=()
def tw14319820684095297847:=()
def tw17299853608658386943:=()
def tw7385486562199575667:=()
def tw16499057360628422969:=()
def tw9762948330676979913:=()
def tw6335273499115122452:=()
def tw1960845778856267178:=()
def tw14079066828271154324:=()
def tw1897749561174541569:=()
def tw14764134667173854912:=()
def tw16143519089167522343:=()
def tw11188357106724968591:=()
def tw14674732694135419853:=()
def tw16516522177348226636:=()
def tw11190816672010746653:=()
def tw10871976958749421380:=()
def tw3720388550646823613:=()
def tw14548300033030313220:=()
def tw9502602766964976269:=()
def tw8740900623633410496:=()
def tw17123477361305192504:=()
def tw315127646437535910:=()
def tw15621714426859691810:=()
def tw10103340800191882215:=()
def tw1751497235859195435:=()
def tw17213006528596598058:=()
def tw15726419597844608704:=()
def tw11642710042962746117:=()
def tw10545214880872046758:=()
def tw1779371670870276443:=()
def tw8909189590927536182:=()
def tw5368308081893438492:=()
def tw2914582529404643977:=()
def tw16991748132780137884:=()
def tw7201943290407545446:=()
def tw2106417294204980426:=()
def tw2690604505807517136:=()
def tw1257703835611656673:=()
def tw2624092919450700136:=()
def tw12797827147779768377:=()
def tw9795826757838695044:=()
def tw18143017534710950019:=()
def tw13552417136257180153:=()
def tw15421803342409105401:=()
def tw6476516192696423325:=()
def tw2605960642865710927:=()
def tw16310456909515100313:=()
def tw18027837106162487954:=()
def tw6695524109811786275:=()
def tw15787330692618588629:=()
def tw18257375384888966430:=()
def tw11101738753064359920:=()
def tw9205431663831501152:=()
def tw10643386778476460271:=()
def tw2766643687022525851:=()
def tw8239546324893070332:=()
def tw7312027742094888239:=()
def tw14717833814979631661:=()
def tw4937812707638975438:=()
def tw18433681141807735694:=()
def tw16414972891347669277:=()
def tw17327457609191883619:=()
def tw4188888425455507313:=()
def tw3586860376728352306:=()
def tw574433475513401705:=()
def tw18360591033017345212:=()
def tw18278833175424736492:=()
def tw16421645344933337477:=()
def tw1707614702594140560:=()
def tw9076568717070924276:=()
def tw6823626395428556683:=()
def tw12050263417126488870:=()
def tw9007057159802581335:=()
def tw10927479328159703014:=()
def tw13293804358809133523:=()
def tw16445696331252556054:=()
def tw10647572113068940266:=()
def tw5817484212658804973:=()
def tw7067560102420028562:=()
def tw17144069815568502883:=()
def tw529062799442524934:=()
def tw12316343139460355773:=()
def tw9216216180756320964:=()
def tw10818642035268076502:=()
def tw18129881269929179306:=()
def tw3450781546509942299:=()
def tw3136472400626747055:=()
def tw13512690024133146263:=()
def tw2829282229183010970:=()
def tw18185748132433869633:=()
def tw13998428474484203186:=()
def tw16696770176797864628:=()
def tw9117597735421202152:=()
def tw13768717955912861319:=()
def tw6220017024422763259:=()
def tw14264635828270095387:=()
def tw3727616509291668315:=()
def tw4799623215729537897:=()
def tw18032836202793705245:=()
def tw5384744556850158401:=()
def tw8297606401935680862:=()
def tw9822086749614732208:=()
def tw15376123580691614181:=()
def tw11891653423203292852:=()
def tw2918978116223103104:=()
def tw16086734575186144154:=()
def tw12655199327539045109:=()
def tw3100755279642161219:=()
def tw8553501518169084148:=()
def tw16112616700506471018:=()
def tw12099821992077399465:=()
def tw16808072421574421022:=()
def tw10812652319990572806:=()
def tw2756792648354795866:=()
def tw13127360132363757681:=()
def tw4291614521782960510:=()
def tw1300823810053091935:=()
def tw287650237811700949:=()
def tw7304108399555457347:=()
def tw8918395615827709537:=()
def tw1075148739862933178:=()
def tw669636195392877815:=()
def tw1329599785051397572:=()
def tw217644391379915129:=()
def tw16868878830369025295:=()
def tw11445940932202616492:=()
def tw2844250287394156653:=()
def tw15531148752041265834:=()
def tw5043459154488813700:=()
def tw16846525944392358640:=()
def tw2738195555842753441:=()
def tw6872456926392999545:=()
def tw11072711123373932330:=()
def tw8256750912194967482:=()
def tw5866047764472356191:=()
def tw4930430019758263497:=()
def tw13442845335158196656:=()
def tw14062302693730927305:=()
def tw12289540258154991403:=()
def tw6184324241275732798:=()
def tw2891713972928534287:=()
def tw9686046110424277116:=()
def tw8993233771416622083:=()
def tw886729753160183475:=()
def tw15005400910465522036:=()
def tw74737389909236204:=()
def tw1407298941457699088:=()
def tw6615418388836385208:=()
def tw7890337850007722501:=()
def tw7043581270153630227:=()
def tw7239571221578156971:=()
def tw16582237374518607573:=()
def tw12763073698230785609:=()
def tw3768479573949055650:=()
def tw17403385682557945050:=()
def tw11206857170915112232:=()
def tw6880808903432316369:=()
def tw16110504466039974940:=()
def tw5283413783828986109:=()
def tw7202162602262498699:=()
def tw5196317369375839553:=()
def tw2336208540474509577:=()
def tw16930770870379021079:=()
def tw4266129616821436666:=()
def tw12483769974804327953:=()
def tw2140984995494742628:=()
def tw3452709471180454519:=()
def tw13575870573059710364:=()
def tw10137908929229498212:=()
def tw580589124500799695:=()
def tw3056606562911611845:=()
def tw10989690700515282876:=()
def tw6723215729825810981:=()
def tw8370086203301630334:=()
def tw17719959449471095927:=()
def tw5206525771770579079:=()
def tw2789470706065673156:=()
def tw16934075478777601612:=()
def tw13511569364088110273:=()
def tw3926014906238601687:=()
def tw16139022194591326703:=()
def tw11704642284959723389:=()
def tw11185637107949767366:=()
def tw2209214047579572674:=()
def tw16790707160715291794:=()
def tw12816442434915108083:=()
def tw10005821447360081790:=()
def tw11778518632085087728:=()
def tw2807638293008650902:=()
def tw3841470743155614114:=()
def tw17698784410429259994:=()
end PySem.W.Fast
open PySem PySem.W PyProof.Rows
set_option maxRecDepth 100000 in
set_option maxHeartbeats 0 in
theorem PySem.Challenge.cw_fewnotes_k33_whole_no_fewer_strict_notes_holds : PySem.Challenge.rw_fewnotes_k33_whole_no_fewer_strict_notes.Holds := by
 w_on;o_law;k_head;(case hw=>w_witness2)
 k_fill
 refine Prf.walk (l:=PySem.Challenge.rw_fewnotes_k33_whole_no_fewer_strict_notes) rfl rfl (fun w h Y=>PySem.W.km_in_of Y) (fun w h Y p0 hp0=>(Prf.Jb hp0 (PySem.W.km_tabs_of Y _ (List.Mem.tail _ (List.Mem.head _))) (PySem.W.km_tabs_of Y _ (List.Mem.head _)))) ?F
 case F=>
  intro w mg fa h KX G hmg
  replace hmg:mg (Str.ofString "law")=some (.ref fa):=hmg
  refine' Prf.all_mk KX G hmg ?a0 ?l0 ?c0 ?k0 ?a1 ?l1 ?c1 ?k1 ?a2 ?l2 ?c2 ?k2 ?a3 ?l3 ?c3 ?k3 ?a4 ?l4 ?c4 ?k4 ?a5 ?l5 ?c5 ?k5 ?a6 ?l6 ?c6 ?k6 ?a7 ?l7 ?c7 ?k7 ?a8 ?l8 ?c8 ?k8 ?a9 ?l9 ?c9 ?k9 ?a10 ?l10 ?c10 ?k10 ?a11 ?l11 ?c11 ?k11 ?a12 ?l12 ?c12 ?k12 ?a13 ?l13 ?c13 ?k13 ?a14 ?l14 ?c14 ?k14 ?h14 ?hkp ?a15 ?l15 ?c15 ?X_ ?a16 ?l16 ?c16 ?Rq ?a17 ?l17 ?c17 ?X8 ?Ye ?RB ?a18 ?l18 ?c18 ?X7 ?a19 ?l19 ?c19 ?KY ?a20 ?l20 ?c20 ?X6 ?a21 ?l21 ?c21 ?X5 ?a22 ?l22 ?c22 ?X4 ?a23 ?l23 ?c23 ?X3 ?a24 ?l24 ?c24 ?Rp ?a25 ?l25 ?c25 ?XS ?a26 ?l26 ?c26 ?XR ?a27 ?l27 ?c27 ?XQ ?a28 ?l28 ?c28 ?k28 ?Rw ?GF ?GD ?GC ?Ab ?kE ?Gz ?jK ?Gy ?Aa ?Gx ?Gw ?vG ?mL ?Gv ?qR ?vD ?Gu
  (case Rw=>kernel_rfl)
  (case a0=>k_is)
  (case l0=>k_is)
  (case c0=>k_is)
  (case k0=>k_is)
  (case a1=>k_is)
  (case l1=>k_is)
  (case c1=>k_is)
  (case k1=>k_is)
  (case a2=>k_is)
  (case l2=>k_is)
  (case c2=>k_is)
  (case k2=>k_is)
  (case a3=>k_is)
  (case l3=>k_is)
  (case c3=>k_is)
  (case k3=>k_is)
  (case a4=>k_is)
  (case l4=>k_is)
  (case c4=>k_is)
  (case k4=>k_is)
  (case a5=>k_is)
  (case l5=>k_is)
  (case c5=>k_is)
  (case k5=>k_is)
  (case a6=>k_is)
  (case l6=>k_is)
  (case c6=>k_is)
  (case k6=>k_is)
  (case a7=>k_is)
  (case l7=>k_is)
  (case c7=>k_is)
  (case k7=>k_is)
  (case a8=>k_is)
  (case l8=>k_is)
  (case c8=>k_is)
  (case k8=>k_is)
  (case a9=>k_is)
  (case l9=>k_is)
  (case c9=>k_is)
  (case k9=>k_is)
  (case a10=>k_is)
  (case l10=>k_is)
  (case c10=>k_is)
  (case k10=>k_is)
  (case a11=>k_is)
  (case l11=>k_is)
  (case c11=>k_is)
  (case k11=>k_is)
  (case a12=>k_is)
  (case l12=>k_is)
  (case c12=>k_is)
  (case k12=>k_is)
  (case a13=>k_is)
  (case l13=>k_is)
  (case c13=>k_is)
  (case k13=>k_is)
  (case a14=>k_is)
  (case l14=>k_is)
  (case c14=>k_is)
  (case k14=>k_is)
  (case h14=>kernel_rfl)
  (case hkp=>kernel_rfl)
  (case a15=>k_is)
  (case l15=>k_is)
  (case c15=>k_is)
  (case X_=>k_is)
  (case a16=>k_is)
  (case l16=>k_is)
  (case c16=>k_is)
  (case Rq=>k_is)
  (case a17=>k_is)
  (case l17=>k_is)
  (case c17=>k_is)
  (case X8=>k_is)
  (case Ye=>kernel_rfl)
  (case RB=>kernel_rfl)
  (case a18=>k_is)
  (case l18=>k_is)
  (case c18=>k_is)
  (case X7=>k_is)
  (case a19=>k_is)
  (case l19=>k_is)
  (case c19=>k_is)
  (case KY=>k_is)
  (case a20=>k_is)
  (case l20=>k_is)
  (case c20=>k_is)
  (case X6=>k_is)
  (case a21=>k_is)
  (case l21=>k_is)
  (case c21=>k_is)
  (case X5=>k_is)
  (case a22=>k_is)
  (case l22=>k_is)
  (case c22=>k_is)
  (case X4=>k_is)
  (case a23=>k_is)
  (case l23=>k_is)
  (case c23=>k_is)
  (case X3=>k_is)
  (case a24=>k_is)
  (case l24=>k_is)
  (case c24=>k_is)
  (case Rp=>k_is)
  (case a25=>k_is)
  (case l25=>k_is)
  (case c25=>k_is)
  (case XS=>k_is)
  (case a26=>k_is)
  (case l26=>k_is)
  (case c26=>k_is)
  (case XR=>k_is)
  (case a27=>k_is)
  (case l27=>k_is)
  (case c27=>k_is)
  (case XQ=>k_is)
  (case a28=>k_is)
  (case l28=>k_is)
  (case c28=>k_is)
  (case k28=>k_is)
  (case GF=>k_is)
  (case GD=>k_is)
  (case GC=>k_is)
  (case Ab=>k_is)
  (case kE=>k_is)
  (case Gz=>k_is)
  (case jK=>k_is)
  (case Gy=>k_is)
  (case Aa=>k_is)
  (case Gx=>k_is)
  (case Gw=>k_is)
  (case vG=>k_is)
  (case mL=>k_is)
  (case Gv=>k_is)
  (case qR=>k_is)
  (case vD=>k_is)
  (case Gu=>k_is)
#print axioms PySem.Challenge.cw_fewnotes_k33_whole_no_fewer_strict_notes_holds
