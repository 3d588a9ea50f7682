import PyProof.Rows.All
import Wide.All
import OpenK.AllK
import Wide.FinOn
import Lean
import PyProof.EqAt
import PyProof.EqKinds
import PyProof.TupleCall
import PyProof.EqLayable
import PyProof.ExcArgsOwn
import PyProof.ExcAttrAll.Exception
import PyProof.RulesAs
import PyProof.ExcBaseAll.ValueError
import PyProof.NsDelKeeps
import KE.KRevSl
import OpenK.KOps
import OpenK.KWalk
import KE.KCallOwn
import PySem.Challenge.RW_fewnotes_k45_what_is_recorded_so_far
set_option Elab.async false
set_option linter.all false
set_option maxRecDepth 100000
namespace L2
open PySem PySem.Spec PyProof.Rows
abbrev Key:=Sum Int Str
def tM:Key->Value->Bool
 | .inl k,v=>Value.isInt k v
 | .inr x,v=>Value.isStrOf x v
def Z9 (w:World):Key->Int
 | .inl k=>hashInt k
 | .inr x=>hashStr w x
theorem cQ:∀{k:Key} {v:Value},tM k v=true->(∃i t,k=Sum.inl i/\v=Value.int i t)\/(∃x t,k=Sum.inr x/\v=Value.str x t)
 | .inl i,v,h=>by
   obtain ⟨t,e⟩:=Value.isInt_shape (k:=i) (v:=v) h;exact .inl ⟨i,t,rfl,e⟩
 | .inr x,v,h=>by
   obtain ⟨t,e⟩:=Value.isStrOf_shape (x:=x) (v:=v) h;exact .inr ⟨x,t,rfl,e⟩
theorem Fx (i:Int) (t:Tok):tM (.inl i) (.int i t)=true:=by simp [tM,Value.isInt]
theorem Fw (x:Str) (t:Tok):tM (.inr x) (.str x t)=true:=by simp [tM,Value.isStrOf]
theorem Qz (a b:Int):decide ((Sum.inl a:Key)=Sum.inl b)=(a==b):=by
 by_cases e:a=b
 ·subst e;simp
 ·have h:¬(Sum.inl a:Key)=Sum.inl b:=fun q=>e (Sum.inl.inj q)
  rw [decide_eq_false h];exact (beq_eq_false_iff_ne.mpr e).symm
theorem Qw (a b:Str):decide ((Sum.inr a:Key)=Sum.inr b)=decide (a=b):=by
 by_cases e:a=b
 ·subst e;simp
 ·have h:¬(Sum.inr a:Key)=Sum.inr b:=fun q=>e (Sum.inr.inj q)
  rw [decide_eq_false h,decide_eq_false e]
theorem Qy (a:Int) (b:Str):decide ((Sum.inl a:Key)=Sum.inr b)=false:=decide_eq_false (fun q=>nomatch q)
theorem Qx (a:Str) (b:Int):decide ((Sum.inr a:Key)=Sum.inl b)=false:=decide_eq_false (fun q=>nomatch q)
def b_ (prog:Program) (w:World):PySem.KeyKind prog w Key where
 is:=tM
 hash:=Z9 w
 inj:=fun v a b ha hb=>by
  rcases cQ ha with ⟨i,t,rfl,rfl⟩|⟨x,t,rfl,rfl⟩
  ·rcases cQ hb with ⟨j,u,rfl,e⟩|⟨y,u,rfl,e⟩
   ·injection e with e1 _;rw [e1]
   ·exact nomatch e
  ·rcases cQ hb with ⟨j,u,rfl,e⟩|⟨y,u,rfl,e⟩
   ·exact nomatch e
   ·injection e with e1 _;rw [e1]
 byValue:=fun k v h=>by
  rcases cQ h with ⟨i,t,rfl,rfl⟩|⟨x,t,rfl,rfl⟩<;>rfl
 pyHash:=fun hv h=>by
  rcases cQ hv with ⟨i,t,rfl,rfl⟩|⟨x,t,rfl,rfl⟩
  ·exact wpAny_pyHash_int h
  ·exact wpAny_pyHash_str h
 eqBool:=fun hu hv h=>by
  rcases cQ hu with ⟨i,t,rfl,rfl⟩|⟨x,t,rfl,rfl⟩
  ·rcases cQ hv with ⟨j,u,rfl,rfl⟩|⟨y,u,rfl,rfl⟩
   ·rw [Qz] at h;exact wpAny_eqBool_int h
   ·rw [Qy] at h;exact SeqAt.EqAt.int_str i t y u _ _ _ _ h
  ·rcases cQ hv with ⟨j,u,rfl,rfl⟩|⟨y,u,rfl,rfl⟩
   ·rw [Qx] at h;exact SeqAt.EqAt.str_int x t j u _ _ _ _ h
   ·rw [Qw] at h;exact wpAny_eqBool_str h
 «strs» :=fun k x t v h=>by
  rcases cQ h with ⟨i,u,rfl,e⟩|⟨y,u,rfl,e⟩
  ·exact nomatch e
  ·injection e with e1 _
   subst e1;cases v<;>rfl
theorem Br (prog:Program) (w:World) (k:Key) (v:Value):(b_ prog w).is k v=tM k v:=rfl
theorem yL (prog:Program) (w:World) (i:Int) (t:Tok):(b_ prog w).is (.inl i) (.int i t)=true:=Fx i t
theorem yK (prog:Program) (w:World) (x:Str) (t:Tok):(b_ prog w).is (.inr x) (.str x t)=true:=Fw x t
end L2
namespace L2
open PySem PySem.Spec PyProof.Rows
inductive V where
 | non|bl (b:Bool)|int (i:Int)|str (x:Str)|Ci (b:Array UInt8)|flt (b:UInt64)|ref (a:Addr)|ty (n:String)
 deriving DecidableEq
def RelV:V->Value->Prop
 | .non,u=>u=Value.none
 | .bl b,u=>u=Value.bool b
 | .int i,u=>∃t,u=Value.int i t
 | .str x,u=>∃t,u=Value.str x t
 | .Ci b,u=>∃t,u=Value.bytes b t
 | .flt b,u=>∃t,u=Value.float b t
 | .ref a,u=>u=Value.ref a
 | .ty n,u=>u=Value.type n
abbrev Vals:List V->List Value->Prop:=Paired RelV
theorem Vals.length {xs:List V} {us:List Value} (r:Vals xs us):xs.length=us.length:=Paired.length r
theorem Vals.get:∀{xs:List V} {us:List Value} {i:Nat} {x:V},Vals xs us->xs[i]? = some x -> ∃u,us[i]? = some u/\RelV x u
 | _,_,_,_,.nil,e=>by simp at e
 | _,_,0,_,.cons r _,e=>by simp at e;subst e;exact ⟨_,rfl,r⟩
 | _,_,i+1,x,.cons _ t,e=>by
   obtain ⟨u,h1,h2⟩:=Vals.get (i:=i) (x:=x) t (by simpa using e);exact ⟨u,by simpa using h1,h2⟩
theorem Vals.set {x:V} {u:Value} (r:RelV x u):∀{xs:List V} {us:List Value} (i:Nat),Vals xs us->Vals (xs.set i x) (us.set i u)
 | _,_,_,.nil=> .nil
 | _,_,0,.cons _ t=> .cons r t
 | _,_,i+1,.cons q t=> .cons q (Vals.set r i t)
theorem Vals.append {xs ys:List V} {us ws:List Value} (h:Vals xs us) (s:Vals ys ws):Vals (xs++ys) (us++ws):=by
 induction h with
 | nil=>exact s
 | cons r t ih=>exact .cons r ih
theorem Vals.take:∀{xs:List V} {us:List Value} (n:Nat),Vals xs us->Vals (xs.take n) (us.take n)
 | _,_,0,_=> .nil
 | _,_,_+1,.nil=> .nil
 | _,_,n+1,.cons r t=> .cons r (Vals.take n t)
theorem Vals.drop:∀{xs:List V} {us:List Value} (n:Nat),Vals xs us->Vals (xs.drop n) (us.drop n)
 | _,_,0,r=>r
 | _,_,_+1,.nil=> .nil
 | _,_,n+1,.cons _ t=>Vals.drop n t
def j7:Option V->Option Value->Prop
 | some v,some u=>RelV v u
 | none,none=>True
 | _,_=>False
def KV {κ:Type}:List (κ×V)->List (κ×Value)->Prop:=Paired fun (p:κ×V) (q:κ×Value)=>p.1=q.1/\RelV p.2 q.2
def kV:Key->V
 | .inl i=> .int i
 | .inr x=> .str x
inductive HO where
 | lst (xs:List V)
 | tup (xs:List V)
 | dK (kvs:List (Key×V))|dT (kvs:List (List Key×V))
 | set (S:Int->Bool) (n:Nat)
 | ins (C dx:Addr) (fs:List (Str×V))
 | own (x:Addr)
 | xd (fs:List (Str×V))
 | met (f x:Addr)
 | rng (lo hi:Int)
 | mz (o:Obj) (u:HO)
 | NZ (ps:Array Value)
 | ext (φ:Heap->Prop)
abbrev Hp:=Addr->Option HO
def upd (H:Hp) (a:Addr) (o:HO):Hp:=fun b=>if b=a then some o else H b
theorem ao {H:Hp} {a:Addr} {o:HO}:upd H a o a=some o:=by unfold upd;rw [if_pos rfl]
theorem aQ {H:Hp} {a b:Addr} {o:HO} (h:b≠a):upd H a o b=H b:=by unfold upd;rw [if_neg h]
theorem Kw {H:Hp} {a:Addr} {o u:HO}:upd (upd H a o) a u=upd H a u:=by
 funext b;unfold upd;split<;>rfl
theorem qz {H:Hp} {a b:Addr} {o u:HO} (h:H a=some o) (h':H b=some u) (d:o≠u):a≠b:=by
 intro e;subst e;rw [h] at h';exact d (Option.some.inj h')
theorem au {H:Hp} {a b:Addr} {o:HO} (h:H a=some o) (h':H b=none):a≠b:=by
 intro e;subst e;rw [h] at h';cases h'
section
variable (P:Program) (w:World)
def cH (H:Hp) (h:Heap) (a:Addr):HO->Prop
 | .lst xs=>xs.length<=sizeLine /\ ∃(its:List Value) (n:Nat),Vals xs its/\h.get? a=some {cls:= .type "list",data:= .seq its.toArray n}
 | .tup xs=>xs.length<=sizeLine /\ ∃its:List Value,Vals xs its/\IsTup h a its.toArray
 | .dK kvs=>kvs.length<=sizeLine/\(a==sysModules)=false /\ ∃vs,KV kvs vs/\h.DictOf (b_ P w) a vs
 | .dT kvs=>kvs.length<=sizeLine/\(a==sysModules)=false /\ ∃xs:List (List Key×Addr×Value),
    Paired (fun (p:List Key×V) (q:List Key×Addr×Value)=>p.1=q.1/\H q.2.1=some (.tup (p.1.map kV))/\RelV p.2 q.2.2) kvs xs /\
    ∃o es ep,h.get? a=some o/\o.ExactDict/\o.data = .dict es ep/\es.toList=xs.map (entryOfKey (tupleKind (b_ P w)))/\(xs.map (·.1)).Nodup
 | .set S n=>h.SetOf (intKind P w) a S n
 | .ins C dx fs=>H dx=some (.own a)/\fs.length<=1000/\dx≠a/\h.get? a=some (PySem.W.instObj C dx) /\
    ∃mA,h.Ns1 dx mA/\(∀f,j7 (fs.lookup f) (mA f))/\PySem.Within mA (fs.map (·.1))
 | .own _=>∃o,h.get? a=some o
 | .xd fs=>∃mA,h.Ns1 a mA /\ ∀f,j7 (fs.lookup f) (mA f)
 | .rng lo hi=>∃t u v,h.get? a=some {cls:= .type "range",data:= .fields #[.int lo t,.int hi u,.int 1 v]}
 | .mz o u=>h.get? a=some o/\cH H h a u
 | .NZ ps=>h.get? a=some {cls:= .none,data:= .fields ps}
 | .met f x=>h.get? a=some (PySem.W.methodObj (.ref f) (.ref x))
 | .ext φ=>φ h/\(∃o,h.get? a=some o) /\ ∀h1 h2:Heap,φ h1->(∀o,h1.get? a=some o->h2.get? a=some o)->φ h2
def nR (H:Hp) (h:Heap):Prop:=∀a o,H a=some o->cH P w H h a o
end
section
variable {P:Program} {w:World} {H H':Hp} {h h':Heap} {a:Addr} {o:HO}
theorem cH.lt (x:cH P w H h a o):a<h.objs.size:=by
 cases o with
 | lst xs=>obtain ⟨_,_,_,_,e⟩:=x;exact Heap.lt_size e
 | tup xs=>obtain ⟨_,_,_,p⟩:=x;exact p.lt
 | dK kvs=>obtain ⟨_,_,_,_,o,_,_,e,_⟩:=x;exact Heap.lt_size e
 | dT kvs=>obtain ⟨_,_,_,_,o,_,_,e,_⟩:=x;exact Heap.lt_size e
 | set S n=>obtain ⟨o,_,_,_,e,_⟩:=x;exact Heap.lt_size e
 | ins C dx fs=>obtain ⟨_,_,_,e,_⟩:=x;exact Heap.lt_size e
 | own y=>obtain ⟨_,e⟩:=x;exact Heap.lt_size e
 | xd fs=>obtain ⟨_,⟨_,_,_,e,_⟩,_⟩:=x;exact Heap.lt_size e
 | rng lo hi=>obtain ⟨_,_,_,e⟩:=x;exact Heap.lt_size e
 | mz ob u=>obtain ⟨e,_⟩:=x;exact Heap.lt_size e
 | NZ ps=>exact Heap.lt_size (show h.get? a=some _ from x)
 | met f y=>exact Heap.lt_size (show h.get? a=some _ from x)
 | ext φ=>obtain ⟨_,⟨_,e⟩,_⟩:=x;exact Heap.lt_size e
theorem Paired.Te {α β:Type} {F G:α->β->Prop}:∀{l₁:List α} {l₂:List β},Paired F l₁ l₂->(∀a b,F a b->G a b)->Paired G l₁ l₂
 :=by
 intro l₁ l₂ h f
 induction h with
 | nil=>exact .nil
 | cons r t ih=>exact .cons (f _ _ r) ih
theorem cH.stay (x:cH P w H h a o) (k:∀b u,(b=a\/H b=some (.own a))->h.get? b=some u->h'.get? b=some u)
 (ho:∀b,H b=some (.own a)->H' b=some (.own a)) (ht:∀b xs,H b=some (.tup xs)->H' b=some (.tup xs)):cH P w H' h' a o:=by
 induction o with
 | lst xs=>obtain ⟨z,its,n,r,e⟩:=x;exact ⟨z,its,n,r,k _ _ (.inl rfl) e⟩
 | tup xs=>obtain ⟨z,its,r,ob,e,c⟩:=x;exact ⟨z,its,r,ob,k _ _ (.inl rfl) e,c⟩
 | dK kvs=>obtain ⟨z,y,vs,r,ob,es,ep,e,c⟩:=x;exact ⟨z,y,vs,r,ob,es,ep,k _ _ (.inl rfl) e,c⟩
 | dT kvs=>
   obtain ⟨z,y,xs,r,ob,es,ep,e,c⟩:=x;exact ⟨z,y,xs,Paired.Te r fun p q z=>⟨z.1,ht _ _ z.2.1,z.2.2⟩,ob,es,ep,k _ _ (.inl rfl) e,c⟩
 | set S n=>obtain ⟨ob,es,ep,t,e,c⟩:=x;exact ⟨ob,es,ep,t,k _ _ (.inl rfl) e,c⟩
 | ins C dx fs=>
   obtain ⟨d,z,ne,e,mA,⟨od,es,ep,e2,c⟩,r⟩:=x;exact ⟨ho _ d,z,ne,k _ _ (.inl rfl) e,mA,⟨od,es,ep,k _ _ (.inr d) e2,c⟩,r⟩
 | own y=>obtain ⟨ob,e⟩:=x;exact ⟨ob,k _ _ (.inl rfl) e⟩
 | xd fs=>obtain ⟨mA,⟨od,es,ep,e,c⟩,r⟩:=x;exact ⟨mA,⟨od,es,ep,k _ _ (.inl rfl) e,c⟩,r⟩
 | rng lo hi=>obtain ⟨t,u,v,e⟩:=x;exact ⟨t,u,v,k _ _ (.inl rfl) e⟩
 | mz ob u ih=>obtain ⟨e,q⟩:=x;exact ⟨k _ _ (.inl rfl) e,ih q⟩
 | NZ ps=>
   have e:h.get? a=some {cls:= .none,data:= .fields ps}:=x;show h'.get? a=some {cls:= .none,data:= .fields ps};exact k a _ (.inl rfl) e
 | met f y=>
   have e:h.get? a=some (PySem.W.methodObj (.ref f) (.ref y)):=x;show h'.get? a=some (PySem.W.methodObj (.ref f) (.ref y));exact k a _ (.inl rfl) e
 | ext φ=>obtain ⟨p,⟨o,e⟩,st⟩:=x;exact ⟨st _ _ p fun o q=>k _ _ (.inl rfl) q,⟨o,k _ _ (.inl rfl) e⟩,st⟩
theorem nR.lt (x:nR P w H h) (e:H a=some o):a<h.objs.size:=(x a o e).lt
theorem nR.fresh (x:nR P w H h) (e:h.objs.size<=a):H a=none:=by
 cases q:H a with
 | none=>rfl
 | some u=>exact absurd (Nat.lt_of_lt_of_le (x.lt q) e) (Nat.lt_irrefl _)
theorem nR.kept (x:nR P w H h) (k:∀b u,h.get? b=some u->h'.get? b=some u):nR P w H h':=fun a o e=>
 (x a o e).stay (fun b u _ q=>k b u q) (fun _ q=>q) fun _ _ q=>q
theorem nR.laid (x:nR P w H h) (k:∀b u,h.get? b=some u->h'.get? b=some u) (hp:h.objs.size<=a) (new:cH P w (upd H a o) h' a o):nR P w (upd H a o) h':=fun b u e=>by
 have hn:=x.fresh hp
 by_cases hb:b=a
 ·subst hb;rw [ao] at e;cases e;exact new
 ·rw [aQ hb] at e
  exact (x b u e).stay (fun c v _ q=>k c v q) (fun c q=>by rw [aQ (au q hn)];exact q) fun c xs q=>by rw [aQ (au q hn)];exact q
end
def Rd (H:Hp) (a:Addr) (u:HO):Prop:=H a=some u \/ ∃o,H a=some (.mz o u)
theorem Rd.ok {P:Program} {w:World} {H:Hp} {h:Heap} {a:Addr} {u:HO} (r:Rd H a u) (x:nR P w H h):cH P w H h a u:=by
 rcases r with r|⟨o,r⟩
 ·exact x a u r
 ·obtain ⟨_,q⟩:=x a _ r
  exact q
def Vm:Option HO->Prop
 | some (.lst _)=>True
 | some (.dK _)=>True
 | some (.dT _)=>True
 | some (.set _ _)=>True
 | some (.ins _ _ _)=>True
 | some (.ext _)=>True
 | _=>False
section
variable {P:Program} {w:World} {H:Hp} {h h':Heap} {x e:Addr} {o':HO}
theorem nR.write (ok:nR P w H h) (mu:Vm (H x)) (he:e=x\/H e=some (.own x)) (k:∀b u,b≠e->h.get? b=some u->h'.get? b=some u) (heo:∃u,h'.get? e=some u)
 (new:cH P w (upd H x o') h' x o'):nR P w (upd H x o') h':=fun b u q=>by
 have S6:∀c y,H c=some (.own y)->c≠x:=fun c y r z=>by subst z;rw [r] at mu;exact mu
 have Zq:∀c xs,H c=some (.tup xs)->c≠x:=fun c xs r z=>by subst z;rw [r] at mu;exact mu
 by_cases hb:b=x
 ·subst hb;rw [ao] at q;cases q;exact new
 ·rw [aQ hb] at q
  by_cases hbe:b=e
  ·have q':H b=some (.own x):=by
    rcases he with z|z
    ·exact absurd (hbe.trans z) hb
    ·rw [hbe];exact z
   rw [q] at q';cases q';obtain ⟨v,hv⟩:=heo;exact ⟨v,by rw [hbe];exact hv⟩
  ·refine (ok b u q).stay (fun c v hc r=>k c v ?_ r) (fun c r=>by rw [aQ (S6 c b r)];exact r) fun c xs r=>by rw [aQ (Zq c xs r)];exact r
   rcases hc with rfl|hc
   ·exact hbe
   ·rintro rfl
    rcases he with z|z
    ·exact S6 c b hc z
    ·rw [hc] at z;cases z;exact hb rfl
end
structure Un (fs ex:List Addr) (H H':Hp) (h h':Heap):Prop where
 keep:∀b o,h.get? b=some o->H b=none->b∉fs->b∉ex->h'.get? b=some o
 slot:∀b o,h.get? b=some o->H b=none->b∈fs->b∉ex -> ∃sl,h'.get? b=some {o with slots:=sl}
 free:∀b o,h.get? b=some o->H b=none->b∉ex->H' b=none
 there:∀b o,h.get? b=some o->b∉ex -> ∃o',h'.get? b=some o'
 tups:∀b xs,H b=some (.tup xs)->H' b=some (.tup xs)
 qU:∀b o u,H b=some (.mz o u)->H' b=some (.mz o u)
 uL:∀b ps,H b=some (.NZ ps) -> ∃more,H' b=some (.NZ (ps++more))
section
variable {fs fs' ex ex':List Addr} {H H1 H2:Hp} {h h1 h2 h':Heap} {a x e:Addr} {o:HO}
theorem Un.any (u:Un fs ex H H1 h h1) {b:Addr} {ob:Obj} (q:h.get? b=some ob) (n:H b=none) (hx:b∉ex):∃sl,h1.get? b=some {ob with slots:=sl}:=by
 by_cases hb:b∈fs
 ·exact u.slot b ob q n hb hx
 ·exact ⟨ob.slots,u.keep b ob q n hb hx⟩
theorem Un.kept (k:∀b u,h.get? b=some u->h'.get? b=some u):Un fs ex H H h h':=
 ⟨fun b ob q _ _ _=>k b ob q,fun b ob q _ _ _=>⟨ob.slots,k b ob q⟩,fun _ _ _ n _=>n,fun b ob q _=>⟨ob,k b ob q⟩,fun _ _ q=>q,fun _ _ _ q=>q,fun _ ps q=>⟨#[],by rw [q];simp⟩⟩
theorem Un.refl:Un fs ex H H h h:=Un.kept fun _ _ q=>q
theorem Un.laid (k:∀b u,h.get? b=some u->h'.get? b=some u) (hp:h.objs.size<=a) (hn:H a=none):Un fs ex H (upd H a o) h h' where
 keep:=fun b u q _ _ _=>k b u q
 slot:=fun b u q _ _ _=>⟨u.slots,k b u q⟩
 free:=fun b u q n _=>by rw [aQ (Nat.ne_of_lt (Nat.lt_of_lt_of_le (Heap.lt_size q) hp))];exact n
 there:=fun b u q _=>⟨u,k b u q⟩
 tups:=fun b xs q=>by rw [aQ (au q hn)];exact q
 qU:=fun b u xs q=>by rw [aQ (au q hn)];exact q
 uL:=fun b ps q=>⟨#[],by rw [aQ (au q hn),q];simp⟩
theorem Un.write (mu:Vm (H x)) (he:e=x\/H e=some (.own x)) (k:∀b u,b≠e->h.get? b=some u->h'.get? b=some u) (heo:∃u,h'.get? e=some u):Un fs ex H (upd H x o) h h':=by
 have hx:∀b,H b=none->b≠x:=fun b n z=>by subst z;rw [n] at mu;exact mu
 have hb:∀b,H b=none->b≠e:=fun b n z=>by
  subst z;rcases he with r|r
  ·exact hx b n r
  ·rw [n] at r;cases r
 have hm:∀b u,H b=some u -> ¬Vm (some u)->b≠x:=fun b u q nm z=>by subst z;rw [q] at mu;exact nm mu
 refine ⟨fun b u q n _ _=>k b u (hb b n) q,fun b u q n _ _=>⟨u.slots,k b u (hb b n) q⟩,fun b u q n _=>by rw [aQ (hx b n)];exact n,fun b u q _=> ?_,
  fun b xs q=>by rw [aQ (hm b _ q fun z=>z)];exact q,fun b u xs q=>by rw [aQ (hm b _ q fun z=>z)];exact q,fun b ps q=>⟨#[],by rw [aQ (hm b _ q fun z=>z),q];simp⟩⟩
 by_cases hbe:b=e
 ·subst hbe;exact heo
 ·exact ⟨u,k b u hbe q⟩
end
def Vu (h:Heap) (H:Hp):List Addr:=(List.range h.objs.size).filter fun a=>(H a).isSome
def wQ (h:Heap) (H:Hp):Heap:=PySem.W.hideAll h (Vu h H)
theorem FW (h:Heap) (H:Hp):(wQ h H).objs.size=h.objs.size:=PySem.W.hideAll_size _ _
theorem Jr {h:Heap} {H:Hp} {b:Addr} {o:Obj} (e:h.get? b=some o) (n:H b=none):(wQ h H).get? b=some o:=
 PySem.W.hideAll_get _ e fun hm=>by
  have q:(H b).isSome=true:=(List.mem_filter.mp hm).2;rw [n] at q;simp at q
theorem Mi {h:Heap} {H:Hp} {b:Addr} {o:Obj} (e:(wQ h H).get? b=some o):h.get? b=some o/\H b=none:=by
 have e':h.get? b=some o:=PySem.W.of_hideAll (Vu h H) e;refine ⟨e', ?_⟩;cases q:H b with
 | none=>rfl
 | some x=>
   have hm:b∈Vu h H:=List.mem_filter.mpr ⟨List.mem_range.mpr (Heap.lt_size e'),by simp [q]⟩;have z:(wQ h H).get? b=none:=PySem.W.hideAll_none (Vu h H) hm;rw [z] at e;cases e
def Nr (g h:Heap) (L:Addr):List (Addr×Obj):=(List.range h.objs.size).filterMap fun a=>if a=L\/(g.get? a).isSome=true then none else (h.get? a).map fun o=>(a,o)
def rest (g h:Heap) (L d:Addr):List (Addr×Obj):=(Nr g h L).filter fun p=>decide (p.1≠d)
end L2
namespace L2
open PySem PySem.Spec PyProof.Rows
structure Mod (K:PySem.W.Frag) (mg:Str->Option Value) (base:Heap):Prop where
 Rt:K.In base
 glob:base.Ns mainGlobals mg
 blt:∃mb,base.Ns builtinsNs mb /\ ∀x:Str,x ≠ "__name__" -> mb x=bootBuiltins x
 nolimit:base.NoLimit
structure Cx where
 prog:Program
 w:World
 K:PySem.W.Frag
 mg:Str->Option Value
 base:Heap
 A:Around
 N:List Str
 s₀:Shared
 H₀:Hp
 env:Env
 outer:List Env
 stack:List Env
 ex:List Addr
 fn:Str->Bool
 calm:Bool
 pn:List (Addr×Obj)
 xe:Value->Shared->Prop
def frs (l:List Env):List Addr:=l.filterMap (·.frame)
abbrev Cx.fs (X:Cx):List Addr:=frs X.outer
def Vis (sc:Scope) (x:Str):Prop:=sc.names.lookup x=some .local\/sc.names.lookup x=some .cell\/sc.names.lookup x=some .free
def Loc (sc:Scope) (x:Str):Prop:=sc.names.lookup x=some .local\/sc.names.lookup x=some .cell
def Look (env:Env) (h:Heap) (m:Str->Option Value) (x:Str) (u:Value):Prop:=
 (env.kindOf x=some .local/\m x=some u)\/((env.kindOf x=some .cell\/env.kindOf x=some .free) /\ ∃c,env.cells.lookup x=some c/\h.IsCell c (some u))
structure Cx.Ok (X:Cx):Prop where
 mod:Mod X.K X.mg X.base
 kind:X.env.scope.kind = .function
 glob:X.env.globals=mainGlobals
 blt:X.env.builtins=builtinsNs
 above:X.s₀.heap.objs.size<=X.env.locals
 inj:∀x y c,X.env.cells.lookup x=some c->X.env.cells.lookup y=some c->x=y
 has:∀x,(X.env.kindOf x=some .cell\/X.env.kindOf x=some .free) -> ∃c,X.env.cells.lookup x=some c
 cab:∀x c,X.fn x=true->X.env.cells.lookup x=some c->X.s₀.heap.objs.size<=c
 hd:X.calm=true->X.A.handled=none
 frames:X.A.frames=some X.stack
 stk:X.stack=X.outer\/(X.stack=X.env::X.outer/\X.env.frame=some X.env.locals)
 exf:∀b∈X.ex,b≠X.env.locals /\ ∀x c,X.env.cells.lookup x=some c->c≠b
 bs:∀b o,X.base.get? b=some o->X.s₀.heap.get? b=some o/\X.H₀ b=none
 JW:X.base.objs.size<=X.s₀.heap.objs.size
 Ja:∀b o,X.base.get? b=some o->b∉X.ex
 M7:∀b∈X.ex,b∉X.fs
 p7:X.s₀.heap.FunFrames X.base X.outer
 Ow:∀b∈X.fs,X.H₀ b=none
structure Inv (X:Cx) (pins:List (Addr×Obj)) (σ:List (Option V)) (H:Hp) (s:Shared):Prop where
 ok:X.Ok
 os:s.os=X.s₀.os
 bare:AllBare s.gens
 base:Un X.fs X.ex X.H₀ H X.s₀.heap s.heap
 loc:∃m,s.heap.Ns X.env.locals m /\ ∀(i:Nat) (x:Str) (v:V),X.N[i]? = some x->σ[i]? = some (some v)->Vis X.env.scope x -> ∃u,RelV v u/\Look X.env s.heap m x u
 cell:∀x c,X.env.cells.lookup x=some c -> ∃v,s.heap.IsCell c v
 free:H X.env.locals=none
 jX:∀x c,X.env.cells.lookup x=some c->H c=none
 pin:∀p∈X.pn++pins,s.heap.get? p.1=some p.2/\H p.1=none/\p.1≠X.env.locals/\p.1∉X.fs /\ ∀v,p.2.data ≠ .cell v
 hok:nR X.prog X.w H s.heap
 len:σ.length=X.N.length
section
variable {X:Cx} {pins:List (Addr×Obj)} {σ:List (Option V)} {H H':Hp} {s:Shared} {h':Heap}
theorem Cx.Ok.Zz (ok:X.Ok) {b:Addr} {o:Obj} (e:X.base.get? b=some o):b∉X.fs:=fun hb=>by
 have:=(ok.p7.mem hb).1;rw [e] at this;cases this
theorem Inv.bs (I:Inv X pins σ H s):∀b o,X.base.get? b=some o->s.heap.get? b=some o/\H b=none:=fun b o e=>
 ⟨I.base.keep b o (I.ok.bs b o e).1 (I.ok.bs b o e).2 (I.ok.Zz e) (I.ok.Ja b o e),I.base.free b o (I.ok.bs b o e).1 (I.ok.bs b o e).2 (I.ok.Ja b o e)⟩
theorem Inv.bk (I:Inv X pins σ H s):∀b o,X.base.get? b=some o->s.heap.get? b=some o:=fun b o e=>(I.bs b o e).1
theorem Inv.mod (I:Inv X pins σ H s):Mod X.K X.mg X.base:=I.ok.mod
theorem Inv.nj (I:Inv X pins σ H s):X.K.In s.heap:=I.ok.mod.Rt.keeps I.bk
theorem Inv.fr (I:Inv X pins σ H s):∃m,Fr X.base X.env.locals s.heap m:=
 let ⟨m,hn,_⟩:=I.loc
 ⟨m,hn,I.bk,Nat.le_trans I.ok.JW I.ok.above⟩
theorem Inv.lt (I:Inv X pins σ H s):X.env.locals<s.heap.objs.size:=let ⟨_,hn,_⟩:=I.loc;hn.lt
theorem Inv.sz (I:Inv X pins σ H s):X.s₀.heap.objs.size<=s.heap.objs.size:=Nat.le_trans I.ok.above (Nat.le_of_lt I.lt)
theorem Inv.Zy (I:Inv X pins σ H s) {a:Addr} (h:s.heap.objs.size<=a):a∉X.fs:=fun hb=>by
 obtain ⟨_,o,ho,_⟩:=I.ok.p7.mem hb;exact absurd (Nat.lt_of_lt_of_le (Heap.lt_size ho) (Nat.le_trans I.sz h)) (Nat.lt_irrefl _)
theorem Inv.Q7 (I:Inv X pins σ H s):∀x c,X.env.cells.lookup x=some c->c≠X.env.locals:=fun x c e z=>by
 obtain ⟨v,o,ho,hd⟩:=I.cell x c e;obtain ⟨m,⟨o',es,ep,ho',hd',_⟩,_⟩:=I.loc;rw [z,ho'] at ho;cases ho;rw [hd'] at hd;cases hd
theorem Inv.p7 (I:Inv X pins σ H s):s.heap.FunFrames X.base X.outer:=by
 have all:∀(l:List Env),(∀b∈frs l,b∈X.fs)->X.s₀.heap.FunFrames X.base l->s.heap.FunFrames X.base l:=by
  intro l
  induction l with
  | nil=>intro _ _;trivial
  | cons env r ih=>
    intro hs hl;obtain ⟨hk,⟨L,o,hf,hn,ho,hd⟩,hr⟩:=hl;have hL:L∈X.fs:=hs L (by unfold frs;rw [List.filterMap_cons,hf];exact List.mem_cons_self);obtain ⟨sl,e⟩:=I.base.slot L o ho (I.ok.Ow L hL) hL fun z=>I.ok.M7 L z hL;exact ⟨hk,⟨L,_,hf,hn,e,hd⟩,ih (fun b hb=>hs b (by unfold frs;rw [List.filterMap_cons,hf];exact List.mem_cons_of_mem _ hb)) hr⟩
 exact all X.outer (fun _ hb=>hb) I.ok.p7
theorem Inv.stack (I:Inv X pins σ H s):s.heap.FunFrames X.base X.stack:=by
 rcases I.ok.stk with e|⟨e,hf⟩
 ·rw [e];exact I.p7
 ·rw [e]
  obtain ⟨m,hn,_⟩:=I.loc;refine .cons (by rw [I.ok.kind];decide) hf hn ?_ I.p7;exact Heap.get?_none_of_le (Nat.le_trans I.ok.JW I.ok.above)
theorem Inv.vQ (I:Inv X pins σ H s):∀b∈frs X.stack,b∈X.env.locals::X.fs:=fun b hb=>by
 rcases I.ok.stk with e|⟨e,hf⟩
 ·rw [e] at hb;exact List.mem_cons_of_mem _ hb
 ·rw [e] at hb
  unfold frs at hb;rw [List.filterMap_cons,hf] at hb;exact hb
theorem Inv.CW (I:Inv X pins σ H s):∀b∈frs X.stack,H b=none:=fun b hb=>by
 rcases List.mem_cons.mp (I.vQ b hb) with e|hb
 ·rw [e];exact I.free
 ·obtain ⟨_,o,ho,_⟩:=I.ok.p7.mem hb
  exact I.base.free b o ho (I.ok.Ow b hb) fun z=>I.ok.M7 b z hb
theorem Inv.step {g':Array GenState} {t':Nat} {d':Drawn} {ch:List Addr} (I:Inv X pins σ H s)
 (hch:∀b∈ch,(b∈X.ex\/X.s₀.heap.objs.size<=b)/\b≠X.env.locals/\(∀x c,X.env.cells.lookup x=some c->c≠b) /\ ∀p∈X.pn++pins,p.1≠b)
 (keep:∀b o,b≠X.env.locals->b∉X.fs->b∉ch->s.heap.get? b=some o->H b=none->h'.get? b=some o)
 (slot:∀b o,b≠X.env.locals->b∈X.fs->b∉ch->s.heap.get? b=some o->H b=none -> ∃sl,h'.get? b=some {o with slots:=sl}) (free:∀b o,b∉ch->s.heap.get? b=some o->H b=none->H' b=none)
 (there:∀b o,b∉ch->s.heap.get? b=some o -> ∃o',h'.get? b=some o')
 (tups:∀b xs,H b=some (.tup xs)->H' b=some (.tup xs)) (qU:∀b o u,H b=some (.mz o u)->H' b=some (.mz o u)) (uL:∀b ps,H b=some (.NZ ps) -> ∃more,H' b=some (.NZ (ps++more)))
 (ns:∀m,s.heap.Ns X.env.locals m->h'.Ns X.env.locals m) (hok:nR X.prog X.w H' h') (hg:AllBare g'):
 Inv X pins σ H' {s with heap:=h',gens:=g',drawn:=d',toks:=t'}:=by
 have neL:∀b o,X.s₀.heap.get? b=some o->b≠X.env.locals:=fun b o e=>Nat.ne_of_lt (Nat.lt_of_lt_of_le (Heap.lt_size e) I.ok.above)
 have VG:∀b o,X.s₀.heap.get? b=some o->b∉X.ex->b∉ch:=fun b o e hx hb=>by
  rcases (hch b hb).1 with z|z
  ·exact hx z
  ·exact absurd (Nat.lt_of_lt_of_le (Heap.lt_size e) z) (Nat.lt_irrefl _)
 have cellK:∀x c,X.env.cells.lookup x=some c -> ∀v,s.heap.IsCell c v->h'.IsCell c v:=fun x c e v ⟨o,ho,hd⟩=>by
  have S_:c∉ch:=fun z=>(hch c z).2.2.1 x c e rfl
  by_cases hc:c∈X.fs
  ·obtain ⟨sl,q⟩:=slot c o (I.Q7 x c e) hc S_ ho (I.jX x c e)
   exact ⟨_,q,hd⟩
  ·exact ⟨o,keep c o (I.Q7 x c e) hc S_ ho (I.jX x c e),hd⟩
 refine ⟨I.ok,I.os,hg,⟨fun b o e n hb hx=> ?_,fun b o e n hb hx=> ?_,fun b o e n hx=> ?_,fun b o e hx=> ?_,fun b xs e=>tups b xs (I.base.tups b xs e),fun b o xs e=>qU b o xs (I.base.qU b o xs e),fun b ps e=> ?_⟩, ?_,fun x c e=> ?_, ?_,fun x c e=> ?_,fun p hp=> ?_,hok,I.len⟩
 ·exact keep b o (neL b o e) hb (VG b o e hx) (I.base.keep b o e n hb hx) (I.base.free b o e n hx)
 ·obtain ⟨sl,e1⟩:=I.base.slot b o e n hb hx
  obtain ⟨sl',e2⟩:=slot b _ (neL b o e) hb (VG b o e hx) e1 (I.base.free b o e n hx);exact ⟨sl',e2⟩
 ·obtain ⟨o',e1⟩:=I.base.there b o e hx
  exact free b o' (VG b o e hx) e1 (I.base.free b o e n hx)
 ·obtain ⟨o',e1⟩:=I.base.there b o e hx
  exact there b o' (VG b o e hx) e1
 ·obtain ⟨m1,e1⟩:=I.base.uL b ps e
  obtain ⟨m2,e2⟩:=uL b _ e1;exact ⟨m1++m2,by rw [e2,Array.append_assoc]⟩
 ·obtain ⟨m,hn,hl⟩:=I.loc
  refine ⟨m,ns m hn,fun i x v e1 e2 e3=> ?_⟩;obtain ⟨u,r,l⟩:=hl i x v e1 e2 e3;refine ⟨u,r, ?_⟩;rcases l with l|⟨k,c,e,z⟩
  ·exact .inl l
  ·exact .inr ⟨k,c,e,cellK x c e _ z⟩
 ·obtain ⟨v,z⟩:=I.cell x c e
  exact ⟨v,cellK x c e v z⟩
 ·obtain ⟨m,⟨o,_,_,ho,_⟩,_⟩:=I.loc
  exact free _ o (fun z=>(hch _ z).2.1 rfl) ho I.free
 ·obtain ⟨v,o,ho,hd⟩:=I.cell x c e
  exact free c o (fun z=>(hch c z).2.2.1 x c e rfl) ho (I.jX x c e)
 ·obtain ⟨e,n,ne,nf,d⟩:=I.pin p hp
  have S_:p.1∉ch:=fun z=>(hch p.1 z).2.2.2 p hp rfl;exact ⟨keep p.1 p.2 ne nf S_ e n,free p.1 p.2 S_ e n,ne,nf,d⟩
theorem Inv.un {t':Nat} (I:Inv X pins σ H s) (u:Un X.fs [] H H' s.heap h') (hok:nR X.prog X.w H' h'):Inv X pins σ H' {s with heap:=h',toks:=t'}:=by
 obtain ⟨m,⟨o,es,ep,ho,r⟩,_⟩:=id I.loc;obtain ⟨sl,hL⟩:=u.any ho I.free (by simp)
 exact I.step (g':=s.gens) (d':=s.drawn) (ch:=[]) (fun _ z=>nomatch z) (fun b o _ hb _ e n=>u.keep b o e n hb (by simp)) (fun b o _ hb _ e n=>u.slot b o e n hb (by simp)) (fun b o _ e n=>u.free b o e n (by simp)) (fun b o _ e=>u.there b o e (by simp)) u.tups u.qU u.uL (fun m' hm=>by
  obtain ⟨o',es',ep',ho',r'⟩:=hm;rw [ho] at ho';cases ho';exact ⟨_,es',ep',hL,r'⟩) hok I.bare
theorem Inv.call {g':Array GenState} {t':Nat} {d':Drawn} {ch:List Addr} (I:Inv X pins σ H s) (u:Un (frs X.stack) ch H H' s.heap h') (hok:nR X.prog X.w H' h') (hg:AllBare g')
 (hch:∀b∈ch,(b∈X.ex\/X.s₀.heap.objs.size<=b)/\b≠X.env.locals/\(∀x c,X.env.cells.lookup x=some c->c≠b) /\ ∀p∈X.pn++pins,p.1≠b):
 Inv X pins σ H' {s with heap:=h',gens:=g',drawn:=d',toks:=t'}:=by
 obtain ⟨m,⟨o,es,ep,ho,r⟩,_⟩:=id I.loc;obtain ⟨sl,hL⟩:=u.any ho I.free fun z=>(hch _ z).2.1 rfl
 exact I.step (ch:=ch) hch (fun b o hL hb hc e n=>u.keep b o e n (fun z=>(List.mem_cons.mp (I.vQ b z)).elim hL hb) hc) (fun b o _ _ hc e n=>u.any e n hc) (fun b o hc e n=>u.free b o e n hc) (fun b o hc e=>u.there b o e hc) u.tups u.qU u.uL (fun m' hm=>by
  obtain ⟨o',es',ep',ho',r'⟩:=hm;rw [ho] at ho';cases ho';exact ⟨_,es',ep',hL,r'⟩) hok hg
theorem Inv.turned {t':Nat} {it:Addr} (I:Inv X pins σ H s) (k:∀b o,b≠it->s.heap.get? b=some o->h'.get? b=some o) (hn:H it=none) (hL:it≠X.env.locals)
 (h1:it∈X.ex\/X.s₀.heap.objs.size<=it) (h2:∀x c,X.env.cells.lookup x=some c->c≠it) (h3:∀p∈X.pn++pins,p.1≠it):Inv X pins σ H {s with heap:=h',toks:=t'}:=by
 have Ql:∀b u,H b=some u->b≠it:=fun b u e z=>by rw [z,hn] at e;cases e
 refine I.step (g':=s.gens) (d':=s.drawn) (ch:=[it]) (fun b hb=> ?_) (fun b o _ _ hc e _=>k b o (fun z=>hc (by simp [z])) e) (fun b o _ _ hc e _=>⟨o.slots,k b o (fun z=>hc (by simp [z])) e⟩) (fun _ _ _ _ n=>n)
  (fun b o hc e=>⟨o,k b o (fun z=>hc (by simp [z])) e⟩) (fun _ _ e=>e) (fun _ _ _ e=>e) (fun b ps e=>⟨#[],by rw [e];simp⟩) (fun m hm=> ?_) (fun b u e=> ?_) I.bare
 ·have e:b=it:=by simpa using hb
  subst e;exact ⟨h1,hL,h2,h3⟩
 ·obtain ⟨o,es,ep,ho,r⟩:=hm
  exact ⟨o,es,ep,k _ o (Ne.symm hL) ho,r⟩
 ·refine (I.hok b u e).stay (fun c v hc q=>k c v ?_ q) (fun _ q=>q) fun _ _ q=>q
  rcases hc with z|z
  ·rw [z];exact Ql b u e
  ·exact Ql c _ z
theorem Inv.tok (I:Inv X pins σ H s) (t:Nat):Inv X pins σ H {s with toks:=t}:=I.un (h':=s.heap) (t':=t) Un.refl I.hok
theorem Inv.kept {t':Nat} (I:Inv X pins σ H s) (k:∀b u,s.heap.get? b=some u->h'.get? b=some u):Inv X pins σ H {s with heap:=h',toks:=t'}:=I.un (Un.kept k) (I.hok.kept k)
theorem Inv.laid {a:Addr} {o:HO} {t':Nat} (I:Inv X pins σ H s) (k:∀b u,s.heap.get? b=some u->h'.get? b=some u) (hp:s.heap.objs.size<=a) (new:cH X.prog X.w (upd H a o) h' a o):
 Inv X pins σ (upd H a o) {s with heap:=h',toks:=t'}:=I.un (Un.laid k hp (I.hok.fresh hp)) (I.hok.laid k hp new)
theorem Inv.write {x e:Addr} {o:HO} {t':Nat} (I:Inv X pins σ H s) (mu:Vm (H x)) (he:e=x\/H e=some (.own x)) (k:∀b u,b≠e->s.heap.get? b=some u->h'.get? b=some u) (heo:∃u,h'.get? e=some u)
 (new:cH X.prog X.w (upd H x o) h' x o):Inv X pins σ (upd H x o) {s with heap:=h',toks:=t'}:=I.un (Un.write mu he k heo) (I.hok.write mu he k heo new)
theorem Inv.Dn {Dp:List (Addr×Obj)} (I:Inv X pins σ H s) (h:∀p∈Dp,s.heap.get? p.1=some p.2/\H p.1=none/\p.1≠X.env.locals/\p.1∉X.fs /\ ∀v,p.2.data ≠ .cell v):Inv X Dp σ H s:=
 ⟨I.ok,I.os,I.bare,I.base,I.loc,I.cell,I.free,I.jX,fun p hp=>(List.mem_append.mp hp).elim (fun z=>I.pin p (List.mem_append_left _ z)) (h p),I.hok,I.len⟩
theorem yG {N:List Str} (hN:N.Nodup) {i j:Nat} {x:Str} (a:N[i]? = some x) (b:N[j]? = some x):i=j:=by
 obtain ⟨h1,e1⟩:=List.getElem?_eq_some_iff.mp a;obtain ⟨h2,e2⟩:=List.getElem?_eq_some_iff.mp b;exact (List.getElem_inj hN).mp (e1.trans e2.symm)
theorem u_ {M:Model} {A:Around} {E:Value->Shared->Prop} {i:Nat} {x:Str} {v:V} {u:Value} {Q:Unit->Shared->Prop} (I:Inv X pins σ H s) (hN:X.N.Nodup) (hi:X.N[i]? = some x) (hx:Loc X.env.scope x) (r:RelV v u)
 (h:∀s',Inv X pins (σ.set i (some v)) H s'->(∃a,Heap.SameBut a s.heap s'.heap/\(a=X.env.locals\/X.env.cells.lookup x=some a))->Q () s') (hf:X.fn x=true\/X.env.scope.names.lookup x=some .local:=by first |exact .inl rfl|exact .inr rfl|assumption):wpAny M A (storeName X.env x u) Q E s:=by
 obtain ⟨m,hn,hl⟩:=id I.loc;have hcls:(X.env.scope.kind == .class||(X.env.scope.kind == .module&&X.env.locals != X.env.globals))=false:=by rw [I.ok.kind];rfl
 have adt:i<σ.length:=by rw [I.len];exact (List.getElem?_eq_some_iff.mp hi).1
 have Q7:=I.Q7
 have tracked:∀{a:Addr} {h':Heap},(∃o,s.heap.get? a=some o/\H a=none)->Heap.SameBut a s.heap h'->nR X.prog X.w H h':=fun {a h'} ha hs b ob e=>by
  obtain ⟨_,_,hfree⟩:=ha;refine (I.hok b ob e).stay (fun c w' hc q=>(hs.2 c ?_).trans q) (fun _ q=>q) fun _ _ q=>q;rintro rfl;rcases hc with rfl|hc
  ·rw [hfree] at e;cases e
  ·rw [hfree] at hc;cases hc
 rcases hx with hk|hk
 ·refine wpAny_storeName_local hk hn (fun h' hn' hs=> ?_) hcls
  obtain ⟨oL,_,_,hoL,_⟩:=id hn;refine h _ ⟨I.ok,I.os,I.bare,⟨fun b o e n hb hx=> ?_,fun b o e n hb hx=> ?_,I.base.free,fun b o e hx=> ?_,I.base.tups,I.base.qU,I.base.uL⟩,⟨_,hn',fun j y v' e1 e2 e3=> ?_⟩,fun y c e=> ?_,I.free,I.jX,fun p hp=> ?_,tracked ⟨oL,hoL,I.free⟩ hs,by simpa using I.len⟩ ⟨_,hs,.inl rfl⟩
  ·exact (hs.2 b (Nat.ne_of_lt (Nat.lt_of_lt_of_le (Heap.lt_size e) I.ok.above))).trans (I.base.keep b o e n hb hx)
  ·obtain ⟨sl,e1⟩:=I.base.slot b o e n hb hx
   exact ⟨sl,(hs.2 b (Nat.ne_of_lt (Nat.lt_of_lt_of_le (Heap.lt_size e) I.ok.above))).trans e1⟩
  ·obtain ⟨o',e1⟩:=I.base.there b o e hx
   exact ⟨o',(hs.2 b (Nat.ne_of_lt (Nat.lt_of_lt_of_le (Heap.lt_size e) I.ok.above))).trans e1⟩
  ·by_cases hj:j=i
   ·subst hj
    rw [hi] at e1;cases e1;rw [List.getElem?_set_self adt] at e2;cases e2;exact ⟨u,r,.inl ⟨hk,by simp⟩⟩
   ·rw [List.getElem?_set_ne (Ne.symm hj)] at e2
    obtain ⟨u',r',q⟩:=hl j y v' e1 e2 e3;refine ⟨u',r', ?_⟩;rcases q with ⟨k,e⟩|⟨k,c,e,z⟩
    ·refine .inl ⟨k, ?_⟩
     have:y≠x:=fun e=>hj (yG hN e1 (e▸hi));simp [this,e]
    ·exact .inr ⟨k,c,e,z.sameBut hs (Q7 y c e)⟩
  ·obtain ⟨w',z⟩:=I.cell y c e
   exact ⟨w',z.sameBut hs (Q7 y c e)⟩
  ·obtain ⟨e,n,ne,nf,d⟩:=I.pin p hp
   exact ⟨(hs.2 p.1 ne).trans e,n,ne,nf,d⟩
 ·have hfn:X.fn x=true:=by
   rcases hf with z|z
   ·exact z
   ·rw [z] at hk;cases hk
  obtain ⟨c,hc⟩:=I.ok.has x (.inl hk);obtain ⟨w',z⟩:=I.cell x c hc;refine wpAny_storeName_cell I.ok.kind hk hc z (fun h' hc' hs=> ?_);obtain ⟨oc,hoc,aaI⟩:=id z;refine h {s with heap:=h'} ⟨I.ok,I.os,I.bare,⟨fun b o e n hb hx=> ?_,fun b o e n hb hx=> ?_,I.base.free,fun b o e hx=> ?_,I.base.tups,I.base.qU,I.base.uL⟩,⟨m,hn.sameBut hs (Ne.symm (Q7 x c hc)),fun j y v' e1 e2 e3=> ?_⟩,fun y c' e=> ?_,I.free,I.jX,fun p hp=> ?_,tracked ⟨oc,hoc,I.jX x c hc⟩ hs,by simpa using I.len⟩ ⟨c,hs,.inr hc⟩
  ·exact (hs.2 b (Nat.ne_of_lt (Nat.lt_of_lt_of_le (Heap.lt_size e) (I.ok.cab x c hfn hc)))).trans (I.base.keep b o e n hb hx)
  ·obtain ⟨sl,e1⟩:=I.base.slot b o e n hb hx
   exact ⟨sl,(hs.2 b (Nat.ne_of_lt (Nat.lt_of_lt_of_le (Heap.lt_size e) (I.ok.cab x c hfn hc)))).trans e1⟩
  ·obtain ⟨o',e1⟩:=I.base.there b o e hx
   exact ⟨o',(hs.2 b (Nat.ne_of_lt (Nat.lt_of_lt_of_le (Heap.lt_size e) (I.ok.cab x c hfn hc)))).trans e1⟩
  ·by_cases hj:j=i
   ·subst hj
    rw [hi] at e1;cases e1;rw [List.getElem?_set_self adt] at e2;cases e2;exact ⟨u,r,.inr ⟨.inl hk,c,hc,hc'⟩⟩
   ·rw [List.getElem?_set_ne (Ne.symm hj)] at e2
    obtain ⟨u',r',q⟩:=hl j y v' e1 e2 e3;refine ⟨u',r', ?_⟩;rcases q with q|⟨k,c',e,z'⟩
    ·exact .inl q
    ·refine .inr ⟨k,c',e,z'.sameBut hs ?_⟩
     rintro rfl;exact hj (yG hN e1 (I.ok.inj _ _ _ e hc▸hi))
  ·by_cases hcc:c'=c
   ·subst hcc;exact ⟨_,hc'⟩
   ·obtain ⟨w2,z2⟩:=I.cell y c' e
    exact ⟨w2,z2.sameBut hs hcc⟩
  ·obtain ⟨e,n,ne,nf,d⟩:=I.pin p hp
   refine ⟨(hs.2 p.1 ?_).trans e,n,ne,nf,d⟩;intro q;rw [q,hoc] at e;have q':oc=p.2:=Option.some.inj e;exact d w' (by rw [←q'];exact aaI)
theorem xW {M:Model} {A:Around} {E:Value->Shared->Prop} {i:Nat} {x:Str} {v:V} {u:Value} {Q:Unit->Shared->Prop} (I:Inv X pins σ H s) (hN:X.N.Nodup) (hi:X.N[i]? = some x) (hx:Loc X.env.scope x) (r:RelV v u)
 (h:∀s',Inv X pins (σ.set i (some v)) H s'->Q () s') (hf:X.fn x=true\/X.env.scope.names.lookup x=some .local:=by first |exact .inl rfl|exact .inr rfl|assumption):wpAny M A (storeName X.env x u) Q E s:=
 u_ I hN hi hx r (fun s' I' _=>h s' I') hf
theorem Inv.call' {s':Shared} {ch:List Addr} (I:Inv X pins σ H s) (ho:s'.os=s.os) (u:Un (frs X.stack) ch H H' s.heap s'.heap) (hok:nR X.prog X.w H' s'.heap) (hg:AllBare s'.gens)
 (hch:∀b∈ch,(b∈X.ex\/X.s₀.heap.objs.size<=b)/\b≠X.env.locals/\(∀x c,X.env.cells.lookup x=some c->c≠b) /\ ∀p∈X.pn++pins,p.1≠b):Inv X pins σ H' s':=by
 obtain ⟨h',g',d',t',o'⟩:=s';have e:o'=s.os:=ho;subst e;exact I.call (g':=g') (t':=t') (d':=d') u hok hg hch
end
abbrev XK:=Value->Option Addr->Hp->Prop
abbrev St:=List (Option V)
abbrev VK:=V->Hp->Prop
abbrev TE:=St->Hp->VK->Prop
abbrev TT:=St->Hp->(Bool->Hp->Prop)->Prop
abbrev TA:=St->Hp->(List V->Hp->Prop)->Prop
structure Ends where
 nx:St->Hp->Prop
 rt:VK
 bk:St->Hp->Prop:=fun _ _=>False
 ct:St->Hp->Prop:=fun _ _=>False
abbrev TS:=Ends->St->Hp->Prop
def EP (X:Cx) (pins:List (Addr×Obj)) (σ:St) (Q:VK) (u:Value) (s':Shared):Prop:=∃v H',Inv X pins σ H' s'/\RelV v u/\Q v H'
def TP (X:Cx) (pins:List (Addr×Obj)) (σ:St) (Q:Bool->Hp->Prop) (b:Bool) (s':Shared):Prop:=∃H',Inv X pins σ H' s'/\Q b H'
def AP (X:Cx) (pins:List (Addr×Obj)) (σ:St) (Q:List V->Hp->Prop) (us:List Value) (s':Shared):Prop:=∃vs H',Inv X pins σ H' s'/\Vals vs us/\Q vs H'
def SP (X:Cx) (pins:List (Addr×Obj)) (D:Ends) (f:Flow) (s':Shared):Prop:=
 match f with
 | .next=>∃σ' H',Inv X pins σ' H' s'/\D.nx σ' H'
 | .brk=>∃σ' H',Inv X pins σ' H' s'/\D.bk σ' H'
 | .cont=>∃σ' H',Inv X pins σ' H' s'/\D.ct σ' H'
 | .ret u=>∃v σ' H',Inv X pins σ' H' s'/\RelV v u/\D.rt v H'
def PE (X:Cx) (e:Expr) (t:TE):Prop:=
 ∀(pins:List (Addr×Obj)) (s:Shared) (σ:St) (H:Hp) (Q:VK),Inv X pins σ H s->t σ H Q->wpAny (model X.prog X.w) X.A (eval e X.env) (EP X pins σ Q) X.xe s
def PT (X:Cx) (e:Expr) (t:TT):Prop:=
 ∀(pins:List (Addr×Obj)) (s:Shared) (σ:St) (H:Hp) (Q:Bool->Hp->Prop),Inv X pins σ H s->t σ H Q->wpAny (model X.prog X.w) X.A (isTrue e X.env (eval e X.env)) (TP X pins σ Q) X.xe s
def PW (X:Cx) (e:Expr) (t:TT):Prop:=
 ∀(whole:Sem Value) (pins:List (Addr×Obj)) (s:Shared) (σ:St) (H:Hp) (Q:Bool->Hp->Prop),Inv X pins σ H s->t σ H Q->wpAny (model X.prog X.w) X.A (isTrue e X.env whole) (TP X pins σ Q) X.xe s
theorem PW.pt {X:Cx} {e:Expr} {t:TT} (h:PW X e t):PT X e t:=h _
def PA (X:Cx) (es:List Expr) (t:TA):Prop:=
 ∀(pos:Pos) (pins:List (Addr×Obj)) (s:Shared) (σ:St) (H:Hp) (Q:List V->Hp->Prop),Inv X pins σ H s->t σ H Q->wpAny (model X.prog X.w) X.A (spliced (backTo pos (starEach es X.env))) (AP X pins σ Q) X.xe s
def PS (X:Cx) (st:Stmt) (t:TS):Prop:=
 ∀(pins:List (Addr×Obj)) (s:Shared) (σ:St) (H:Hp) (D:Ends),Inv X pins σ H s->t D σ H->wpAny (model X.prog X.w) X.A (exec st X.env) (SP X pins D) X.xe s
def Gz (X:Cx) (st:List Stmt) (t:TS):Prop:=
 ∀(pins:List (Addr×Obj)) (s:Shared) (σ:St) (H:Hp) (D:Ends),Inv X pins σ H s->t D σ H->wpAny (model X.prog X.w) X.A (execs st X.env) (SP X pins D) X.xe s
theorem cU {α:Type} {t:Sem α} {Q Q':α->Shared->Prop} {M:Model} {A:Around} {E:Value->Shared->Prop} {s:Shared} (h:wpAny M A t Q E s) (hQ:∀a s,Q a s->Q' a s):wpAny M A t Q' E s:=wpAny_mono h hQ fun _ _ x=>x
end L2
namespace L2
open PySem PySem.Spec PyProof.Rows
section
variable {X:Cx}
def rY (i:Nat):TE:=fun σ H Q=>∃v,σ[i]? = some (some v)/\Q v H
def tC (v:V):TE:=fun _ H Q=>Q v H
theorem PN {i:Nat} {x:Str} {pos:Pos} (hN:X.N[i]? = some x) (hv:Vis X.env.scope x) (hd:(x==("__debug__" :Str))=false:=by decide) (hcd:(x==("__classdict__" :Str))=false:=by decide):PE X (.Name x pos) (rY i):=by
 intro pins s σ H Q I h;obtain ⟨v,e,h⟩:=h;obtain ⟨m,hn,hl⟩:=I.loc;obtain ⟨u,r,l⟩:=hl i x v hN e hv;have fin:EP X pins σ Q u s:=⟨v,H,I,r,h⟩;rcases l with ⟨hk,hm⟩|⟨hk,c,hc,hcell⟩
 ·exact wpAny_Name (wpAny_loadName_local I.ok.kind hk hn hm fin) hd
 ·rcases hk with hk|hk
  ·exact wpAny_Name (wpAny_loadName_cell I.ok.kind hk hc hcell fin) hd
  ·exact wpAny_Name (wpAny_loadName_free I.ok.kind hk hc hcell fin hcd) hd
theorem aD {i j pos}:PE X (.Constant (.int i) j pos) (tC (.int i)):=fun _ _ _ H _ I h=>wpAny_Constant_int ⟨.int i,H,I.tok _,⟨_,rfl⟩,h⟩
theorem mW {b j pos}:PE X (.Constant (.bool b) j pos) (tC (.bl b)):=fun _ _ _ H _ I h=>Constant_bool ⟨.bl b,H,I,rfl,h⟩
theorem A_ {j pos}:PE X (.Constant .none j pos) (tC .non):=fun _ _ _ H _ I h=>Constant_none ⟨.non,H,I,rfl,h⟩
theorem cC {x j pos}:PE X (.Constant (.str x) j pos) (tC (.str x)):=fun _ _ _ H _ I h=>Calls.Constant_str ⟨.str x,H,I.tok _,⟨_,rfl⟩,h⟩
def Gl (X:Cx) (x:Str):Prop:=X.env.kindOf x=some .globalImplicit
theorem wJ {E:Value->Shared->Prop} {pins:List (Addr×Obj)} {s:Shared} {σ:St} {H:Hp} {x:Str} {u:Value} {pos:Pos} {Q:Value->Shared->Prop} (I:Inv X pins σ H s) (hg:Gl X x) (hm:X.mg x=some u) (h:Q u s)
 (hd:(x==("__debug__" :Str))=false:=by decide):wpAny (model X.prog X.w) X.A (eval (.Name x pos) X.env) Q E s:=
 Calls.Name_function_global I.ok.kind hg (Calls.loadGlobal_global (by rw [I.ok.glob];exact I.mod.glob.keeps I.bk) hm h) hd
theorem pW {E:Value->Shared->Prop} {pins:List (Addr×Obj)} {s:Shared} {σ:St} {H:Hp} {x:Str} {u:Value} {pos:Pos} {Q:Value->Shared->Prop} (I:Inv X pins σ H s) (hg:Gl X x) (hm:X.mg x=none) (hv:bootBuiltins x=some u) (h:Q u s)
 (hn:x ≠ "__name__" :=by decide) (hd:(x==("__debug__" :Str))=false:=by decide):wpAny (model X.prog X.w) X.A (eval (.Name x pos) X.env) Q E s:=by
 obtain ⟨mb,h1,h2⟩:=I.mod.blt;exact Calls.Name_function_global I.ok.kind hg (Calls.loadGlobal_builtin (by rw [I.ok.glob];exact I.mod.glob.keeps I.bk) hm (by rw [I.ok.blt];exact h1.keeps I.bk) ((h2 x hn).trans hv) h) hd
theorem Lr {x:Str} {v:V} {u:Value} {pos:Pos} (hg:Gl X x) (hm:X.mg x=some u) (r:RelV v u) (hd:(x==("__debug__" :Str))=false:=by decide):PE X (.Name x pos) (tC v):=
 fun _ _ _ H _ I h=>wJ I hg hm ⟨v,H,I,r,h⟩ hd
theorem gM {x:Str} {v:V} {u:Value} {pos:Pos} (hg:Gl X x) (hm:X.mg x=none) (hv:bootBuiltins x=some u) (r:RelV v u) (hn:x ≠ "__name__" :=by decide) (hd:(x==("__debug__" :Str))=false:=by decide):PE X (.Name x pos) (tC v):=
 fun _ _ _ H _ I h=>pW I hg hm hv ⟨v,H,I,r,h⟩ hn hd
variable {a b:Expr} {ta tb:TE} {pos:Pos}
def tB (t:TE):TT:=fun σ H Q=>t σ H fun x H1=>∃c,x = .bl c/\Q c H1
theorem g_ {e:Expr} {t:TE} (h:PE X e t) (he:∀whole,isTrue e X.env whole=(do let v ←whole;standAt e.pos;holding [v] (truthy v)):=by intro _;rfl):PT X e (tB t):=by
 intro pins s σ H Q I hw;refine isTrue_plain (cU (h pins s σ H _ I hw) fun v s1 ⟨x,H1,I1,r1,q1⟩=> ?_) (he _);obtain ⟨d,rfl,q⟩:=q1;cases r1;exact wpAny_truthy_bool ⟨H1,I1,q⟩
variable {tA Vv:TT} {rest:List Expr}
def Xc (t u:TT):TT:=fun σ H Q=>t σ H fun c H1=>if c=true then u σ H1 Q else Q false H1
def tOr (t u:TT):TT:=fun σ H Q=>t σ H fun c H1=>if c=true then Q true H1 else u σ H1 Q
def W8 (t:TT):TT:=fun σ H Q=>t σ H fun c H1=>Q (!c) H1
theorem rm (ha:PT X a tA):PW X (.BoolOp .And [a] pos) tA:=by
 intro wh pins s σ H Q I h;refine isTrue_and (cU (ha pins s σ H Q I h) fun c s1 e=> ?_);cases c with
 | true=>exact isTrue_and_nil e
 | false=>exact e
theorem wu (ha:PT X a tA):PW X (.BoolOp .Or [a] pos) tA:=by
 intro wh pins s σ H Q I h;refine isTrue_or (cU (ha pins s σ H Q I h) fun c s1 e=> ?_);cases c with
 | false=>exact isTrue_or_nil e
 | true=>exact e
theorem wz (ha:PT X a tA) (hb:PW X (.BoolOp .And (b::rest) pos) Vv):PW X (.BoolOp .And (a::b::rest) pos) (Xc tA Vv):=by
 intro wh pins s σ H Q I h;refine isTrue_and (cU (ha pins s σ H _ I h) fun c s1 ⟨H1,I1,q1⟩=> ?_);cases c with
 | true=>exact hb wh pins s1 σ H1 Q I1 q1
 | false=>exact ⟨H1,I1,q1⟩
theorem Dj (ha:PT X a tA) (hb:PW X (.BoolOp .Or (b::rest) pos) Vv):PW X (.BoolOp .Or (a::b::rest) pos) (tOr tA Vv):=by
 intro wh pins s σ H Q I h;refine isTrue_or (cU (ha pins s σ H _ I h) fun c s1 ⟨H1,I1,q1⟩=> ?_);cases c with
 | true=>exact ⟨H1,I1,q1⟩
 | false=>exact hb wh pins s1 σ H1 Q I1 q1
theorem jN (ha:PT X a tA):PT X (.UnaryOp .Not a pos) (W8 tA):=by
 intro pins s σ H Q I h;exact isTrue_not (ha pins s σ H (fun c H1=>Q (!c) H1) I h)
def RW (ta tb:TE):TE:=fun σ H Q=>ta σ H fun x H1=>∃c,x = .bl c/\if c=true then tb σ H1 Q else Q (.bl false) H1
def RL (ta tb:TE):TE:=fun σ H Q=>ta σ H fun x H1=>∃c,x = .bl c/\if c=true then Q (.bl true) H1 else tb σ H1 Q
def RM (ta:TE):TE:=fun σ H Q=>ta σ H fun x H1=>∃c,x = .bl c/\Q (.bl (!c)) H1
theorem m9 {op} {t:TE} (h:PE X a t):PE X (.BoolOp op [a] pos) t:=fun pins s σ H Q I hw=>BoolOp_one (h pins s σ H Q I hw)
theorem pO (ha:PE X a ta) (hb:PE X (.BoolOp .And (b::rest) pos) tb):PE X (.BoolOp .And (a::b::rest) pos) (RW ta tb):=by
 intro pins s σ H Q I h;refine BoolOp_and (cU (ha pins s σ H _ I h) fun v s1 ⟨x,H1,I1,r1,q1⟩=> ?_);obtain ⟨c,rfl,q1⟩:=q1;cases r1;refine wpAny_truthy_bool ?_;cases c with
 | true=>exact hb pins s1 σ H1 Q I1 q1
 | false=>exact ⟨.bl false,H1,I1,rfl,q1⟩
theorem Ib (ha:PE X a ta) (hb:PE X (.BoolOp .Or (b::rest) pos) tb):PE X (.BoolOp .Or (a::b::rest) pos) (RL ta tb):=by
 intro pins s σ H Q I h;refine BoolOp_or (cU (ha pins s σ H _ I h) fun v s1 ⟨x,H1,I1,r1,q1⟩=> ?_);obtain ⟨c,rfl,q1⟩:=q1;cases r1;refine wpAny_truthy_bool ?_;cases c with
 | false=>exact hb pins s1 σ H1 Q I1 q1
 | true=>exact ⟨.bl true,H1,I1,rfl,q1⟩
theorem Ie (ha:PE X a ta):PE X (.UnaryOp .Not a pos) (RM ta):=by
 intro pins s σ H Q I h;refine UnaryOp_ (cU (ha pins s σ H _ I h) fun v s1 ⟨x,H1,I1,r1,q1⟩=> ?_);obtain ⟨c,rfl,q1⟩:=q1;cases r1;exact not_of (wpAny_truthy_bool ⟨.bl (!c),H1,I1,rfl,q1⟩)
def tIf (t:TT) (ta tb:TE):TE:=fun σ H Q=>t σ H fun c H1=>if c=true then ta σ H1 Q else tb σ H1 Q
theorem Ii {c:Expr} (hc:PT X c tA) (ha:PE X a ta) (hb:PE X b tb):PE X (.IfExp c a b pos) (tIf tA ta tb):=by
 intro pins s σ H Q I h;refine wpAny_IfExp (cU (hc pins s σ H _ I h) fun d s1 ⟨H1,I1,q1⟩=> ?_);cases d with
 | true=>exact ha pins s1 σ H1 Q I1 q1
 | false=>exact hb pins s1 σ H1 Q I1 q1
end
end L2
namespace L2
open PySem PySem.Spec PyProof.Rows
def bf (K:PySem.W.Frag) (H:Hp) (a:Addr) (xs:List V):Prop:=
 Rd H a (.lst xs) \/
  ∃(o:Obj) (its:Array Value) (n:Nat),K.lookup a=some o/\o.cls = .type "list" /\ o.dict=none/\o.data = .seq its n/\its.size<=sizeLine/\Vals xs its.toList
def dZ (K:PySem.W.Frag) (H:Hp) (a:Addr) (xs:List V):Prop:=
 Rd H a (.tup xs) \/
  ∃(o:Obj) (its:Array Value) (n:Nat),K.lookup a=some o/\o.cls = .type "tuple" /\ o.data = .seq its n/\its.size<=sizeLine/\Vals xs its.toList
def acq:Value->Option V
 | .none=>some .non
 | .bool b=>some (.bl b)
 | .int i _=>some (.int i)
 | .str x _=>some (.str x)
 | .bytes b _=>some (.Ci b)
 | .float b _=>some (.flt b)
 | .ref a=>some (.ref a)
 | .type n=>some (.ty n)
 | _=>none
theorem RelV.abs {x:V} {u:Value} (r:RelV x u):acq u=some x:=by
 cases x with
 | non=>cases r;rfl
 | bl _=>cases r;rfl
 | int _=>obtain ⟨t,rfl⟩:=r;rfl
 | str _=>obtain ⟨t,rfl⟩:=r;rfl
 | Ci _=>obtain ⟨t,rfl⟩:=r;rfl
 | flt _=>obtain ⟨t,rfl⟩:=r;rfl
 | ref _=>cases r;rfl
 | ty _=>cases r;rfl
theorem RelV.inj {x y:V} {u:Value} (r:RelV x u) (q:RelV y u):x=y:=Option.some.inj (r.abs.symm.trans q.abs)
theorem Vals.inj {xs ys:List V} {us:List Value} (h:Vals xs us) (h':Vals ys us):xs=ys:=by
 induction h generalizing ys with
 | nil=>cases h';rfl
 | cons r t ih=>cases h' with
   | cons r' t'=>rw [r.inj r',ih t']
section
variable {X:Cx} {pins:List (Addr×Obj)} {σ:St} {H:Hp} {s:Shared} {a:Addr} {xs ys:List V}
theorem bf.of {K:PySem.W.Frag} (h:H a=some (.lst xs)):bf K H a xs:= .inl (.inl h)
theorem dZ.of {K:PySem.W.Frag} (h:H a=some (.tup xs)):dZ K H a xs:= .inl (.inl h)
theorem Inv.list (I:Inv X pins σ H s) (h:bf X.K H a xs):∃its:List Value,Vals xs its/\PlainL s.heap a its.toArray/\xs.length<=sizeLine:=by
 rcases h with h|⟨o,its,n,hk,hc,hd,hs,hz,r⟩
 ·obtain ⟨z,its,n,r,e⟩:=h.ok I.hok
  exact ⟨its,r,⟨_,n,e,rfl,rfl,rfl⟩,z⟩
 ·refine ⟨its.toList,r,⟨o,n,I.nj a o hk,hc,hd,by simpa using hs⟩, ?_⟩
  have e:=r.length;simp only [Array.length_toList] at e;omega
theorem Inv.tuple (I:Inv X pins σ H s) (h:dZ X.K H a xs):∃its:List Value,Vals xs its/\IsTup s.heap a its.toArray/\xs.length<=sizeLine:=by
 rcases h with h|⟨o,its,n,hk,hc,hs,hz,r⟩
 ·obtain ⟨z,its,r,p⟩:=h.ok I.hok
  exact ⟨its,r,p,z⟩
 ·refine ⟨its.toList,r,⟨o,I.nj a o hk,hc,n,by simpa using hs⟩, ?_⟩
  have e:=r.length;simp only [Array.length_toList] at e;omega
theorem Inv.tL (I:Inv X pins σ H s) (h:bf X.K H a xs) (h':bf X.K H a ys):xs=ys:=by
 obtain ⟨its,r,⟨o,n,e,_,_,d⟩,_⟩:=I.list h;obtain ⟨its',r',⟨o',n',e',_,_,d'⟩,_⟩:=I.list h';rw [e] at e';cases e';rw [d] at d';injection d' with d1 _
 have:its=its':=by simpa using congrArg Array.toList d1
 subst this;exact r.inj r'
theorem Inv.Es (I:Inv X pins σ H s) (h:dZ X.K H a xs) (h':dZ X.K H a ys):xs=ys:=by
 obtain ⟨its,r,⟨o,e,_,n,d⟩,_⟩:=I.tuple h;obtain ⟨its',r',⟨o',e',_,n',d'⟩,_⟩:=I.tuple h';rw [e] at e';cases e';rw [d] at d';injection d' with d1 _
 have:its=its':=by simpa using congrArg Array.toList d1
 subst this;exact r.inj r'
end
abbrev Cx.wish (X:Cx) (E:Value->Shared->Prop):Cx:={X with xe:=E}
abbrev Cx.VF (X:Cx):Cx:=X.wish fun _ _=>False
theorem Cx.Ok.wish {X:Cx} (ok:X.Ok) (E:Value->Shared->Prop):(X.wish E).Ok:=
 ⟨ok.mod,ok.kind,ok.glob,ok.blt,ok.above,ok.inj,ok.has,ok.cab,ok.hd,ok.frames,ok.stk,ok.exf,ok.bs,ok.JW,ok.Ja,ok.M7,ok.p7,ok.Ow⟩
theorem Cx.Ok.kh {X:Cx} {E:Value->Shared->Prop} (ok:(X.wish E).Ok):X.Ok:=
 ⟨ok.mod,ok.kind,ok.glob,ok.blt,ok.above,ok.inj,ok.has,ok.cab,ok.hd,ok.frames,ok.stk,ok.exf,ok.bs,ok.JW,ok.Ja,ok.M7,ok.p7,ok.Ow⟩
section
variable {X:Cx} {pins:List (Addr×Obj)} {σ:St} {H:Hp} {s:Shared} {E:Value->Shared->Prop}
theorem Inv.wish (I:Inv X pins σ H s) (E:Value->Shared->Prop):Inv (X.wish E) pins σ H s:=⟨I.ok.wish E,I.os,I.bare,I.base,I.loc,I.cell,I.free,I.jX,I.pin,I.hok,I.len⟩
theorem Inv.kh (I:Inv (X.wish E) pins σ H s):Inv X pins σ H s:=⟨I.ok.kh,I.os,I.bare,I.base,I.loc,I.cell,I.free,I.jX,I.pin,I.hok,I.len⟩
theorem SP.kh {D:Ends} {f:Flow} {s':Shared} (h:SP (X.wish E) pins D f s'):SP X pins D f s':=by
 cases f with
 | next=>obtain ⟨σ',H',I,q⟩:=h;exact ⟨σ',H',I.kh,q⟩
 | brk=>obtain ⟨σ',H',I,q⟩:=h;exact ⟨σ',H',I.kh,q⟩
 | cont=>obtain ⟨σ',H',I,q⟩:=h;exact ⟨σ',H',I.kh,q⟩
 | ret u=>obtain ⟨v,σ',H',I,r,q⟩:=h;exact ⟨v,σ',H',I.kh,r,q⟩
theorem Gz.VF {st:List Stmt} {t:TS} (h:Gz X.VF st t):Gz X st t:=fun pins s σ H D I hw=>
 wpAny_mono (h pins s σ H D (I.wish _) hw) (fun _ _ q=>q.kh) fun _ _ z=>False.elim z
end
section
variable {X:Cx} {st:Stmt} {rest:List Stmt} {t u:TS} {e:Expr} {te:TE} {pos:Pos}
def G_:TS:=fun D σ H=>D.nx σ H
def O9 (t u:TS):TS:=fun D σ H=>t {D with nx:=u D} σ H
theorem bW:Gz X [] G_:=fun _ _ σ H _ I h=>wpAny_execs_nil ⟨σ,H,I,h⟩
theorem aC (h1:PS X st t) (h2:Gz X rest u):Gz X (st::rest) (O9 t u):=by
 intro pins s σ H D I h;refine wpAny_execs_cons (cU (h1 pins s σ H {D with nx:=u D} I h) fun f s1 q=> ?_);cases f with
 | next=>
   obtain ⟨σ',H',I',q⟩:=q;exact h2 pins s1 σ' H' D I' q
 | ret v=>exact q
 | brk=>exact q
 | cont=>exact q
theorem aG (h1:PS X st t):Gz X [st] t:=by
 intro pins s σ H D I h;refine wpAny_execs_cons (cU (h1 pins s σ H D I h) fun f s1 q=> ?_);cases f with
 | next=>exact wpAny_execs_nil q
 | ret v=>exact q
 | brk=>exact q
 | cont=>exact q
theorem Inv.quiet {pins:List (Addr×Obj)} {σ:St} {H:Hp} {s:Shared} (I:Inv X pins σ H s):interactive X.env=false:=by simp [interactive,I.ok.kind]
def RP (te:TE):TS:=fun D σ H=>te σ H fun _ H1=>D.nx σ H1
theorem cV (he:PE X e te) (hs:swapsWith e none pos.line X.env=pure false:=by rfl):PS X (.Expr e pos) (RP te):=by
 intro pins s σ H D I h;exact wpAny_Expr_any (cU (he pins s σ H _ I h) fun v s1 ⟨x,H1,I1,r1,q1⟩=>⟨σ,H1,I1,q1⟩) I.quiet hs
def Kz (te:TE):TS:=fun D σ H=>te σ H D.rt
theorem aX (he:PE X e te):PS X (.Return (some e) pos) (Kz te):=by
 intro pins s σ H D I h;exact wpAny_Return_some (cU (he pins s σ H _ I h) fun v s1 ⟨x,H1,I1,r1,q1⟩=>⟨x,σ,H1,I1,r1,q1⟩)
def RN (c:TT) (t u:TS):TS:=fun D σ H=>c σ H fun b H1=>if b=true then t D σ H1 else u D σ H1
theorem dF {c:Expr} {a b:List Stmt} {tc:TT} (hc:PT X c tc) (ha:Gz X a t) (hb:Gz X b u):PS X (.If c a b pos) (RN tc t u):=by
 intro pins s σ H D I h;refine wpAny_If (cU (hc pins s σ H _ I h) fun d s1 ⟨H1,I1,q1⟩=> ?_);cases d with
 | true=>exact ha pins s1 σ H1 D I1 q1
 | false=>exact hb pins s1 σ H1 D I1 q1
def O_:TS:=fun _ _ _=>False
theorem yj:PS X st O_:=fun _ _ _ _ _ _ h=>h.elim
end
abbrev TG:=V->St->Hp->(St->Hp->Prop)->Prop
abbrev O2:=List V->St->Hp->(St->Hp->Prop)->Prop
def PG (X:Cx) (target:Expr) (t:TG):Prop:=
 ∀(pins:List (Addr×Obj)) (s:Shared) (σ:St) (H:Hp) (v:V) (u:Value) (Q:St->Hp->Prop),Inv X pins σ H s->RelV v u->t v σ H Q ->
  wpAny (model X.prog X.w) X.A (assign target X.env u) (fun _ s'=>∃σ' H',Inv X pins σ' H' s'/\Q σ' H') X.xe s
def Vk (X:Cx) (ts:List Expr) (t:O2):Prop:=
 ∀(pins:List (Addr×Obj)) (s:Shared) (σ:St) (H:Hp) (vs:List V) (us:List Value) (Q:St->Hp->Prop),Inv X pins σ H s->Vals vs us->t vs σ H Q ->
  wpAny (model X.prog X.w) X.A (assignInOrder ((assignEach ts X.env).map (·.2)) us) (fun _ s'=>∃σ' H',Inv X pins σ' H' s'/\Q σ' H') X.xe s
abbrev Rb:=V->V->V->Hp->(Hp->Prop)->Prop
def Vj (X:Cx) (t:Rb):Prop:=
 ∀(pins:List (Addr×Obj)) (s:Shared) (σ:St) (H:Hp) (o i v:V) (ov iv u:Value) (Q:Hp->Prop),Inv X pins σ H s->RelV o ov->RelV i iv->RelV v u->t o i v H Q ->
  wpAny (model X.prog X.w) X.A (setItem ov iv u) (fun _ s'=>∃H',Inv X pins σ H' s'/\Q H') X.xe s
section
variable {X:Cx} {pos:Pos}
def gk (i:Nat):TG:=fun v σ H Q=>Q (σ.set i (some v)) H
theorem aU {i:Nat} {x:Str} (hN:X.N.Nodup) (hi:X.N[i]? = some x) (hx:Loc X.env.scope x) (hf:X.fn x=true\/X.env.scope.names.lookup x=some .local:=by first |exact .inl rfl|exact .inr rfl|assumption):PG X (.Name x pos) (gk i):=by
 intro pins s σ H v u Q I r h;exact wpAny_assign_Name (xW I hN hi hx r (fun s' I'=>⟨_,H,I',h⟩) hf)
def TV:O2:=fun vs σ H Q=>vs=[]/\Q σ H
def Jz (t:TG) (u:O2):O2:=fun vs σ H Q=>∃v r,vs=v::r/\t v σ H fun σ' H'=>u r σ' H' Q
theorem lO:Vk X [] TV:=by
 intro pins s σ H vs us Q I r h;obtain ⟨e,h⟩:=h;subst e;cases r;exact assignInOrder_nil ⟨σ,H,I,h⟩
theorem cB {e:Expr} {es:List Expr} {t:TG} {u:O2} (h1:PG X e t) (h2:Vk X es u)
 (hs:(assignEach (e::es) X.env).map (·.2)=assign e X.env::(assignEach es X.env).map (·.2):=by rfl):Vk X (e::es) (Jz t u):=by
 intro pins s σ H vs us Q I r h;obtain ⟨v,vr,e1,h⟩:=h;subst e1;cases r with
 | cons r rr=>
   rw [hs];refine assignInOrder_cons (cU (h1 pins s σ H _ _ _ I r h) fun _ s1 ⟨σ1,H1,I1,q1⟩=> ?_);exact h2 pins s1 σ1 H1 _ _ Q I1 rr q1
def QM (K:PySem.W.Frag) (n:Nat) (t:O2):TG:=fun v σ H Q=>∃a xs,v = .ref a/\dZ K H a xs/\xs.length=n/\t xs σ H Q
theorem PL {es:List Expr} {k:Nat} {t:O2} {n:Nat} (hc:X.calm=true) (h:Vk X es t)
 (hn:(assignEach es X.env).length=n:=by rfl) (hst:(assignEach es X.env).findIdx? (·.1)=none:=by rfl):PG X (.Tuple es k pos) (QM X.K n t):=by
 intro pins s σ H v u Q I r hw;obtain ⟨a,xs,e1,hq,hl,hw⟩:=hw;subst e1;cases r;obtain ⟨its,rv,ht,hz⟩:=I.tuple hq;refine assign_Tuple_tuple (I.ok.hd hc) ht (by simp [hn,←hl,rv.length]) hst fun h' hx=> ?_;have I1:Inv X pins σ H {s with heap:=h'}:=I.kept (t':=s.toks) fun b o e=>hx b o (Nat.ne_of_lt (Heap.lt_size e)) e;exact h pins _ σ H xs _ Q I1 (by simpa using rv) hw
def aaO (to ti:TE) (t:Rb):TG:=fun v σ H Q=>to σ H fun o H1=>ti σ H1 fun i H2=>t o i v H2 fun H3=>Q σ H3
theorem kJ {o i:Expr} {to ti:TE} {t:Rb} (ho:PE X o to) (hi:PE X i ti) (hs:Vj X t)
 (ha:∀v,assign (.Subscript o i pos) X.env v=(do
   let ov ←holding [v] (eval o X.env)
   let iv ←holding [v,ov] (eval i X.env)
   standAt pos
   holding [v,ov,iv] (setItem ov iv v)
   release [v,ov,iv] []):=by intro _;rfl):PG X (.Subscript o i pos) (aaO to ti t):=by
 intro pins s σ H v u Q I r h;rw [ha];refine wpAny_bind (wpAny_holding (cU (ho pins s σ H _ I h) fun ov s1 ⟨x,H1,I1,r1,q1⟩=> ?_));refine wpAny_bind (wpAny_holding (cU (hi pins s1 σ H1 _ I1 q1) fun iv s2 ⟨y,H2,I2,r2,q2⟩=> ?_));refine wpAny_bind (wpAny_standAt (wpAny_bind (wpAny_holding (cU (hs pins s2 σ H2 x y v ov iv u _ I2 r1 r2 r q2) fun _ s3 ⟨H3,I3,q3⟩=> ?_))));exact wpAny_release ⟨σ,H3,I3,q3⟩
def Pg (te:TE) (g:TG):TS:=fun D σ H=>te σ H fun x H1=>g x σ H1 D.nx
theorem jg {tg e:Expr} {te:TE} {g:TG} (he:PE X e te) (hg:PG X tg g) (hs:swapsWithSole [tg] e pos.line X.env=pure false:=by rfl) (hw:swappedStores [tg] e X.env=pure none:=by rfl)
 (h1:(assignEach [tg] X.env).map (·.2)=[assign tg X.env]:=by rfl):PS X (.Assign [tg] e pos) (Pg te g):=by
 intro pins s σ H D I h;refine wpAny_Assign_stores (cU (he pins s σ H _ I h) fun v s1 ⟨x,H1,I1,r1,q1⟩=> ?_) hs hw;rw [h1];exact cU (hg pins s1 σ H1 x v _ I1 r1 q1) fun _ s2 q=>q
theorem aR {i:Nat} {x:Str} {e:Expr} {te:TE} {pos':Pos} (hN:X.N.Nodup) (hi:X.N[i]? = some x) (hx:Loc X.env.scope x) (he:PE X e te) (hs:swapsWith e (some (.Name x pos')) pos.line X.env=pure false:=by rfl) (hf:X.fn x=true\/X.env.scope.names.lookup x=some .local:=by first |exact .inl rfl|exact .inr rfl|assumption):
 PS X (.Assign [.Name x pos'] e pos) (Pg te (gk i)):=by
 intro pins s σ H D I h;refine wpAny_Assign_Name (cU (he pins s σ H _ I h) fun v s1 ⟨y,H1,I1,r1,q1⟩=> ?_) hs;exact xW I1 hN hi hx r1 (fun s2 I2=>⟨_,H1,I2,q1⟩) hf
end
section
variable {X:Cx} {pos:Pos}
end
structure It where
 go:Nat->Hp->Prop
 O6:Nat->Hp->V->Hp->Prop
 stop:Nat->Hp->Prop
def nM (X:Cx) (pins:List (Addr×Obj)) (H:Hp) (b:Addr):Prop:=
 H b=none/\b≠X.env.locals/\b∉X.fs/\(b∈X.ex\/X.s₀.heap.objs.size<=b)/\(∀x c,X.env.cells.lookup x=some c->c≠b) /\ ∀p∈X.pn++pins,p.1≠b
theorem Inv.zf {X:Cx} {pins:List (Addr×Obj)} {σ:St} {H H':Hp} {s:Shared} {b:Addr} (I:Inv X pins σ H s) (hb:s.heap.objs.size<=b) (hn:H' b=none):nM X pins H' b:=by
 refine ⟨hn,Nat.ne_of_gt (Nat.lt_of_lt_of_le I.lt hb),I.Zy hb,.inr (Nat.le_trans I.sz hb),fun x c e z=> ?_,fun p hp z=> ?_⟩
 ·obtain ⟨v,q⟩:=I.cell x c e
  exact absurd (Nat.lt_of_lt_of_le q.lt (by rw [z];exact hb)) (Nat.lt_irrefl _)
 ·exact absurd (Nat.lt_of_lt_of_le (Heap.lt_size (I.pin p hp).1) (by rw [z];exact hb)) (Nat.lt_irrefl _)
structure Turn (P:Program) (w:World) (K:PySem.W.Frag) (tg:Expr) (J:It) (fp:List Addr) (it:Addr) (tn:Nat->Heap->Prop):Prop where
 mem:it∈fp
 obj:∀i h,tn i h -> ∀b∈fp,∃o,h.get? b=some o /\ ∀v,o.data ≠ .cell v
 keep:∀i h h',tn i h->(∀b∈fp,∀o,h.get? b=some o->h'.get? b=some o)->tn i h'
 item:∀(X:Cx),X.prog=P->X.w=w->X.K=K->X.calm=true -> ∀(i:Nat) (pins:List (Addr×Obj)) (s:Shared) (σ:St) (H:Hp) (E:Value->Shared->Prop),Inv X pins σ H s->(∀b∈fp,nM X pins H b)->tn i s.heap->J.go i H ->
  wpAny (model P w) X.A (pyNext (.ref it)) (fun r s1=>∃u,r=some u /\
   wpAny (model P w) X.A (letOwnedTupleGo tg (.ref it) u) (fun _ s2=>∃x H',Inv X pins σ H' s2/\RelV x u/\J.O6 i H x H'/\tn (i+1) s2.heap /\ ∀b∈fp,H' b=none) E s1) E s
 done:∀(X:Cx),X.prog=P->X.w=w->X.K=K->X.calm=true -> ∀(i:Nat) (pins:List (Addr×Obj)) (s:Shared) (σ:St) (H:Hp) (E:Value->Shared->Prop),Inv X pins σ H s->(∀b∈fp,nM X pins H b)->tn i s.heap->J.stop i H ->
  wpAny (model P w) X.A (pyNext (.ref it)) (fun r s1=>r=none/\Inv X pins σ H s1) E s
 self:∀(A:Around) (i:Nat) (s:Shared) (Q:Value->Shared->Prop) (E:Value->Shared->Prop),tn i s.heap->Q (.ref it) s->wpAny (model P w) A (pyIter (.ref it)) Q E s
abbrev TI:=St->Hp->(It->Hp->Prop)->Prop
def PIE (X:Cx) (pins:List (Addr×Obj)) (σ:St) (tg:Expr) (R:It->Hp->Prop) (itv:Value) (s2:Shared):Prop:=
 ∃(it:Addr) (fp:List Addr) (tn:Nat->Heap->Prop) (J:It) (H':Hp),itv = .ref it/\Inv X pins σ H' s2/\Turn X.prog X.w X.K tg J fp it tn/\tn 0 s2.heap/\(∀b∈fp,nM X pins H' b)/\R J H'
def PI (X:Cx) (tg iter:Expr) (wi:TI):Prop:=
 ∀(pins:List (Addr×Obj)) (s:Shared) (σ:St) (H:Hp) (R:It->Hp->Prop),Inv X pins σ H s->wi σ H R ->
  wpAny (model X.prog X.w) X.A (eval iter X.env) (fun v s1=>wpAny (model X.prog X.w) X.A (pyIter v) (PIE X pins σ tg R) X.xe s1) X.xe s
theorem za {M:Model} {A:Around} {E:Value->Shared->Prop} {s:Shared} {tg:Expr} {it:Addr} {u:Value} {o:Obj} {n:String} {vs:Array Value} {Q:Unit->Shared->Prop} (ho:s.heap.get? it=some o) (hc:o.cls = .type n) (hd:o.data = .fields vs)
 (hn:["enumerate","zip","dict_itemiterator","dict_reverseitemiterator","odict_iterator","itertools.zip_longest","itertools.pairwise"].contains n=false) (hQ:Q () s):wpAny M A (letOwnedTupleGo tg (.ref it) u) Q E s:=by
 unfold letOwnedTupleGo
 cases tg<;>first
  | exact wpAny_pure hQ
  | (cases u<;>first
      | exact wpAny_pure hQ
      | (refine wpAny_bind (wpAny_load ho ?_)
         rw [hc,hd];show wpAny M A (if (["enumerate","zip","dict_itemiterator","dict_reverseitemiterator","odict_iterator","itertools.zip_longest","itertools.pairwise"].contains n&&vs[0]? == some (rawInt _))=true then _ else _) Q E s;rw [if_neg (by intro h;rw [hn,Bool.false_and] at h;cases h)];exact wpAny_pure hQ))
def O5 (K:PySem.W.Frag) (a:Addr):It:=
 ⟨fun i H=>∃xs x,bf K H a xs/\xs[i]? = some x,fun i H x H'=>H'=H /\ ∀xs,bf K H a xs->xs[i]? = some x,fun i H=>∃xs,bf K H a xs/\xs.length<=i⟩
def WQ (K:PySem.W.Frag) (a:Addr):It:=
 ⟨fun i H=>∃xs x,dZ K H a xs/\xs[i]? = some x,fun i H x H'=>H'=H /\ ∀xs,dZ K H a xs->xs[i]? = some x,fun i H=>∃xs,dZ K H a xs/\xs.length<=i⟩
def O4 (lo:Int) (n:Nat):It:=⟨fun i _=>i<n,fun i H x H'=>H'=H/\x = .int (lo+i),fun i _=>n<=i⟩
theorem En {P:Program} {w:World} {K:PySem.W.Frag} {tg:Expr} (a it:Addr):Turn P w K tg (O5 K a) [it] it (fun i h=>h.IsListIter it a i) where
 mem:=by simp
 obj:=fun i h st b hb=>by
  have e:b=it:=by simpa using hb
  subst e;obtain ⟨o,e,c,d⟩:=st;exact ⟨o,e,fun v z=>by rw [d] at z;cases z⟩
 keep:=fun i h h' st k=>st.at fun o e=>k it (by simp) o e
 item:=by
  intro X hP hw hK hc i pins s σ H E I hf st hg;subst hP hw hK;obtain ⟨xs,x,hq,hx⟩:=hg;obtain ⟨its,rv,p,hz⟩:=I.list hq;obtain ⟨u,hu,ru⟩:=rv.get hx;obtain ⟨f0,f1,f2,f3,f4,f5⟩:=hf it (by simp);refine wpAny_pyNext_list_item st p.isList (x:=u) (by simpa using hu) fun h' st' sb=> ?_;have I1:Inv X pins σ H {s with heap:=h'}:=I.turned (t':=s.toks) (fun b o hb e=>(sb.2 b hb).trans e) f0 f1 f3 f4 f5;obtain ⟨o,e,c,d⟩:=id st';exact ⟨u,rfl,za (s:={s with heap:=h'}) e c d (by decide) ⟨x,H,I1,ru,⟨rfl,fun ys hy=>by rw [I.tL hy hq];exact hx⟩,st',fun b hb=>(hf b hb).1⟩⟩
 done:=by
  intro X hP hw hK hc i pins s σ H E I hf st hg;subst hP hw hK;obtain ⟨xs,hq,hx⟩:=hg;obtain ⟨its,rv,p,hz⟩:=I.list hq;obtain ⟨f0,f1,f2,f3,f4,f5⟩:=hf it (by simp);have hl:=rv.length;exact wpAny_pyNext_list_end (I.ok.hd hc) st p.isList (by simp;omega) fun h' eb=>⟨rfl,I.turned (t':=s.toks) (fun b o hb e=>eb b o hb e) f0 f1 f3 f4 f5⟩
 self:=fun _ _ _ _ _ st h=>wpAny_pyIter_listiter st h
theorem Aa {P:Program} {w:World} {K:PySem.W.Frag} {tg:Expr} (a it:Addr):Turn P w K tg (WQ K a) [it] it (fun i h=>h.IsTupleIter it a i) where
 mem:=by simp
 obj:=fun i h st b hb=>by
  have e:b=it:=by simpa using hb
  subst e;obtain ⟨o,e,c,d⟩:=st;exact ⟨o,e,fun v z=>by rw [d] at z;cases z⟩
 keep:=fun i h h' st k=>st.at fun o e=>k it (by simp) o e
 item:=by
  intro X hP hw hK hc i pins s σ H E I hf st hg;subst hP hw hK;obtain ⟨xs,x,hq,hx⟩:=hg;obtain ⟨its,rv,p,hz⟩:=I.tuple hq;obtain ⟨u,hu,ru⟩:=rv.get hx;obtain ⟨f0,f1,f2,f3,f4,f5⟩:=hf it (by simp);refine wpAny_pyNext_tuple_item st (show s.heap.IsTuple a its.toArray from p) (x:=u) (by simpa using hu) fun h' st' sb=> ?_;have I1:Inv X pins σ H {s with heap:=h'}:=I.turned (t':=s.toks) (fun b o hb e=>(sb.2 b hb).trans e) f0 f1 f3 f4 f5;obtain ⟨o,e,c,d⟩:=id st';exact ⟨u,rfl,za (s:={s with heap:=h'}) e c d (by decide) ⟨x,H,I1,ru,⟨rfl,fun ys hy=>by rw [I.Es hy hq];exact hx⟩,st',fun b hb=>(hf b hb).1⟩⟩
 done:=by
  intro X hP hw hK hc i pins s σ H E I hf st hg;subst hP hw hK;obtain ⟨xs,hq,hx⟩:=hg;obtain ⟨its,rv,p,hz⟩:=I.tuple hq;obtain ⟨f0,f1,f2,f3,f4,f5⟩:=hf it (by simp);have hl:=rv.length;exact wpAny_pyNext_tuple_end (I.ok.hd hc) st (show s.heap.IsTuple a its.toArray from p) (by simp;omega) fun h' eb=>⟨rfl,I.turned (t':=s.toks) (fun b o hb e=>eb b o hb e) f0 f1 f3 f4 f5⟩
 self:=fun _ _ _ _ _ st h=>wpAny_pyIter_tupleiter st h
theorem Ab {P:Program} {w:World} {K:PySem.W.Frag} {tg:Expr} (it:Addr) (lo:Int) (n:Nat):Turn P w K tg (O4 lo n) [it] it (fun i h=>IsRangeIter h it (lo+(i:Nat)*1) ((n:Int) - (i:Nat)) 1) where
 mem:=by simp
 obj:=fun i h st b hb=>by
  have e:b=it:=by simpa using hb
  subst e
  exact ⟨_,st,fun v z=>by
   have z':Data.fields _=Data.cell v:=z;cases z'⟩
 keep:=fun i h h' st k=>k it (by simp) _ st
 item:=by
  intro X hP hw hK hc i pins s σ H E I hf st hg;subst hP hw hK;obtain ⟨f0,f1,f2,f3,f4,f5⟩:=hf it (by simp);have W:=Walks.range (prog:=X.prog) (w:=X.w) (I.ok.hd hc) it lo 1 n;refine W.item i s _ _ hg st fun v h' tk hv st' kk=> ?_;obtain ⟨t,rfl⟩:=hv;have I1:Inv X pins σ H {s with heap:=h',toks:=tk}:=I.turned (fun b o hb e=>kk b o (by simpa using hb) e) f0 f1 f3 f4 f5;refine ⟨_,rfl,za (s:={s with heap:=h',toks:=tk}) (n:= "range_iterator") st' rfl rfl (by decide) ⟨.int (lo+i),H,I1,⟨t, ?_⟩,⟨rfl,rfl⟩,st',fun b hb=>(hf b hb).1⟩⟩;rw [Int.mul_one]
 done:=by
  intro X hP hw hK hc i pins s σ H E I hf st hg;subst hP hw hK;obtain ⟨f0,f1,f2,f3,f4,f5⟩:=hf it (by simp);exact wpAny_pyNext_range_end (I.ok.hd hc) st (by have:n<=i:=hg;omega) fun h' eb=>⟨rfl,I.turned (t':=s.toks) (fun b o hb e=>eb b o hb e) f0 f1 f3 f4 f5⟩
 self:=fun _ _ _ _ _ st h=>wpAny_pyIter_rangeiter st h
end L2
namespace L2
open PySem PySem.Spec PyProof.Rows
section
variable {X:Cx} {tg:Expr}
def Oq (K:PySem.W.Frag) (tl:TE):TI:=fun σ H R=>tl σ H fun x H1=>∃a,x = .ref a/\(∃xs,bf K H1 a xs)/\R (O5 K a) H1
def Tv (K:PySem.W.Frag) (tl:TE):TI:=fun σ H R=>tl σ H fun x H1=>∃a,x = .ref a/\(∃xs,dZ K H1 a xs)/\R (WQ K a) H1
theorem Lk {l:Expr} {tl:TE} (hl:PE X l tl):PI X tg l (Oq X.K tl):=by
 intro pins s σ H R I h;refine cU (hl pins s σ H _ I h) fun v s1 ⟨x,H1,I1,r1,q1⟩=> ?_;obtain ⟨a,e,⟨xs,hq⟩,q⟩:=q1;subst e;cases r1;obtain ⟨its,rv,p,hz⟩:=I1.list hq;refine wpAny_pyIter_list p.isList ?_;refine ⟨s1.heap.objs.size,[s1.heap.objs.size],_,_,H1,rfl,I1.kept (t':=s1.toks) fun b o e=>Heap.get?_push_of_some _ e,En a _,⟨_,Heap.get?_push_size _ rfl,rfl,rfl⟩,fun b hb=> ?_,q⟩;have e:b=s1.heap.objs.size:=by simpa using hb
 subst e;exact I1.zf (Nat.le_refl _) (I1.hok.fresh (Nat.le_refl _))
theorem PK {l:Expr} {tl:TE} (hl:PE X l tl):PI X tg l (Tv X.K tl):=by
 intro pins s σ H R I h;refine cU (hl pins s σ H _ I h) fun v s1 ⟨x,H1,I1,r1,q1⟩=> ?_;obtain ⟨a,e,⟨xs,hq⟩,q⟩:=q1;subst e;cases r1;obtain ⟨its,rv,p,hz⟩:=I1.tuple hq;refine wpAny_pyIter_tuple (show s1.heap.IsTuple a its.toArray from p) ?_;refine ⟨s1.heap.objs.size,[s1.heap.objs.size],_,_,H1,rfl,I1.kept (t':=s1.toks) fun b o e=>Heap.get?_push_of_some _ e,Aa a _,⟨_,Heap.get?_push_size _ rfl,rfl,rfl⟩,fun b hb=> ?_,q⟩;have e:b=s1.heap.objs.size:=by simpa using hb
 subst e;exact I1.zf (Nat.le_refl _) (I1.hok.fresh (Nat.le_refl _))
theorem HJ {pins:List (Addr×Obj)} {σ:St} {H:Hp} {s:Shared} {R:It->Hp->Prop} {E:Value->Shared->Prop} {lo hi:Int} {t u v:Tok} {tk:Nat} (I:Inv X pins σ H s) (h1: -(2 ^ 62)<=lo) (h2:lo<2 ^ 62) (h3: -(2 ^ 62)<=hi) (h4:hi<2 ^ 62)
 (q:R (O4 lo (hi - lo).toNat) H):wpAny (model X.prog X.w) X.A (pyIter (.ref s.heap.objs.size)) (PIE X pins σ tg R) E {s with heap:=s.heap.push {cls:= .type "range",data:= .fields #[.int lo t,.int hi u,.int 1 v]},toks:=tk}:=by
 refine wpAny_pyIter_range (IsRange.new ..) (small_one h1 h2 h3 h4) ?_;have I1:Inv X pins σ H {s with heap:=s.heap.push {cls:= .type "range",data:= .fields #[.int lo t,.int hi u,.int 1 v]},toks:=tk}:=I.kept fun b o e=>Heap.get?_push_of_some _ e
 refine ⟨(s.heap.push {cls:= .type "range",data:= .fields #[.int lo t,.int hi u,.int 1 v]}).objs.size,[(s.heap.push {cls:= .type "range",data:= .fields #[.int lo t,.int hi u,.int 1 v]}).objs.size],_,_,H,rfl,
  I1.kept (t':=tk) fun b o e=>Heap.get?_push_of_some _ e,Ab _ lo (hi - lo).toNat, ?_,fun b hb=> ?_,q⟩
 ·have e1:lo+((0:Nat):Int)*1=lo:=by simp
  have e2:(((hi - lo).toNat:Nat):Int) - ((0:Nat):Int)=Builtin.Range.rangeSize lo hi 1:=by rw [rangeSize_one];split<;>omega
  show IsRangeIter _ _ (lo+((0:Nat):Int)*1) ((((hi - lo).toNat:Nat):Int) - ((0:Nat):Int)) 1;rw [e1,e2];exact Heap.get?_push_size _ rfl
 ·have e:b=(s.heap.push {cls:= .type "range",data:= .fields #[.int lo t,.int hi u,.int 1 v]}).objs.size:=by simpa using hb
  subst e;exact I1.zf (Nat.le_refl _) (I1.hok.fresh (Nat.le_refl _))
def Oo (ta:TA):TI:=fun σ H R=>ta σ H fun vs H1=>∃j:Int,vs=[.int j] /\ -(2 ^ 62)<=j/\j<2 ^ 62/\R (O4 0 j.toNat) H1
theorem dB {a:Expr} {ta:TA} {p pos:Pos} (hg:Gl X "range") (hm:X.mg "range" = none) (ha:PA X [a] ta) (hs:starEach [a] X.env=[(false,eval a X.env)]:=by rfl):PI X tg (.Call (.Name "range" p) [a] [] pos) (Oo ta):=by
 intro pins s σ H R I h;refine Call_ (pW I hg hm boot_range (PyProof.Rows.callWith_type1 (cU (ha pos pins s σ H _ I h) fun us s1 ⟨vs,H1,I1,r1,q1⟩=> ?_) hs rfl));obtain ⟨j,e,q1,q2,q⟩:=q1;subst e;cases r1 with
 | cons r rr=>
   cases rr;obtain ⟨t,rfl⟩:=r;exact call_range_1 (HJ I1 (by omega) (by omega) q1 q2 (by simpa using q))
def W_ (wi:TI) (g:TG) (tb:TS):TS:=fun D σ H=>wi σ H fun J H1=>∃W:Nat->Nat->St->Hp->Prop,(∃m,W 0 m σ H1) /\ ∀i m σ H,W i m σ H ->
 (J.stop i H/\D.nx σ H)\/(J.go i H /\ ∃N:St->Hp->Prop,(∀σ' H',N σ' H' -> ∃m',m'<m/\W (i+1) m' σ' H') /\ ∀x H',J.O6 i H x H'->g x σ H' fun σ2 H2=>tb {D with nx:=N,ct:=N,bk:=D.nx} σ2 H2)
def sW (fp:List Addr) (h:Heap):List (Addr×Obj):=fp.filterMap fun b=>(h.get? b).map fun o=>(b,o)
theorem jP {fp:List Addr} {h:Heap} {b:Addr} {o:Obj} (hb:b∈fp) (e:h.get? b=some o):(b,o)∈sW fp h:=List.mem_filterMap.mpr ⟨b,hb,by rw [e];rfl⟩
theorem Fo {fp:List Addr} {h:Heap} {p:Addr×Obj} (hp:p∈sW fp h):p.1∈fp/\h.get? p.1=some p.2:=by
 obtain ⟨b,hb,e⟩:=List.mem_filterMap.mp hp;cases q:h.get? b with
 | none=>rw [q] at e;cases e
 | some o=>
   rw [q] at e;have e':(b,o)=p:=Option.some.inj e;subst e';exact ⟨hb,q⟩
theorem Inv.pinned {pins:List (Addr×Obj)} {σ:St} {H:Hp} {s:Shared} {fp:List Addr} (I:Inv X pins σ H s) (hf:∀b∈fp,nM X pins H b) (ho:∀b∈fp,∃o,s.heap.get? b=some o /\ ∀v,o.data ≠ .cell v):Inv X (pins++sW fp s.heap) σ H s:=
 I.Dn fun p hp=>(List.mem_append.mp hp).elim (fun z=>I.pin p (List.mem_append_right _ z)) fun z=>by
  obtain ⟨hb,e⟩:=Fo z;obtain ⟨f0,f1,f2,_⟩:=hf p.1 hb;obtain ⟨o,e',d⟩:=ho p.1 hb;rw [e] at e';cases e';exact ⟨e,f0,f1,f2,d⟩
theorem Inv.nZ {pins pl:List (Addr×Obj)} {σ:St} {H:Hp} {s:Shared} (I:Inv X (pins++pl) σ H s):Inv X pins σ H s:=I.Dn fun p hp=>I.pin p (List.mem_append_right _ (List.mem_append_left _ hp))
theorem gA {iter:Expr} {body:List Stmt} {wi:TI} {g:TG} {tb:TS} {pos:Pos} (hp:PassesOwn (model X.prog X.w) X.A X.env X.xe) (hc:X.calm=true) (hi:PI X tg iter wi) (hg:PG X tg g) (hb:Gz X body tb)
 (hs:∀x,foldedSetIterable iter X.env x=pure x:=by intro _;rfl):PS X (.For tg iter body [] pos) (W_ wi g tb):=by
 intro pins s σ H D I h;refine wpAny_For (cU (hi pins s σ H _ I h) fun v s1 h1=>cU h1 fun itv s2 h2=> ?_) hs;obtain ⟨it,fp,tn,J,H2,e,I2,T,st2,f2,W,⟨m0,w0⟩,turn⟩:=h2;subst e;have stat:∀{H':Hp},(∀b∈fp,H' b=none) -> ∀b∈fp,nM X pins H' b:=fun hn b hb=>⟨hn b hb,(f2 b hb).2⟩;refine codeAny_forLoop_any (fun n s'=>∃i σ' H',Inv X pins σ' H' s'/\tn i s'.heap/\(∀b∈fp,H' b=none)/\W i n σ' H') ?_ m0 ⟨0,σ,H2,I2,st2,fun b hb=>(f2 b hb).1,w0⟩;rintro n s3 ⟨i,σ3,H3,I3,st3,TY,w3⟩;rcases turn i n σ3 H3 w3 with ⟨stop,qn⟩|⟨go,N,hN,step⟩
 ·refine wpAny_passesOwn hp (cU (T.done X rfl rfl rfl hc i pins s3 σ3 H3 X.xe I3 (stat TY) st3 stop) fun r s4 ⟨hr,I4⟩=> ?_)
  subst hr;exact wpAny_execs_nil ⟨σ3,H3,I4,qn⟩
 ·refine wpAny_passesOwn hp (cU (T.item X rfl rfl rfl hc i pins s3 σ3 H3 X.xe I3 (stat TY) st3 go) fun r s4 ⟨u,hr,h4⟩=> ?_)
  subst hr;refine wpAny_passesOwn hp (cU h4 fun _ s5 ⟨x,H5,I5,r5,y5,xJ,TX⟩=> ?_);have I5':=I5.pinned (stat TX) (T.obj _ _ xJ);refine wpAny_passesOwn hp (cU (hg _ s5 σ3 H5 x u _ I5' r5 (step x H5 y5)) fun _ s6 ⟨σ6,H6,I6,q6⟩=> ?_);refine wpAny_passesOwn hp (cU (hb _ s6 σ6 H6 _ I6 q6) fun f s7 q7=> ?_)
  have again:∀{σ7:St} {H7:Hp},Inv X (pins++sW fp s5.heap) σ7 H7 s7->N σ7 H7 -> ∃m,m<n /\ ∃i σ' H',Inv X pins σ' H' s7/\tn i s7.heap/\(∀b∈fp,H' b=none)/\W i m σ' H':=fun {σ7 H7} I7 n7=>by
   obtain ⟨m',hm,w7⟩:=hN σ7 H7 n7;refine ⟨m',hm,i+1,σ7,H7,I7.nZ,T.keep _ _ _ xJ fun b hb o e=>(I7.pin (b,o) (List.mem_append_right _ (List.mem_append_right _ (jP hb e)))).1,fun b hb=> ?_,w7⟩;obtain ⟨o,e,d⟩:=T.obj _ _ xJ b hb;exact (I7.pin (b,o) (List.mem_append_right _ (List.mem_append_right _ (jP hb e)))).2.1
  cases f with
  | next=>obtain ⟨σ7,H7,I7,n7⟩:=q7;exact again I7 n7
  | cont=>obtain ⟨σ7,H7,I7,n7⟩:=q7;exact again I7 n7
  | brk=>obtain ⟨σ7,H7,I7,q7⟩:=q7;exact ⟨σ7,H7,I7.nZ,q7⟩
  | ret v=>obtain ⟨x7,σ7,H7,I7,r7,q7⟩:=q7;exact ⟨x7,σ7,H7,I7.nZ,r7,q7⟩
end
theorem lu {K:PySem.W.Frag} {a:Addr} {xs:List V} {g:TG} {tb:TS} {D:Ends} {σ:St} {H:Hp} (Pv:Nat->St->Hp->Prop) (h0:Pv 0 σ H) (hl:∀i σ H,i<=xs.length->Pv i σ H->bf K H a xs)
 (hs:∀i x σ H,xs[i]? = some x->Pv i σ H->g x σ H fun σ2 H2=>tb {D with nx:=Pv (i+1),ct:=Pv (i+1),bk:=D.nx} σ2 H2) (hd:∀σ H,Pv xs.length σ H->D.nx σ H):
 ∃W:Nat->Nat->St->Hp->Prop,(∃m,W 0 m σ H) /\ ∀i m σ H,W i m σ H ->
  ((O5 K a).stop i H/\D.nx σ H)\/((O5 K a).go i H /\ ∃N:St->Hp->Prop,(∀σ' H',N σ' H' -> ∃m',m'<m/\W (i+1) m' σ' H') /\ ∀x H',(O5 K a).O6 i H x H'->g x σ H' fun σ2 H2=>tb {D with nx:=N,ct:=N,bk:=D.nx} σ2 H2):=by
 refine ⟨fun i m σ H=>m=xs.length - i/\i<=xs.length/\Pv i σ H,⟨xs.length,by simp,Nat.zero_le _,h0⟩, ?_⟩;rintro i m σ H ⟨rfl,hi,p⟩;have q:=hl i σ H hi p
 by_cases hlt:i<xs.length
 ·refine .inr ⟨⟨xs,xs[i],q,by simp [hlt]⟩,Pv (i+1),fun σ' H' p'=>⟨xs.length - (i+1),by omega,rfl,hlt,p'⟩,fun x H' y=> ?_⟩
  obtain ⟨e,y⟩:=y;subst e;exact hs i x σ _ (y xs q) p
 ·have e:i=xs.length:=by omega
  subst e;exact .inl ⟨⟨xs,q,Nat.le_refl _⟩,hd σ H p⟩
theorem jr {lo:Int} {n:Nat} {g:TG} {tb:TS} {D:Ends} {σ:St} {H:Hp} (Pv:Nat->St->Hp->Prop) (h0:Pv 0 σ H)
 (hs:∀i σ H,i<n->Pv i σ H->g (.int (lo+i)) σ H fun σ2 H2=>tb {D with nx:=Pv (i+1),ct:=Pv (i+1),bk:=D.nx} σ2 H2) (hd:∀σ H,Pv n σ H->D.nx σ H):
 ∃W:Nat->Nat->St->Hp->Prop,(∃m,W 0 m σ H) /\ ∀i m σ H,W i m σ H ->
  ((O4 lo n).stop i H/\D.nx σ H)\/((O4 lo n).go i H /\ ∃N:St->Hp->Prop,(∀σ' H',N σ' H' -> ∃m',m'<m/\W (i+1) m' σ' H') /\ ∀x H',(O4 lo n).O6 i H x H'->g x σ H' fun σ2 H2=>tb {D with nx:=N,ct:=N,bk:=D.nx} σ2 H2):=by
 refine ⟨fun i m σ H=>m=n - i/\i<=n/\Pv i σ H,⟨n,by simp,Nat.zero_le _,h0⟩, ?_⟩;rintro i m σ H ⟨rfl,hi,p⟩
 by_cases hlt:i<n
 ·refine .inr ⟨hlt,Pv (i+1),fun σ' H' p'=>⟨n - (i+1),by omega,rfl,hlt,p'⟩,fun x H' y=> ?_⟩
  obtain ⟨e,y⟩:=y;subst e y;exact hs i σ _ hlt p
 ·have e:i=n:=by omega
  subst e;exact .inl ⟨Nat.le_refl _,hd σ H p⟩
end L2
namespace L2
open PySem PySem.Spec PyProof.Rows
abbrev R2:=V->V->Hp->VK->Prop
def nQ (X:Cx) (f:Value->Value->Sem Value) (r:R2):Prop:=
 ∀(pins:List (Addr×Obj)) (s:Shared) (σ:St) (H:Hp) (x y:V) (v u:Value) (Q:VK),Inv X pins σ H s->RelV x v->RelV y u->r x y H Q ->
  wpAny (model X.prog X.w) X.A (f v u) (EP X pins σ Q) X.xe s
def UnR (X:Cx) (f:Value->Sem Value) (r:V->Hp->VK->Prop):Prop:=
 ∀(pins:List (Addr×Obj)) (s:Shared) (σ:St) (H:Hp) (x:V) (v:Value) (Q:VK),Inv X pins σ H s->RelV x v->r x H Q ->
  wpAny (model X.prog X.w) X.A (f v) (EP X pins σ Q) X.xe s
def gq (X:Cx) (f:Value) (r:List V->Hp->VK->Prop):Prop:=
 ∀(pins:List (Addr×Obj)) (s:Shared) (σ:St) (H:Hp) (xs:List V) (us:List Value) (Q:VK),Inv X pins σ H s->Vals xs us->r xs H Q ->
  wpAny (model X.prog X.w) X.A (call f us) (EP X pins σ Q) X.xe s
def acv (X:Cx) (r:V->Hp->(Bool->Hp->Prop)->Prop):Prop:=
 ∀(pins:List (Addr×Obj)) (s:Shared) (σ:St) (H:Hp) (x:V) (v:Value) (Q:Bool->Hp->Prop),Inv X pins σ H s->RelV x v->r x H Q ->
  wpAny (model X.prog X.w) X.A (truthy v) (TP X pins σ Q) X.xe s
def CN (r:R2) (ta tb:TE):TE:=fun σ H Q=>ta σ H fun x H1=>tb σ H1 fun y H2=>r x y H2 Q
def tUn (r:V->Hp->VK->Prop) (ta:TE):TE:=fun σ H Q=>ta σ H fun x H1=>r x H1 Q
def rI (C:Int->Int->Prop) (g:Int->Int->V):R2:=fun x y H Q=>∃i j,x = .int i/\y = .int j/\C i j/\Q (g i j) H
def Pz (g:Int->Int->V):R2:=fun x y H Q=>∃i j,x = .int i/\y = .int j/\Q (g i j) H
def rU (g:Int->V):V->Hp->VK->Prop:=fun x H Q=>∃i,x = .int i/\Q (g i) H
section
variable {X:Cx} {a b c:Expr} {ta tb tc:TE} {pos:Pos}
theorem Q_ (ha:PE X a ta) (hb:PE X b tb) {pins:List (Addr×Obj)} {s:Shared} {σ:St} {H:Hp} {R:V->V->Hp->Prop} (I:Inv X pins σ H s)
 (h:ta σ H fun x H1=>tb σ H1 fun y H2=>R x y H2) {Q:Value->Shared->Prop} {f:Value->Value->Sem Value}
 (hf:∀v u s2 x y H2,Inv X pins σ H2 s2->RelV x v->RelV y u->R x y H2->wpAny (model X.prog X.w) X.A (f v u) Q X.xe s2):
 wpAny (model X.prog X.w) X.A (eval a X.env) (fun v s₁=>wpAny (model X.prog X.w) X.A (eval b X.env) (fun u s₂=>wpAny (model X.prog X.w) X.A (f v u) Q X.xe s₂) X.xe s₁) X.xe s:=by
 refine cU (ha pins s σ H _ I h) fun v s1 ⟨x,H1,I1,r1,q1⟩=> ?_;refine cU (hb pins s1 σ H1 _ I1 q1) fun u s2 ⟨y,H2,I2,r2,q2⟩=> ?_;exact hf v u s2 x y H2 I2 r1 r2 q2
theorem aY {op:Operator} {r:R2} (ho:nQ X (binaryOp op) r) (ha:PE X a ta) (hb:PE X b tb):PE X (.BinOp a op b pos) (CN r ta tb):=by
 intro pins s σ H Q I h;exact wpAny_BinOp (Q_ ha hb I h fun v u s2 x y H2 I2 rx ry q=>ho pins s2 σ H2 x y v u Q I2 rx ry q)
theorem yr {op:UnaryOp} {r:V->Hp->VK->Prop} (ho:UnR X (unaryOp op) r) (ha:PE X a ta):PE X (.UnaryOp op a pos) (tUn r ta):=by
 intro pins s σ H Q I h;exact UnaryOp_ (cU (ha pins s σ H _ I h) fun v s1 ⟨x,H1,I1,r1,q1⟩=>ho pins s1 σ H1 x v Q I1 r1 q1)
theorem S5 {f:Value->Value->Sem Value} {C:Int->Int->Prop} {g:Int->Int->Int}
 (rule:∀(i j:Int) (t u:Tok) (s:Shared) (Q:Value->Shared->Prop) (E:Value->Shared->Prop),C i j->Q (.int (g i j) s.toks) {s with toks:=s.toks+1}->wpAny (model X.prog X.w) X.A (f (.int i t) (.int j u)) Q E s):
 nQ X f (rI C fun i j=> .int (g i j)):=by
 intro pins s σ H x y v u Q I rx ry h;obtain ⟨i,j,rfl,rfl,hc,q⟩:=h;obtain ⟨t,rfl⟩:=rx;obtain ⟨t',rfl⟩:=ry;exact rule i j t t' s _ _ hc ⟨.int (g i j),H,I.tok _,⟨_,rfl⟩,q⟩
theorem SX {f:Value->Value->Sem Value} {g:Int->Int->Int}
 (rule:∀(i j:Int) (t u:Tok) (s:Shared) (Q:Value->Shared->Prop) (E:Value->Shared->Prop),Q (.int (g i j) s.toks) {s with toks:=s.toks+1}->wpAny (model X.prog X.w) X.A (f (.int i t) (.int j u)) Q E s):
 nQ X f (Pz fun i j=> .int (g i j)):=by
 intro pins s σ H x y v u Q I rx ry h;obtain ⟨i,j,rfl,rfl,q⟩:=h;obtain ⟨t,rfl⟩:=rx;obtain ⟨t',rfl⟩:=ry;exact rule i j t t' s _ _ ⟨.int (g i j),H,I.tok _,⟨_,rfl⟩,q⟩
theorem Qf {f:Value->Value->Sem Value} {g:Int->Int->Bool}
 (rule:∀(i j:Int) (t u:Tok) (s:Shared) (Q:Value->Shared->Prop) (E:Value->Shared->Prop),Q (.bool (g i j)) s->wpAny (model X.prog X.w) X.A (f (.int i t) (.int j u)) Q E s):
 nQ X f (Pz fun i j=> .bl (g i j)):=by
 intro pins s σ H x y v u Q I rx ry h;obtain ⟨i,j,rfl,rfl,q⟩:=h;obtain ⟨t,rfl⟩:=rx;obtain ⟨t',rfl⟩:=ry;exact rule i j t t' s _ _ ⟨.bl (g i j),H,I,rfl,q⟩
def Kh (i j:Int):Prop:=0<j/\j<1073741824
def Ri (i j:Int):Prop:=0<=j/\j<=1000000/\i.natAbs<2 ^ 64
def Rj (i j:Int):Prop:=(-(2 ^ 64)<i/\i<2 ^ 64)\/(-(2 ^ 64)<j/\j<2 ^ 64)
theorem Rj.ok {i j:Int} (h:Rj i j):IntMulOk i j:=by
 rcases h with ⟨h1,h2⟩|⟨h1,h2⟩
 ·exact .of_left (intBits_le_64 h1 h2)
 ·exact .of_right (intBits_le_64 h1 h2)
theorem fB:nQ X (binaryOp .Add) (Pz fun i j=> .int (i+j)):=SX fun _ _ _ _ _ _ _ q=>add_int q
theorem Bb:nQ X (binaryOp .Sub) (Pz fun i j=> .int (i - j)):=SX fun _ _ _ _ _ _ _ q=>sub_int q
theorem kW:nQ X (binaryOp .Mult) (rI Rj fun i j=> .int (i*j)):=S5 fun _ _ _ _ _ _ _ hc q=>mul_int q hc.ok
theorem rA:nQ X (binaryOp .FloorDiv) (rI Kh fun i j=> .int (i / j)):=S5 fun i j _ _ _ _ _ hc q=>by
 have h1:(0:Int)<j:=hc.1;have h2:j<1073741824:=hc.2;exact floordiv_int (by omega) (by rw [Int.fdiv_eq_ediv_of_nonneg i (by omega)];exact q) (.inl (PyProof.noPylong_small (by omega)))
theorem ji:nQ X (binaryOp .Mod) (rI (fun _ j=>0<j) fun i j=> .int (i % j)):=S5 fun i j _ _ _ _ _ hc q=>by
 have h1:(0:Int)<j:=hc;exact mod_int' (by omega) (by rw [Int.fmod_eq_emod_of_nonneg i (by omega)];exact q)
theorem Ik:nQ X (binaryOp .Pow) (rI Ri fun i j=> .int (i ^ j.toNat)):=S5 fun _ _ _ _ _ _ _ hc q=>pow_int_small hc.1 hc.2.1 hc.2.2 q
theorem unI {f:Value->Sem Value} {g:Int->Int}
 (rule:∀(i:Int) (t:Tok) (s:Shared) (Q:Value->Shared->Prop) (E:Value->Shared->Prop),Q (.int (g i) s.toks) {s with toks:=s.toks+1}->wpAny (model X.prog X.w) X.A (f (.int i t)) Q E s):
 UnR X f (rU fun i=> .int (g i)):=by
 intro pins s σ H x v Q I rx h;obtain ⟨i,rfl,q⟩:=h;obtain ⟨t,rfl⟩:=rx;exact rule i t s _ _ ⟨.int (g i),H,I.tok _,⟨_,rfl⟩,q⟩
theorem rW:UnR X (unaryOp .USub) (rU fun i=> .int (-i)):=unI fun _ _ _ _ _ q=>neg_int q
end
def RX:V->V->Bool
 | .non,.non=>true | .non,.int _=>true | .int _,.non=>true | .non,.bl _=>true | .bl _,.non=>true | .non,.str _=>true | .str _,.non=>true
 | .int _,.int _=>true | .bl _,.bl _=>true | .str _,.str _=>true | .Ci _,.Ci _=>true
 | .int _,.str _=>true | .str _,.int _=>true | .bl _,.str _=>true | .str _,.bl _=>true
 | _,_=>false
def rEq:R2:=fun x y H Q=>RX x y=true/\Q (.bl (decide (x=y))) H
def VB:R2:=fun x y H Q=>RX x y=true/\Q (.bl (!decide (x=y))) H
theorem DX {i j:Int}:decide (V.int i=V.int j)=(i==j):=by
 rw [Bool.eq_iff_iff];simp
theorem JF {i j:Bool}:decide (V.bl i=V.bl j)=(i==j):=by
 rw [Bool.eq_iff_iff];simp
theorem DW {i j:Str}:decide (V.str i=V.str j)=(i==j):=by
 rw [Bool.eq_iff_iff];simp
theorem DY {i j:Array UInt8}:decide (V.Ci i=V.Ci j)=(i.toList==j.toList):=by
 rw [Bool.eq_iff_iff];cases i;cases j;simp
section
variable {X:Cx} {a b c:Expr} {ta tb tc:TE} {pos:Pos}
theorem bQ {pins:List (Addr×Obj)} {σ:St} {H:Hp} {s:Shared} {Q:VK} {k k':Bool} (I:Inv X pins σ H s) (q:Q (.bl k) H) (e:k=k'):EP X pins σ Q (.bool k') s:=by
 subst e;exact ⟨.bl k,H,I,rfl,q⟩
theorem iZ:nQ X (compareOp .Eq) rEq:=by
 intro pins s σ H x y v u Q I rx ry h;obtain ⟨hs,q⟩:=h;cases x with
 | non=>
   cases rx;cases y with
   | non=>cases ry;exact PySem.EqNone.eq_none_none (bQ I q (by simp))
   | bl j=>cases ry;exact PySem.EqNone.eq_none_bool (bQ I q (by simp))
   | int j=>obtain ⟨t',rfl⟩:=ry;exact PySem.EqNone.eq_none_int (bQ I q (by simp))
   | str j=>obtain ⟨t',rfl⟩:=ry;exact PySem.EqNone.eq_none_str (bQ I q (by simp))
   | _=>exact absurd (show false=true from hs) Bool.false_ne_true
 | bl i=>
   cases rx;cases y with
   | non=>cases ry;exact PySem.EqNone.eq_bool_none (bQ I q (by simp))
   | bl j=>cases ry;exact eq_bool (bQ I q JF)
   | str j=>obtain ⟨t',rfl⟩:=ry;exact PySem.EqMixed.eq_bool_str (bQ I q (by simp))
   | _=>exact absurd (show false=true from hs) Bool.false_ne_true
 | int i=>
   obtain ⟨t,rfl⟩:=rx;cases y with
   | non=>cases ry;exact PySem.EqNone.eq_int_none (bQ I q (by simp))
   | int j=>obtain ⟨t',rfl⟩:=ry;exact eq_int (bQ I q DX)
   | str j=>obtain ⟨t',rfl⟩:=ry;exact PySem.EqMixed.eq_int_str (bQ I q (by simp))
   | _=>exact absurd (show false=true from hs) Bool.false_ne_true
 | str i=>
   obtain ⟨t,rfl⟩:=rx;cases y with
   | non=>cases ry;exact PySem.EqNone.eq_str_none (bQ I q (by simp))
   | bl j=>cases ry;exact PySem.EqMixed.eq_str_bool (bQ I q (by simp))
   | int j=>obtain ⟨t',rfl⟩:=ry;exact PySem.EqMixed.eq_str_int (bQ I q (by simp))
   | str j=>obtain ⟨t',rfl⟩:=ry;exact eq_str (bQ I q DW)
   | _=>exact absurd (show false=true from hs) Bool.false_ne_true
 | Ci i=>
   obtain ⟨t,rfl⟩:=rx;cases y with
   | Ci j=>obtain ⟨t',rfl⟩:=ry;exact PySem.W.eq_bytes (bQ I q DY)
   | _=>exact absurd (show false=true from hs) Bool.false_ne_true
 | _=>cases y<;>exact absurd (show false=true from hs) Bool.false_ne_true
theorem mX:nQ X (compareOp .NotEq) VB:=by
 intro pins s σ H x y v u Q I rx ry h;obtain ⟨hs,q⟩:=h;cases x with
 | non=>
   cases rx;cases y with
   | non=>cases ry;exact PySem.EqNone.ne_none_none (bQ I q (by simp))
   | bl j=>cases ry;exact PySem.EqNone.ne_none_bool (bQ I q (by simp))
   | int j=>obtain ⟨t',rfl⟩:=ry;exact PySem.EqNone.ne_none_int (bQ I q (by simp))
   | str j=>obtain ⟨t',rfl⟩:=ry;exact PySem.EqNone.ne_none_str (bQ I q (by simp))
   | _=>exact absurd (show false=true from hs) Bool.false_ne_true
 | bl i=>
   cases rx;cases y with
   | non=>cases ry;exact PySem.EqNone.ne_bool_none (bQ I q (by simp))
   | bl j=>cases ry;exact ne_bool (bQ I q (congrArg not JF))
   | str j=>obtain ⟨t',rfl⟩:=ry;exact PySem.EqMixed.ne_bool_str (bQ I q (by simp))
   | _=>exact absurd (show false=true from hs) Bool.false_ne_true
 | int i=>
   obtain ⟨t,rfl⟩:=rx;cases y with
   | non=>cases ry;exact PySem.EqNone.ne_int_none (bQ I q (by simp))
   | int j=>obtain ⟨t',rfl⟩:=ry;exact ne_int (bQ I q (congrArg not DX))
   | str j=>obtain ⟨t',rfl⟩:=ry;exact PySem.EqMixed.ne_int_str (bQ I q (by simp))
   | _=>exact absurd (show false=true from hs) Bool.false_ne_true
 | str i=>
   obtain ⟨t,rfl⟩:=rx;cases y with
   | non=>cases ry;exact PySem.EqNone.ne_str_none (bQ I q (by simp))
   | bl j=>cases ry;exact PySem.EqMixed.ne_str_bool (bQ I q (by simp))
   | int j=>obtain ⟨t',rfl⟩:=ry;exact PySem.EqMixed.ne_str_int (bQ I q (by simp))
   | str j=>obtain ⟨t',rfl⟩:=ry;exact ne_str (bQ I q (congrArg not DW))
   | _=>exact absurd (show false=true from hs) Bool.false_ne_true
 | Ci i=>
   obtain ⟨t,rfl⟩:=rx;cases y with
   | Ci j=>obtain ⟨t',rfl⟩:=ry;exact PySem.W.ne_bytes (bQ I q (congrArg not DY))
   | _=>exact absurd (show false=true from hs) Bool.false_ne_true
 | _=>cases y<;>exact absurd (show false=true from hs) Bool.false_ne_true
theorem tu:nQ X (compareOp .Lt) (Pz fun i j=> .bl (decide (i<j))):=Qf fun _ _ _ _ _ _ _ q=>lt_int q
theorem Il:nQ X (compareOp .LtE) (Pz fun i j=> .bl (decide (i<=j))):=Qf fun _ _ _ _ _ _ _ q=>le_int q
theorem Og:nQ X (compareOp .GtE) (Pz fun i j=> .bl (decide (j<=i))):=Qf fun _ _ _ _ _ _ _ q=>ge_int q
theorem Lz:nQ X (compareOp .IsNot) (fun x y H Q=>y = .non/\Q (.bl (!decide (x = .non))) H):=by
 intro pins s σ H x y v u Q I rx ry h;obtain ⟨rfl,q⟩:=h;cases ry;refine isnot_none_gen (bQ I q ?_)
 cases x<;>first
  | (cases rx;rfl)
  | (obtain ⟨t,rfl⟩:=rx;rfl)
def isObj:HO->Bool
 | .lst _=>true
 | .ins _ _ _=>true
 | _=>false
theorem bK (b:Expr) {op:CmpOp} (h:op ≠ .In:=by decide) (h2:op ≠ .NotIn:=by decide):behindInMarks op b=false:=by
 have e1:(op==CmpOp.In)=false:=by cases op<;>first |rfl|exact absurd rfl h
 have e2:(op==CmpOp.NotIn)=false:=by cases op<;>first |rfl|exact absurd rfl h2
 cases b<;>simp [behindInMarks,e1,e2]
theorem eY {op:CmpOp} {r:R2} (ho:nQ X (compareOp op) r) (ha:PE X a ta) (hb:PE X b tb) (hm:behindInMarks op b=false):PE X (.Compare a [op] [b] pos) (CN r ta tb):=by
 intro pins s σ H Q I h;exact wpAny_Compare1 (Q_ ha hb I h fun v u s2 x y H2 I2 rx ry q=>ho pins s2 σ H2 x y v u Q I2 rx ry q) hm
def CK (t:TE):TT:=fun σ H Q=>t σ H fun x H'=>∃k,x = .bl k/\Q k H'
theorem bZ {op:CmpOp} {r:R2} (ho:nQ X (compareOp op) r) (ha:PE X a ta) (hb:PE X b tb) (hm:behindInMarks op b=false):PT X (.Compare a [op] [b] pos) (CK (CN r ta tb)):=by
 intro pins s σ H Q I h
 refine wpAny_isTrue_Compare1 (cU (ha pins s σ H _ I h) fun v s1 ⟨x,H1,I1,r1,q1⟩=>cU (hb pins s1 σ H1 _ I1 q1) fun u s2 ⟨y,H2,I2,r2,q2⟩=>
  cU (ho pins s2 σ H2 x y v u _ I2 r1 r2 q2) fun c s3 ⟨z,H3,I3,r3,k,e,q3⟩=> ?_) hm
 subst e;cases r3;exact wpAny_truthy_bool ⟨H3,I3,q3⟩
def Hj (r r':R2) (ta tb tc:TE):TE:=fun σ H Q=>ta σ H fun x H1=>tb σ H1 fun y H2=>r x y H2 fun z H3=>∃k,z = .bl k /\
 (if k=true then tc σ H3 fun w' H4=>r' y w' H4 Q else Q (.bl false) H3)
theorem Ij {op op':CmpOp} {r r':R2} (ho:nQ X (compareOp op) r) (ho':nQ X (compareOp op') r') (ha:PE X a ta) (hb:PE X b tb) (hc:PE X c tc)
 (hm:lastMarks [op,op'] [b,c]=false:=by with_unfolding_all rfl):PE X (.Compare a [op,op'] [b,c] pos) (Hj r r' ta tb tc):=by
 intro pins s σ H Q I h
 refine Compare_chain (cU (ha pins s σ H _ I h) fun v s1 ⟨x,H1,I1,r1,q1⟩=>chain_link (cU (hb pins s1 σ H1 _ I1 q1) fun u s2 ⟨y,H2,I2,r2,q2⟩=>
  cU (ho pins s2 σ H2 x y v u _ I2 r1 r2 q2) fun d s3 ⟨z,H3,I3,r3,k,e,q3⟩=> ?_)) hm
 subst e;cases r3;refine wpAny_truthy_bool ?_;cases k with
 | false=>exact ite_ff ⟨.bl false,H3,I3,rfl,q3⟩
 | true=>exact ite_tt (chain_last (cU (hc pins s3 σ H3 _ I3 q3) fun w' s4 ⟨z',H4,I4,r4,q4⟩=>ho' pins s4 σ H4 y z' u w' Q I4 r2 r4 q4))
theorem HX {op op':CmpOp} {r r':R2} (ho:nQ X (compareOp op) r) (ho':nQ X (compareOp op') r') (ha:PE X a ta) (hb:PE X b tb) (hc:PE X c tc)
 (hm:lastMarks [op,op'] [b,c]=false:=by with_unfolding_all rfl):PT X (.Compare a [op,op'] [b,c] pos) (CK (Hj r r' ta tb tc)):=by
 intro pins s σ H Q I h
 refine isTrue_chain (cU (ha pins s σ H _ I h) fun v s1 ⟨x,H1,I1,r1,q1⟩=>test_link (cU (hb pins s1 σ H1 _ I1 q1) fun u s2 ⟨y,H2,I2,r2,q2⟩=>
  cU (ho pins s2 σ H2 x y v u _ I2 r1 r2 q2) fun d s3 ⟨z,H3,I3,r3,k,e,q3⟩=> ?_)) hm
 subst e;cases r3;refine wpAny_truthy_bool ?_;cases k with
 | false=>
   obtain ⟨k',e',q'⟩:=q3;cases e';exact ite_ff ⟨H3,I3,q'⟩
 | true=>
   refine ite_tt (test_last (cU (hc pins s3 σ H3 _ I3 q3) fun w' s4 ⟨z',H4,I4,r4,q4⟩=>cU (ho' pins s4 σ H4 y z' u w' _ I4 r2 r4 q4) fun d' s5 ⟨z2,H5,I5,r5,k2,e2,q5⟩=> ?_));subst e2;cases r5;exact wpAny_truthy_bool ⟨H5,I5,q5⟩
def Ra (K:PySem.W.Frag) (x:V) (H:Hp) (k:Bool):Prop:=
 match x with
 | .non=>k=false
 | .bl b=>k=b
 | .int i=>k=(i != 0)
 | .str y=>y.length<=sizeLine/\k=((y.length:Int) != 0)
 | .Ci y=>y.size<=sizeLine/\k=((y.size:Int) != 0)
 | .ref p=>(∃xs,bf K H p xs/\k = !xs.isEmpty)\/(∃xs,dZ K H p xs/\k = !xs.isEmpty) \/ ∃kvs,H p=some (.dK kvs)/\k = !kvs.isEmpty
 | _=>False
theorem Bx {κ:Type} {kvs:List (κ×V)} {vs:List (κ×Value)} (r:KV kvs vs):(!vs.isEmpty) = !kvs.isEmpty:=by
 cases r<;>rfl
theorem tO {xs:List V} {its:List Value} (r:Vals xs its):(!its.toArray.isEmpty) = !xs.isEmpty:=by
 cases r<;>simp
theorem pU:(sizeLine:Nat)<2 ^ 63:=by rw [sizeLine_eq];decide
theorem O8:acv X (fun x H Q=>∃k,Ra X.K x H k/\Q k H):=by
 intro pins s σ H x v Q I rx h;obtain ⟨k,e,q⟩:=h;have hl:=pU;have hs:sizeLine=16777216:=sizeLine_eq;cases x with
 | non=>
   cases rx;have e':k=false:=e;subst e';exact truthy_none ⟨H,I,q⟩
 | bl b=>
   cases rx;have e':k=b:=e;subst e';exact wpAny_truthy_bool ⟨H,I,q⟩
 | int i=>
   obtain ⟨t,rfl⟩:=rx;have e':k=(i != 0):=e;subst e';exact PySem.P.truthy_int ⟨H,I,q⟩
 | str y=>
   obtain ⟨t,rfl⟩:=rx;obtain ⟨hy,e'⟩:y.length<=sizeLine/\k=((y.length:Int) != 0):=e;subst e';exact PySem.P.truthy_str (by omega) ⟨H,I.tok _,q⟩
 | Ci y=>
   obtain ⟨t,rfl⟩:=rx;obtain ⟨hy,e'⟩:y.size<=sizeLine/\k=((y.size:Int) != 0):=e;subst e';exact PySem.W.truthy_bytes (by omega) ⟨H,I.tok _,q⟩
 | ref p=>
   cases rx;have e':(∃xs,bf X.K H p xs/\k = !xs.isEmpty)\/(∃xs,dZ X.K H p xs/\k = !xs.isEmpty) \/ ∃kvs,H p=some (.dK kvs)/\k = !kvs.isEmpty:=e;rcases e' with ⟨xs,hx,e'⟩|⟨xs,hx,e'⟩|⟨kvs,hx,e'⟩
   ·subst e'
    obtain ⟨its,r,pl,hz⟩:=I.list hx;have hlen:=r.length;exact wpAny_truthy_list pl.isList (by simp only [List.size_toArray];omega) ⟨H,I.tok _,by rw [tO r];exact q⟩
   ·subst e'
    obtain ⟨its,r,pl,hz⟩:=I.tuple hx;have hlen:=r.length;exact truthy_tuple pl (by simp only [List.size_toArray];omega) ⟨H,I.tok _,by rw [tO r];exact q⟩
   ·subst e'
    obtain ⟨hz,hS,vs,r,m⟩:kvs.length<=sizeLine/\(p==sysModules)=false /\ ∃vs,KV kvs vs/\s.heap.DictOf (b_ X.prog X.w) p vs:=I.hok p _ hx;have hlen:kvs.length=vs.length:=Paired.length r;exact wpAny_truthy_dict hS m (by omega) ⟨H,I.tok _,by rw [Bx r];exact q⟩
 | _=>exact (show False from e).elim
theorem HW (ha:PE X a ta) (he:∀whole,isTrue a X.env whole=(do let v ←whole;standAt a.pos;holding [v] (truthy v))):
 PT X a (fun σ H Q=>ta σ H fun x H'=>∃k,Ra X.K x H' k/\Q k H'):=by
 intro pins s σ H Q I h;exact isTrue_plain (cU (ha pins s σ H _ I h) fun v s1 ⟨x,H1,I1,r1,q1⟩=>O8 pins s1 σ H1 x v Q I1 r1 q1) (he _)
theorem dh:nQ X (binaryOp .Add) (fun x y H Q=>∃i j,x = .str i/\y = .str j/\i.length+j.length<=sizeLine/\Q (.str (i++j)) H):=by
 intro pins s σ H x y v u Q I rx ry h;obtain ⟨i,j,rfl,rfl,hz,q⟩:=h;obtain ⟨t,rfl⟩:=rx;obtain ⟨t',rfl⟩:=ry;exact add_str (fun t' tk=>⟨.str (i++j),H,I.tok _,⟨_,rfl⟩,q⟩) hz
theorem vals1 {x:V} {us:List Value} (r:Vals [x] us):∃u,us=[u]/\RelV x u:=by
 cases r with
 | cons r1 r2=>cases r2;exact ⟨_,rfl,r1⟩
theorem vals2 {x y:V} {us:List Value} (r:Vals [x,y] us):∃u w',us=[u,w']/\RelV x u/\RelV y w':=by
 cases r with
 | cons r1 r2=>
   cases r2 with
   | cons r3 r4=>cases r4;exact ⟨_,_,rfl,r1,r3⟩
theorem vH (hc:X.calm=true):gq X (.builtin "max") (fun xs H Q=>∃i j,xs=[.int i,.int j]/\Q (.int (if j>i then j else i)) H):=by
 intro pins s σ H xs us Q I r h;obtain ⟨i,j,rfl,q⟩:=h;obtain ⟨u,w',rfl,⟨t,rfl⟩,⟨t',rfl⟩⟩:=vals2 r;refine max_two_ints (I.ok.hd hc) fun h' tk k=>⟨_,H,I.kept k, ?_,q⟩
 by_cases hj:j>i
 ·rw [if_pos hj,if_pos hj];exact ⟨_,rfl⟩
 ·rw [if_neg hj,if_neg hj];exact ⟨_,rfl⟩
theorem cY:gq X (.type "str") (fun xs H Q=>∃i,xs=[.int i]/\i.natAbs.log2<1920/\Q (.str (toString i)) H):=by
 intro pins s σ H xs us Q I r h;obtain ⟨i,rfl,hz,q⟩:=h;obtain ⟨u,rfl,t,rfl⟩:=vals1 r;exact PySem.P.str_of_int hz ⟨.str _,H,I.tok _,⟨_,rfl⟩,q⟩
end
end L2
namespace L2
open PySem PySem.Spec PyProof.Rows
structure Cp (h:Heap) (x dx C:Addr) (mA:Str->Option Value):Prop where
 obj:h.get? x=some (PySem.W.instObj C dx)
 ns:h.Ns1 dx mA
 ne:dx≠x
theorem Fv {h:Heap} {dx:Addr} {mA:Str->Option Value} (n:h.Ns1 dx mA):∃od,h.get? dx=some od /\ ∀name,PySem.W.lookIn name od=some (mA name):=by
 obtain ⟨o,es,ep,ho,hd,hk,_,hm⟩:=n;refine ⟨o,ho,fun name=> ?_⟩;have e:=hm name;unfold nsFind findBy at e;rw [←Array.find?_toList] at e;unfold PySem.W.lookIn;rw [hd];dsimp only;split
 ·rename_i y q
  rw [q] at e;exact congrArg some e
 ·rename_i q
  rw [q] at e
  have a:es.toList.any (·.refKey)=false:=by
   rw [List.any_eq_false];intro y hy;obtain ⟨z,t,hkey⟩:=hk y (Array.mem_toList_iff.mp hy);simp [DictEntry.refKey,hkey]
  have a':¬es.toList.any (·.refKey)=true:=by rw [a];exact Bool.false_ne_true
  rw [if_neg a'];exact congrArg some e
theorem Cp.look {h:Heap} {x dx C:Addr} {mA:Str->Option Value} (I:Cp h x dx C mA):∃od,PySem.W.InstAt h x (PySem.W.instObj C dx) C (some od) /\ ∀name,PySem.W.lookIn name od=some (mA name):=
 let ⟨od,ho,hl⟩:=Fv I.ns
 ⟨od,⟨I.obj,rfl,rfl,ho⟩,hl⟩
section
variable {prog:Program} {w:World} {A:Around} {E:Value->Shared->Prop} {s:Shared} {K:PySem.W.Frag} {x dx C f:Addr} {mA:Str->Option Value} {name:Str} {v:Value}
theorem get_map {expr:Bool} {Q:Value->Shared->Prop} (X:K.In s.heap) (I:Cp s.heap x dx C mA) (hg:PySem.W.plainGet K C name=true) (hh:PySem.W.hasDictIn K C=true)
 (ha:PySem.W.findIn K (.ref C) name=some none) (hv:mA name=some v) (hv':PySem.W.handedIn v=true) (h:Q v {s with toks:=s.toks+1}):
 wpAny (model prog w) A (getAttr (.ref x) name expr) Q E s:=by
 obtain ⟨od,J,hl⟩:=I.look;exact PySem.W.get_value X J (PySem.W.plainGet_of hg).1 (PySem.W.findObj_own hh ha rfl (by rw [hl,hv])) hv' h
theorem Jx {pl:Sem Bool} {Q:Value×List Value->Shared->Prop} (X:K.In s.heap) (I:Cp s.heap x dx C mA) (hg:PySem.W.plainGet K C name=true)
 (hf:PySem.W.findIn K (.ref C) name=some (some (.ref f))) (ht:PySem.W.isFn K (.ref f)=true) (hv:mA name=none) (h:Q (.ref f,[.ref x]) s):
 wpAny (model prog w) A (getMethod (.ref x) name pl) Q E s:=by
 obtain ⟨od,J,hl⟩:=I.look;exact PySem.W.method_fn X J (PySem.W.plainGet_of hg).1 (PySem.W.plainGet_of hg).2 hf (beq_iff_eq.mp ht) (by show (PySem.W.lookIn name od).map (·.isSome)=some false;rw [hl,hv];rfl) h
theorem KN {ns:List Str} {Q:Unit->Shared->Prop} (X:K.In s.heap) (I:Cp s.heap x dx C mA)
 (hs:PySem.W.findIn K (.ref C) "__setattr__" = some (some (.builtin "object.__setattr__"))) (hp:PySem.W.plainOver K C=true) (ht:PySem.W.takerIn K C name=some none) (hh:PySem.W.hasDictIn K C=true)
 (hw:PySem.Within mA ns) (hsz:ns.length<=sizeLine)
 (h:∀h',Cp h' x dx C (fun y=>if y=name then some v else mA y)->Heap.SameBut dx s.heap h'->Q () {s with heap:=h',toks:=s.toks+2}):
 wpAny (model prog w) A (setAttr (.ref x) name v) Q E s:=by
 obtain ⟨od,J,hl⟩:=I.look;refine PySem.W.set_plain X J hs (PySem.W.osa_open (s:={s with toks:=s.toks+1}) (r:=none) X J hp ht fun b=> ?_);obtain ⟨cd,hc,hd'⟩:=PySem.W.any_some hh;have hx:s.heap.get? x=some ⟨.ref C,some dx,.plain, #[]⟩:=I.obj;refine wpAny_bind (wpAny_pure (wpAny_bind (wpAny_bind (wpAny_loadPart hx (wpAny_bind (PySem.W.Looks.here (s:={s with toks:=s.toks+1}) (PySem.W.looks_clsIn X hc) ?_))))));rw [hd'];refine wpAny_pure (a:=some dx) (wpAny_bind (wpAny_pure (wpAny_bind ?_)));refine wpAny_nsSet1 (s:={s with toks:=s.toks+1}) I.ns fun h' hn2 hs2=> ?_;obtain ⟨oD,esD,epD,hoD,hdD,hcD⟩:=hn2.count (PySem.Within.cons name v hw);refine wpAny_bind (wpAny_lookBehind hoD (by rw [hdD];exact pastItsLine_dict (Nat.le_trans hcD (by rw [List.length_cons];omega))) ?_);exact wpAny_pure (h _ ⟨(hs2.2 _ (Ne.symm I.ne)).trans I.obj,hn2,I.ne⟩ hs2)
theorem Jg {R:Result->Shared->Prop} {vs:List Value} {kw:List (Str×Value)} (X:K.In s.heap) (hm:PySem.W.makesIn K C=true)
 (hi:PySem.W.findIn K (.ref C) "__init__" = some (some (.ref f))) (hf:PySem.W.typeIn K (.ref f)=some (.type "function"))
 (h:codeAny (model prog w) (A.under (.builtin "type.__call__" ⟨.ref C::vs,kw⟩)) (.call (.ref f) ⟨.ref (s.heap.objs.size+1)::vs,kw⟩) (PySem.W.InitBack (s.heap.objs.size+1) R)
   {s with heap:=(s.heap.push PySem.W.emptyDict).push (PySem.W.instObj C s.heap.objs.size)}):
 codeAny (model prog w) A (.call (.ref C) ⟨vs,kw⟩) R s:=by
 obtain ⟨hh,g,d,t,os⟩:=s;exact PySem.W.make_core (PySem.W.makes_of X hm) (PySem.W.looks_findIn X hi) (fun self=>PySem.W.bind_fn X self hf) (.inl rfl) h
end
def eE (f:Str) (v:V):List (Str×V)->List (Str×V)
 | []=>[(f,v)]
 | (g,x)::r=>if g=f then (g,v)::r else (g,x)::eE f v r
theorem qC (f g:Str) (v:V):∀fs:List (Str×V),(eE f v fs).lookup g=if g=f then some v else fs.lookup g
 | []=>by
   show List.lookup g [(f,v)]=_
   by_cases h:g=f
   ·have hb:(g==f)=true:=beq_iff_eq.mpr h
    simp only [List.lookup,hb,if_pos h]
   ·have hb:(g==f)=false:=beq_eq_false_iff_ne.mpr h
    simp only [List.lookup,hb,if_neg h]
 | (k,x)::r=>by
   have ih:=qC f g v r;rw [show eE f v ((k,x)::r)=(if k=f then (k,v)::r else (k,x)::eE f v r) from rfl]
   by_cases hk:k=f
   ·rw [if_pos hk]
    by_cases h:g=k
    ·have hb:(g==k)=true:=beq_iff_eq.mpr h
     simp only [List.lookup,hb,if_pos (h.trans hk)]
    ·have hb:(g==k)=false:=beq_eq_false_iff_ne.mpr h
     simp only [List.lookup,hb,if_neg (fun e:g=f=>h (e.trans hk.symm))]
   ·rw [if_neg hk]
    by_cases h:g=k
    ·have hb:(g==k)=true:=beq_iff_eq.mpr h
     simp only [List.lookup,hb,if_neg (fun e:g=f=>hk (h.symm.trans e))]
    ·have hb:(g==k)=false:=beq_eq_false_iff_ne.mpr h
     simp only [List.lookup,hb];exact ih
theorem pX (f:Str) (v:V):∀fs:List (Str×V),f∈(eE f v fs).map (·.1) /\ ∀g,g∈fs.map (·.1)->g∈(eE f v fs).map (·.1)
 | []=>⟨by simp [eE],fun g h=>by simp at h⟩
 | (k,x)::r=>by
   obtain ⟨i1,i2⟩:=pX f v r;rw [show eE f v ((k,x)::r)=(if k=f then (k,v)::r else (k,x)::eE f v r) from rfl]
   by_cases hk:k=f
   ·rw [if_pos hk]
    subst hk;exact ⟨by simp,fun g h=>by simpa using h⟩
   ·rw [if_neg hk]
    refine ⟨?_,fun g h=> ?_⟩
    ·rw [List.map_cons]
     exact List.mem_cons_of_mem _ i1
    ·rw [List.map_cons] at h ⊢
     rcases List.mem_cons.mp h with e|e
     ·exact List.mem_cons.mpr (.inl e)
     ·exact List.mem_cons_of_mem _ (i2 g e)
theorem qD (f:Str) (v:V):∀fs:List (Str×V),(eE f v fs).length<=fs.length+1
 | []=>by simp [eE]
 | (k,x)::r=>by
   have ih:=qD f v r;rw [show eE f v ((k,x)::r)=(if k=f then (k,v)::r else (k,x)::eE f v r) from rfl]
   by_cases hk:k=f
   ·rw [if_pos hk,List.length_cons,List.length_cons];omega
   ·rw [if_neg hk,List.length_cons,List.length_cons];omega
theorem j7.some_of {v:V} {o:Option Value} (r:j7 (some v) o):∃u,o=some u/\RelV v u:=by
 cases o with
 | none=>exact (show False from r).elim
 | some u=>exact ⟨u,rfl,r⟩
theorem j7.none_of {o:Option Value} (r:j7 none o):o=none:=by
 cases o with
 | none=>rfl
 | some u=>exact (show False from r).elim
theorem FZ {v:V} {u:Value} (r:RelV v u):PySem.W.handedIn u=true:=by
 cases v with
 | non=>cases (show u=Value.none from r);rfl
 | bl b=>cases (show u=Value.bool b from r);rfl
 | int i=>obtain ⟨t,e⟩:=(show ∃t,u=Value.int i t from r);cases e;rfl
 | str x=>obtain ⟨t,e⟩:=(show ∃t,u=Value.str x t from r);cases e;rfl
 | Ci b=>obtain ⟨t,e⟩:=(show ∃t,u=Value.bytes b t from r);cases e;rfl
 | flt b=>obtain ⟨t,e⟩:=(show ∃t,u=Value.float b t from r);cases e;rfl
 | ref a=>cases (show u=Value.ref a from r);rfl
 | ty n=>cases (show u=Value.type n from r);rfl
section
variable {P:Program} {w:World} {H H':Hp} {h h':Heap} {a C dx:Addr} {fs fs':List (Str×V)}
theorem lZ (hok:nR P w H h) (e:H a=some (.ins C dx fs)):∃mA,Cp h a dx C mA/\(∀f,j7 (fs.lookup f) (mA f))/\PySem.Within mA (fs.map (·.1))/\fs.length<=1000/\H dx=some (.own a):=by
 obtain ⟨d,z,ne,ob,mA,n,r,q⟩:=(show cH P w H h a (.ins C dx fs) from hok a _ e);exact ⟨mA,⟨ob,n,ne⟩,r,q,z,d⟩
end
structure Cls (K:PySem.W.Frag) (C:Addr):Prop where
 pg:PySem.W.plainGet K C Str.empty=true
 hd:PySem.W.hasDictIn K C=true
 po:PySem.W.plainOver K C=true
 sa:PySem.W.findIn K (.ref C) "__setattr__" = some (some (.builtin "object.__setattr__"))
theorem Cls.get {K:PySem.W.Frag} {C:Addr} (c:Cls K C) (f:Str):PySem.W.plainGet K C f=true:=c.pg
def iV (K:PySem.W.Frag) (C:Addr) (f:Str):Prop:=PySem.W.findIn K (.ref C) f=some none
theorem iV.taker {K:PySem.W.Frag} {C:Addr} {f:Str} (n:iV K C f):PySem.W.takerIn K C f=some none:=by
 unfold PySem.W.takerIn;rw [show PySem.W.findIn K (.ref C) f=some none from n];rfl
structure Meth (K:PySem.W.Frag) (C:Addr) (m:Str) (f:Addr):Prop where
 at_:PySem.W.findIn K (.ref C) m=some (some (.ref f))
 fn:PySem.W.isFn K (.ref f)=true
 kp:PySem.W.keepIn K (.ref f)=true
section
variable {X:Cx} {pins:List (Addr×Obj)} {σ:St} {H:Hp} {s:Shared} {a C dx:Addr} {fs:List (Str×V)} {f:Str} {v:V} {A:Around} {E:Value->Shared->Prop}
theorem BW {b:Bool} {Q:Value->Shared->Prop} (I:Inv X pins σ H s) (e:H a=some (.ins C dx fs)) (c:Cls X.K C) (n:iV X.K C f) (l:fs.lookup f=some v)
 (h:∀u s',Inv X pins σ H s'->RelV v u->Q u s'):wpAny (model X.prog X.w) A (getAttr (.ref a) f b) Q E s:=by
 obtain ⟨mA,O,r,_,_,_⟩:=lZ I.hok e;obtain ⟨u,hu,ru⟩:=j7.some_of (v:=v) (o:=mA f) (by rw [←l];exact r f);exact get_map I.nj O (c.get f) c.hd n hu (FZ ru) (h u _ (I.tok _) ru)
theorem tV {m:Str} {g:Addr} {pl:Sem Bool} {Q:Value×List Value->Shared->Prop} (I:Inv X pins σ H s) (e:H a=some (.ins C dx fs)) (c:Cls X.K C) (k:Meth X.K C m g) (l:fs.lookup m=none)
 (h:Q (.ref g,[.ref a]) s):wpAny (model X.prog X.w) A (getMethod (.ref a) m pl) Q E s:=by
 obtain ⟨mA,O,r,_,_,_⟩:=lZ I.hok e;have hn:mA m=none:=j7.none_of (by rw [←l];exact r m);exact Jx I.nj O (c.get m) k.at_ k.fn hn h
theorem Aq {y:V} {u:Value} {Q:Unit->Shared->Prop} (I:Inv X pins σ H s) (e:H a=some (.ins C dx fs)) (c:Cls X.K C) (n:iV X.K C f) (hl:fs.length<1000) (ry:RelV y u)
 (h:∀s',Inv X pins σ (upd H a (.ins C dx (eE f y fs))) s'->Q () s'):wpAny (model X.prog X.w) A (setAttr (.ref a) f u) Q E s:=by
 obtain ⟨mA,O,r,wi,_,ho⟩:=lZ I.hok e;have hz:(fs.map (·.1)).length<=sizeLine:=by rw [List.length_map,sizeLine_eq];omega
 refine KN I.nj O c.sa c.po n.taker c.hd wi hz fun h' O' sb=>h _ ?_;have hd:∃o,h'.get? dx=some o:=let ⟨o,_,_,e',_⟩:=O'.ns;⟨o,e'⟩
 refine I.write (x:=a) (e:=dx) (by rw [e];exact True.intro) (.inr ho) (fun b q hb z=>(sb.2 b hb).trans z) hd ?_;refine ⟨by rw [aQ O.ne];exact ho, ?_,O.ne,O'.obj,_,O'.ns,fun g=> ?_,fun g hg=> ?_⟩
 ·have:=qD f y fs;omega
 ·show j7 ((eE f y fs).lookup g) (if g=f then some u else mA g)
  rw [qC]
  by_cases q:g=f
  ·rw [if_pos q,if_pos q];exact ry
  ·rw [if_neg q,if_neg q];exact r g
 ·by_cases q:g=f
  ·rw [q];exact (pX f y fs).1
  ·refine (pX f y fs).2 g (wi g fun z=>hg ?_)
   show (if g=f then some u else mA g)=none;rw [if_neg q];exact z
theorem Inv.made (I:Inv X pins σ H s):Inv X pins σ (upd (upd H s.heap.objs.size (.own (s.heap.objs.size+1))) (s.heap.objs.size+1) (.ins C s.heap.objs.size []))
 {s with heap:=(s.heap.push PySem.W.emptyDict).push (PySem.W.instObj C s.heap.objs.size)}:=by
 have e1:(s.heap.push PySem.W.emptyDict).get? s.heap.objs.size=some PySem.W.emptyDict:=Heap.get?_push_size s.heap rfl
 have e2:((s.heap.push PySem.W.emptyDict).push (PySem.W.instObj C s.heap.objs.size)).get? (s.heap.objs.size+1)=some (PySem.W.instObj C s.heap.objs.size):=by
  have:=Heap.get?_push_size (s.heap.push PySem.W.emptyDict) (o:=PySem.W.instObj C s.heap.objs.size) rfl;rwa [Heap.size_push] at this
 have e3:(s.heap.push PySem.W.emptyDict).Ns s.heap.objs.size (fun _=>none):=⟨PySem.W.emptyDict, #[],_,e1,rfl,(fun e he=>absurd he (by simp)),fun _=>rfl⟩;have I1:=I.laid (a:=s.heap.objs.size) (o:= .own (s.heap.objs.size+1)) (h':=s.heap.push PySem.W.emptyDict) (t':=s.toks) (fun b u q=>Heap.get?_push_of_some _ q) (Nat.le_refl _) ⟨_,e1⟩;refine I1.laid (a:=s.heap.objs.size+1) (o:= .ins C s.heap.objs.size []) (t':=s.toks) (fun b u q=>Heap.get?_push_of_some _ q) (Nat.le_of_eq (Heap.size_push _ _)) ?_;have ne:s.heap.objs.size≠s.heap.objs.size+1:=Nat.ne_of_lt (Nat.lt_succ_self _);refine ⟨by rw [aQ ne,ao],Nat.zero_le _,ne,e2,fun _=>none,(Heap.Ns1.of_empty e3).at fun o q=>Heap.get?_push_of_some _ q,fun _=>True.intro,fun y hy=>absurd rfl hy⟩
theorem Np {prog:Program} {w:World} {env:Env} {e:Expr} {f:Str} {pos:Pos} {s:Shared} {Q:Value->Shared->Prop} (hb:attributeBase e f env (eval e env)=eval e env)
 (h:wpAny (model prog w) A (eval e env) (fun o s₁=>wpAny (model prog w) A (getAttr o f true) Q E s₁) E s):wpAny (model prog w) A (eval (.Attribute e f pos) env) Q E s:=
 Attribute_any_ h (by rw [arm_eval_Attribute,hb])
end
def Pa (K:PySem.W.Frag) (ta:TE) (f:Str):TE:=fun σ H Q=>ta σ H fun x H1=>∃a C dx fs v,x = .ref a/\H1 a=some (.ins C dx fs)/\Cls K C/\iV K C f/\fs.lookup f=some v/\Q v H1
def R0 (K:PySem.W.Frag) (ta tv:TE) (f:Str):TS:=fun D σ H=>tv σ H fun y H1=>ta σ H1 fun x H2=>∃a C dx fs,x = .ref a/\H2 a=some (.ins C dx fs)/\Cls K C/\iV K C f/\fs.length<1000 /\
 D.nx σ (upd H2 a (.ins C dx (eE f y fs)))
section
variable {X:Cx} {o e value:Expr} {f:Str} {pos pos' tpos:Pos} {ta tv:TE}
theorem PX (he:PE X e ta) (hb:attributeBase e f X.env (eval e X.env)=eval e X.env):PE X (.Attribute e f pos) (Pa X.K ta f):=by
 intro pins s σ H Q I h;refine Np hb (cU (he pins s σ H _ I h) fun u s1 ⟨x,H1,I1,rx,a,C,dx,fs,v,ex,ea,c,n,l,q⟩=> ?_);subst ex;obtain rfl:u=Value.ref a:=rx;exact BW I1 ea c n l fun u' s2 I2 ru=>⟨v,H1,I2,ru,q⟩
theorem PJ (ha:PE X o ta) (hv:PE X value tv) (hs:swapsWith value (some (.Attribute o f pos')) pos.line X.env=pure false):PS X (.Assign [.Attribute o f pos'] value pos) (R0 X.K ta tv f):=by
 intro pins s σ H D I h;refine plainObj_wpAny_Assign_Attribute (cU (hv pins s σ H _ I h) fun u s1 ⟨y,H1,I1,ry,q⟩=>cU (ha pins s1 σ H1 _ I1 q) fun ov s2 ⟨x,H2,I2,rx,a,C,dx,fs,ex,ea,c,n,l,q2⟩=> ?_) hs;subst ex;obtain rfl:ov=Value.ref a:=rx;exact Aq I2 ea c n l ry fun s3 I3=>⟨σ,_,I3,q2⟩
end
section
variable {X:Cx} {pins:List (Addr×Obj)} {σ:St} {H:Hp} {s:Shared} {A:Around} {E:Value->Shared->Prop} {Q:Value->Shared->Prop} {c:Value} {b:Bool}
inductive pA (K:PySem.W.Frag) (H:Hp):V->Value->Prop where
 | non:pA K H .non (.type "NoneType")
 | bl (x:Bool):pA K H (.bl x) (.type "bool")
 | int (i:Int):pA K H (.int i) (.type "int")
 | str (x:Str):pA K H (.str x) (.type "str")
 | flt (x:UInt64):pA K H (.flt x) (.type "float")
 | lst {a:Addr} {xs:List V} (e:H a=some (.lst xs)):pA K H (.ref a) (.type "list")
 | mz {a:Addr} {o:Obj} {xs:List V} (e:H a=some (.mz o (.lst xs))):pA K H (.ref a) (.type "list")
 | tup {a:Addr} {xs:List V} (e:H a=some (.tup xs)):pA K H (.ref a) (.type "tuple")
 | dK {a:Addr} {kvs:List (Key×V)} (e:H a=some (.dK kvs)):pA K H (.ref a) (.type "dict")
 | dT {a:Addr} {kvs:List (List Key×V)} (e:H a=some (.dT kvs)):pA K H (.ref a) (.type "dict")
 | ins {a C dx:Addr} {fs:List (Str×V)} (e:H a=some (.ins C dx fs)) (cl:Cls K C) (ha:PySem.W.findIn K (.ref C) "__class__" = some (some (.builtin "object.__class__")))
    (hn:PySem.W.specialIn K (.builtin "object.__class__") "__get__" = some (some (.builtin "getset_descriptor.__get__"))) (htk:PySem.W.takesIn K (.builtin "object.__class__")=some true)
    (hm:PySem.W.mroIn K C (.type "object")=some true):pA K H (.ref a) (.ref C)
theorem Fy {x:V} {u t:Value} (I:Inv X pins σ H s) (rx:RelV x u) (ty:pA X.K H x t) (e:PySem.W.kitOne X.K t c=some b) (h:∀tk,Q (.bool b) {s with toks:=tk}):
 wpAny (model X.prog X.w) A (call (.builtin "isinstance") [u,c]) Q E s:=by
 cases ty with
 | non=>cases (show u=Value.none from rx);exact PySem.W.kia_one PySem.W.kitx_none I.nj True.intro e (fun z=>nomatch z) h
 | bl y=>cases (show u=Value.bool y from rx);exact PySem.W.kia_one PySem.W.kitx_bool I.nj True.intro e (fun z=>nomatch z) h
 | int i=>obtain ⟨t,q⟩:=(show ∃t,u=Value.int i t from rx);cases q;exact PySem.W.kia_one PySem.W.kitx_int I.nj True.intro e (fun z=>nomatch z) h
 | str y=>obtain ⟨t,q⟩:=(show ∃t,u=Value.str y t from rx);cases q;exact PySem.W.kia_one PySem.W.kitx_str I.nj True.intro e (fun z=>nomatch z) h
 | flt y=>obtain ⟨t,q⟩:=(show ∃t,u=Value.float y t from rx);cases q;exact PySem.W.kia_one PySem.W.kitx_float I.nj True.intro e (fun z=>nomatch z) h
 | @lst a xs ea=>
   cases (show u=Value.ref a from rx);obtain ⟨_,_,n,_,h1⟩:=(show cH X.prog X.w H s.heap a (.lst xs) from I.hok a _ ea);exact PySem.W.kia_one PySem.W.kitx_list I.nj ⟨_,h1,rfl⟩ e (fun z=>nomatch z) h
 | @mz a ob xs ea=>
   cases (show u=Value.ref a from rx);obtain ⟨_,_,_,n,_,h1⟩:=(show cH X.prog X.w H s.heap a (.mz ob (.lst xs)) from I.hok a _ ea);exact PySem.W.kia_one PySem.W.kitx_list I.nj ⟨_,h1,rfl⟩ e (fun z=>nomatch z) h
 | @tup a xs ea=>
   cases (show u=Value.ref a from rx);obtain ⟨_,_,_,p⟩:=(show cH X.prog X.w H s.heap a (.tup xs) from I.hok a _ ea);obtain ⟨o,h1,h2,_⟩:=p;exact PySem.W.kia_one PySem.W.kitx_tuple I.nj ⟨o,h1,h2⟩ e (fun z=>nomatch z) h
 | @dK a kvs ea=>
   cases (show u=Value.ref a from rx);obtain ⟨_,_,vs,_,p⟩:=(show cH X.prog X.w H s.heap a (.dK kvs) from I.hok a _ ea);obtain ⟨o,es,ep,h1,h2,_⟩:=p;exact PySem.W.kia_one PySem.W.kitx_dict I.nj ⟨o,h1,h2.1⟩ e (fun z=>nomatch z) h
 | @dT a kvs ea=>
   cases (show u=Value.ref a from rx);obtain ⟨_,_,xs,_,o,es,ep,h1,h2,_⟩:=(show cH X.prog X.w H s.heap a (.dT kvs) from I.hok a _ ea);exact PySem.W.kia_one PySem.W.kitx_dict I.nj ⟨o,h1,h2.1⟩ e (fun z=>nomatch z) h
 | @ins a C dx fs ea cl ha hn htk hm=>
   cases (show u=Value.ref a from rx);obtain ⟨mA,O,_⟩:=lZ I.hok ea;obtain ⟨od,J,_⟩:=O.look;exact PySem.W.kia_one (PySem.W.kitx_own (cl.get _) cl.hd ha hn htk hm) I.nj J e (fun z=>nomatch z) h
end
end L2
namespace L2
open PySem PySem.Spec PyProof.Rows
structure dj (k:Nat) (A:Around):Prop where
 hd:A.handled=none
 dp:A.depth+3*k+5<recursionLimit
 un:A.units+16*k+200<cLine
theorem dj.mono {j k:Nat} {A:Around} (r:dj k A) (h:j<=k):dj j A:=⟨r.hd,by have:=r.dp;omega,by have:=r.un;omega⟩
theorem dj.deeper {k:Nat} {A:Around} (r:dj (k+1) A) (env:Env):dj k (A.deeper env):=
 ⟨r.hd,by have:=r.dp;show A.depth+1+3*k+5<_;omega,by have:=r.un;show A.units+3+16*k+200<_;omega⟩
theorem dj.in1 {k:Nat} {A:Around} (r:dj (k+1) A):dj k A.in1:=
 ⟨r.hd,by have:=r.dp;show A.depth+3*k+5<_;omega,by have:=r.un;show A.units+1+16*k+200<_;omega⟩
theorem Bv {A:Around} {C:Addr} {us:List Value} {kw:List (Str×Value)}:(A.under (.builtin "type.__call__" ⟨.ref C::us,kw⟩)).depth=A.depth+1:=by
 first |rfl|simp [Around.under,Code.weight,Code.isCreation,Code.isGuard,Code.isCaller,Code.frames,Code.isFrame,guardIds]
theorem Bu {A:Around} {C:Addr} {us:List Value} {kw:List (Str×Value)}:(A.under (.builtin "type.__call__" ⟨.ref C::us,kw⟩)).units=A.units+1:=by
 first |rfl|simp [Around.under,Code.cUnits,Code.frames,Code.isFrame]
theorem dj.make {k:Nat} {A:Around} (r:dj (k+1) A) (C:Addr) (us:List Value) (kw:List (Str×Value)):dj k (A.under (.builtin "type.__call__" ⟨.ref C::us,kw⟩)):=
 ⟨r.hd,by have:=r.dp;rw [Bv];omega,by have:=r.un;rw [Bu];omega⟩
theorem dj.depth {k:Nat} {A:Around} (r:dj k A):A.depth<recursionLimit:=by have:=r.dp;omega
theorem dj.units {k:Nat} {A:Around} (r:dj k A):A.units+64<cLine:=by have:=r.un;omega
theorem dj.O7 {k:Nat} {A:Around} (r:dj k A):A.units<cLine:=by have:=r.un;omega
def vP:TA:=fun _ H Q=>Q [] H
def Hi (ta:TE) (tr:TA):TA:=fun σ H Q=>ta σ H fun x H1=>tr σ H1 fun xs H2=>Q (x::xs) H2
section
variable {X:Cx} {e:Expr} {es:List Expr} {te:TE} {t:TA} {pos:Pos}
theorem aq:PA X [] vP:=fun _ _ _ _ H Q I h=>Calls.spliced_nil ⟨[],H,I,.nil,h⟩
theorem aj (ha:PE X e te) (hr:PA X es t) (hs:starEach (e::es) X.env=(false,eval e X.env)::starEach es X.env:=by rfl):PA X (e::es) (Hi te t):=by
 intro pos pins s σ H Q I h;rw [hs];show wpAny _ _ (spliced ((false,eval e X.env)::backTo pos (starEach es X.env))) _ _ s;refine Calls.spliced_cons (cU (ha pins s σ H _ I h) fun u s1 ⟨x,H1,I1,r1,q1⟩=> ?_);exact cU (hr pos pins s1 σ H1 _ I1 q1) fun us s2 ⟨xs,H2,I2,r2,q2⟩=>⟨x::xs,H2,I2,.cons r1 r2,q2⟩
def W4 (t:TA):TE:=fun σ H Q=>t σ H fun xs H1=>xs.length<=sizeLine /\ ∀p,H1 p=none->Q (.ref p) (upd H1 p (.tup xs))
def W9 (t:TA):TE:=fun σ H Q=>t σ H fun xs H1=>xs.length<=sizeLine /\ ∀p,H1 p=none->Q (.ref p) (upd H1 p (.lst xs))
theorem jh {x1} (h:PA X es t):PE X (.Tuple es x1 pos) (W4 t):=by
 intro pins s σ H Q I hq;refine wpAny_Tuple_spliced (cU (h pos pins s σ H _ I hq) fun us s1 ⟨xs,H1,I1,r,z,q⟩=>⟨by rw [←r.length];exact z, ?_⟩);have hf:H1 s1.heap.objs.size=none:=I1.hok.fresh (Nat.le_refl _);refine ⟨.ref s1.heap.objs.size,upd H1 s1.heap.objs.size (.tup xs),I1.laid (t':=s1.toks) (fun b u e=>Heap.get?_push_of_some _ e) (Nat.le_refl _) ?_,rfl,q _ hf⟩;exact ⟨z,us,r,⟨_,Heap.get?_push_size _ rfl,rfl,_,rfl⟩⟩
theorem bT (h:PA X es t):PE X (.List es pos) (W9 t):=by
 intro pins s σ H Q I hq;refine wpAny_List_spliced (cU (h pos pins s σ H _ I hq) fun us s1 ⟨xs,H1,I1,r,z,q⟩=>⟨by rw [←r.length];exact z, ?_⟩);have hf:H1 s1.heap.objs.size=none:=I1.hok.fresh (Nat.le_refl _);refine ⟨.ref s1.heap.objs.size,upd H1 s1.heap.objs.size (.lst xs),I1.laid (t':=s1.toks) (fun b u e=>Heap.get?_push_of_some _ e) (Nat.le_refl _) ?_,rfl,q _ hf⟩;exact ⟨z,us,0,r,Heap.get?_push_size _ rfl⟩
end
abbrev Sp:=List V->Hp->VK->XK->Prop
abbrev Kg:=List Env->Hp->Shared->XK->Value->Shared->Prop
structure u6 (P:Program) (w:World) (K:PySem.W.Frag) (mg:Str->Option Value) (base:Heap) (A:Around) (outer:List Env) (s:Shared) (H:Hp):Prop where
 frames:A.frames=some outer
 mod:Mod K mg base
 bs:∀b o,base.get? b=some o->s.heap.get? b=some o/\H b=none
 JW:base.objs.size<=s.heap.objs.size
 p7:s.heap.FunFrames base outer
 Ow:∀b∈frs outer,H b=none
 hok:nR P w H s.heap
 bare:AllBare s.gens
def CE (outer:List Env) (P:Program) (w:World) (H:Hp) (s:Shared) (Q:VK) (u:Value) (s':Shared):Prop:=
 ∃v H',s'.os=s.os/\AllBare s'.gens/\Un (frs outer) [] H H' s.heap s'.heap/\nR P w H' s'.heap/\RelV v u/\Q v H'
def CR (CX:Kg) (outer:List Env) (P:Program) (w:World) (H:Hp) (s:Shared) (Q:VK) (E:XK) (r:Result) (s':Shared):Prop:=
 match r with
 | .ok (.ret u)=>CE outer P w H s Q u s'
 | .ok _=>False
 | .error e=>CX outer H s E e s'
structure cJ (P:Program) (w:World) (K:PySem.W.Frag) (mg:Str->Option Value) (base:Heap) (CX:Kg) (k:Nat) (f:Addr) (fd:FuncData) (ps:List Str) (sp:Sp):Prop where
 len:∀vs H Q E,sp vs H Q E->vs.length=ps.length
 run:∀(A:Around) (outer:List Env) (s:Shared) (H:Hp) (args:Args) (us:List Value) (vs:List V) (Q:VK) (E:XK),dj k A->u6 P w K mg base A outer s H->BindsTo s fd args (ps.zip us)->Vals vs us->sp vs H Q E ->
  codeAny (model P w) A (.call (.ref f) args) (CR CX outer P w H s Q E) s
theorem u6.make {P:Program} {w:World} {K:PySem.W.Frag} {mg:Str->Option Value} {base:Heap} {A:Around} {outer:List Env} {s:Shared} {H:Hp} (e:u6 P w K mg base A outer s H) (C:Addr) (us:List Value) (kw:List (Str×Value)):
 u6 P w K mg base (A.under (.builtin "type.__call__" ⟨.ref C::us,kw⟩)) outer s H:=⟨by first |exact e.frames|(simpa [Around.under,Code.envs,Code.isFrame,pushEnvs] using e.frames),e.mod,e.bs,e.JW,e.p7,e.Ow,e.hok,e.bare⟩
theorem u6.in1 {P:Program} {w:World} {K:PySem.W.Frag} {mg:Str->Option Value} {base:Heap} {A:Around} {outer:List Env} {s:Shared} {H:Hp} (e:u6 P w K mg base A outer s H):
 u6 P w K mg base A.in1 outer s H:=⟨e.frames,e.mod,e.bs,e.JW,e.p7,e.Ow,e.hok,e.bare⟩
section
variable {X:Cx} {pins:List (Addr×Obj)} {σ:St} {H:Hp} {s s':Shared}
theorem Inv.env0 (I:Inv X pins σ H s):u6 X.prog X.w X.K X.mg X.base X.A X.stack s H:=
 ⟨I.ok.frames,I.ok.mod,I.bs,Nat.le_trans I.ok.JW I.sz,I.stack,I.CW,I.hok,I.bare⟩
theorem Inv.after {Q:VK} {u:Value} (I:Inv X pins σ H s) (h:CE X.stack X.prog X.w H s Q u s'):EP X pins σ Q u s':=by
 obtain ⟨v,H',os,bare,un,hok,r,q⟩:=h;obtain ⟨hh,g,d,t,os'⟩:=s';obtain rfl:os'=s.os:=os;exact ⟨v,H',I.call (h':=hh) (g':=g) (d':=d) (t':=t) (ch:=[]) un hok bare (fun b z=>absurd z (by simp)),r,q⟩
end
def N8 (sp:Sp) (nP:List V) (E:XK) (t:TA):TE:=fun σ H Q=>t σ H fun vs H1=>sp (vs++nP) H1 Q E
def CP (C:Addr) (m:Str) (sp:Sp) (nP:List V) (E:XK) (ta:TE) (t:TA):TE:=fun σ H Q=>ta σ H fun x H1=>∃a dx fs,x = .ref a/\H1 a=some (.ins C dx fs)/\fs.lookup m=none /\
 t σ H1 fun vs H2=>sp (x::(vs++nP)) H2 Q E
def N6 (C:Addr) (sp:Sp) (nP:List V) (E:XK) (t:TA):TE:=fun σ H Q=>t σ H fun vs H1=>∀x dx,H1 x=none->H1 dx=none->dx≠x ->
 sp (.ref x::(vs++nP)) (upd (upd H1 dx (.own x)) x (.ins C dx [])) (fun v H2=>v = .non/\Q (.ref x) H2) E
def Binds (K:PySem.W.Frag) (fd:FuncData) (ps:List Str) (ds:List Value):Prop:=
 ∀(s:Shared) (us:List Value),K.In s.heap->(us++ds).length=ps.length->BindsTo s fd ⟨us,[]⟩ (ps.zip (us++ds))
theorem Binds.all {K:PySem.W.Frag} {fd:FuncData} {ps:List Str} (h:∀us:List Value,us.length=ps.length->bindArgs fd ⟨us,[]⟩=pure (ps.zip us)):Binds K fd ps []:=fun s us _ hl=>by
 rw [List.append_nil] at hl ⊢;exact .of_eq (h us hl)
def Passes (CX:Kg) (X:Cx) (E:XK):Prop:=∀(pins:List (Addr×Obj)) (σ:St) (H:Hp) (s:Shared) (e:Value) (s':Shared),Inv X pins σ H s->CX X.stack H s E e s'->X.xe e s'
section
variable {X:Cx} {CX:Kg} {k:Nat} {f C:Addr} {fd:FuncData} {ps:List Str} {sp:Sp} {nP:List V} {ds:List Value} {E:XK} {x m:Str} {p pos apos:Pos} {e o:Expr} {es:List Expr} {ta:TE} {t:TA}
theorem Av {pins:List (Addr×Obj)} {σ:St} {H:Hp} {s:Shared} {Q:VK} {us:List Value} {vs:List V} (F:cJ X.prog X.w X.K X.mg X.base CX k f fd ps sp) (hr:dj k X.A) (hb:Binds X.K fd ps ds) (hd:Vals nP ds) (hx:Passes CX X E)
 (I:Inv X pins σ H s) (r:Vals vs us) (h:sp (vs++nP) H Q E):wpAny (model X.prog X.w) X.A (call (.ref f) us) (EP X pins σ Q) X.xe s:=by
 have r2:Vals (vs++nP) (us++ds):=r.append hd;have hl:(us++ds).length=ps.length:=by rw [←r2.length];exact F.len _ _ _ _ h
 refine wpAny_call (codeAny_mono (F.run X.A X.stack s H ⟨us,[]⟩ (us++ds) (vs++nP) Q E hr I.env0 (hb s us I.nj hl) r2 h) fun r s' hq=> ?_);cases r with
 | error e=>exact hx pins σ H s e s' I hq
 | ok fl=>
   cases fl with
   | ret u=>exact I.after hq
   | next=>exact False.elim hq
   | brk=>exact False.elim hq
   | cont=>exact False.elim hq
theorem Lx (F:cJ X.prog X.w X.K X.mg X.base CX k f fd ps sp) (hr:dj k X.A) (hg:Gl X x) (hm:X.mg x=some (.ref f)) (hk:PySem.W.keepIn X.K (.ref f)=true) (hb:Binds X.K fd ps ds) (hd:Vals nP ds) (hx:Passes CX X E)
 (ha:PA X (e::es) t) (hdb:(x==("__debug__" :Str))=false:=by decide) (he:starEach (e::es) X.env=(false,eval e X.env)::starEach es X.env:=by rfl) (hpl:(backTo pos (starEach es X.env)).any (·.1)=false:=by rfl):
 PE X (.Call (.Name x p) (e::es) [] pos) (N8 sp nP E t):=by
 intro pins s σ H Q I h;refine wpAny_Call_Name_kw (wJ I hg hm ?_ hdb);refine PySem.W.callWith_K (h₀:=X.base) I.ok.mod.Rt hk (cU (ha pos pins s σ H _ I h) fun us s1 ⟨vs,H1,I1,r,q⟩=>⟨I1.nj, ?_⟩) he hpl;exact Av F hr hb hd hx I1 r q
theorem Lp {pl:Sem Bool} (he:PE X o ta) (c:Cls X.K C) (hm:Meth X.K C m f) (F:cJ X.prog X.w X.K X.mg X.base CX k f fd ps sp) (hr:dj k X.A) (hb:Binds X.K fd ps ds) (hd:Vals nP ds) (hx:Passes CX X E) (ha:PA X (e::es) t)
 (hst:starEach (e::es) X.env=(false,eval e X.env)::starEach es X.env:=by rfl) (hpl:(backTo pos (starEach es X.env)).any (·.1)=false:=by rfl)
 (ht:eval (.Call (.Attribute o m apos) (e::es) [] pos) X.env=(do
   let ov ←eval o X.env
   standAt apos.atName
   let (f,first) ←holding [ov] (getMethod ov m pl)
   callWith pos f first (backTo pos (starEach (e::es) X.env)) (backToKw pos (keywordEach [] X.env))):=by rfl):
 PE X (.Call (.Attribute o m apos) (e::es) [] pos) (CP C m sp nP E ta t):=by
 intro pins s σ H Q I h;refine PySem.W.methodCall_KW (pl:=pl) (cU (he pins s σ H _ I h) fun u s1 ⟨x,H1,I1,rx,a,dx,fs,ex,ea,l,q⟩=> ?_) ht;subst ex;obtain rfl:u=Value.ref a:=rx;refine tV I1 ea c hm l ?_;refine PySem.W.callWith_K (first:=[.ref a]) (h₀:=X.base) I.ok.mod.Rt hm.kp (cU (ha pos pins s1 σ H1 _ I1 q) fun us s2 ⟨vs,H2,I2,r,q2⟩=>⟨I2.nj, ?_⟩) hst hpl;exact Av (us:= .ref a::us) (vs:= .ref a::vs) F hr hb hd hx I2 (.cons rfl r) q2
theorem Ig {pl:Sem Bool} (he:PE X o ta) (c:Cls X.K C) (hm:Meth X.K C m f) (F:cJ X.prog X.w X.K X.mg X.base CX k f fd ps sp) (hr:dj k X.A) (hb:Binds X.K fd ps ds) (hd:Vals nP ds) (hx:Passes CX X E)
 (ht:eval (.Call (.Attribute o m apos) [] [] pos) X.env=(do
   let ov ←eval o X.env
   standAt apos.atName
   let (f,first) ←holding [ov] (getMethod ov m pl)
   callWith pos f first (backTo pos (starEach [] X.env)) (backToKw pos (keywordEach [] X.env))):=by rfl):
 PE X (.Call (.Attribute o m apos) [] [] pos) (CP C m sp nP E ta vP):=by
 intro pins s σ H Q I h;refine PySem.W.methodCall_KW (pl:=pl) (cU (he pins s σ H _ I h) fun u s1 ⟨x,H1,I1,rx,a,dx,fs,ex,ea,l,q⟩=> ?_) ht;subst ex;obtain rfl:u=Value.ref a:=rx;refine tV I1 ea c hm l ?_;exact PySem.W.callWith_K0 (first:=[.ref a]) I1.nj hm.kp (Av (us:=[.ref a]) (vs:=[.ref a]) F hr hb hd hx I1 (.cons rfl .nil) q)
structure Mk (K:PySem.W.Frag) (C f:Addr):Prop where
 makes:PySem.W.makesIn K C=true
 init:PySem.W.findIn K (.ref C) "__init__" = some (some (.ref f))
 fn:PySem.W.isFn K (.ref f)=true
 kp:PySem.W.keepIn K (.ref C)=true
theorem Ht {pins:List (Addr×Obj)} {σ:St} {H:Hp} {s:Shared} {Q:VK} {us:List Value} {vs:List V} (M:Mk X.K C f) (F:cJ X.prog X.w X.K X.mg X.base CX k f fd ps sp) (hr:dj (k+1) X.A) (hb:Binds X.K fd ps ds) (hd:Vals nP ds)
 (hx:Passes CX X E) (I:Inv X pins σ H s) (r:Vals vs us)
 (h:∀x dx,H x=none->H dx=none->dx≠x->sp (.ref x::(vs++nP)) (upd (upd H dx (.own x)) x (.ins C dx [])) (fun v H2=>v = .non/\Q (.ref x) H2) E):
 wpAny (model X.prog X.w) X.A (call (.ref C) us) (EP X pins σ Q) X.xe s:=by
 have hq:=h (s.heap.objs.size+1) s.heap.objs.size (I.hok.fresh (Nat.le_succ _)) (I.hok.fresh (Nat.le_refl _)) (Nat.ne_of_lt (Nat.lt_succ_self _));have I2:=Inv.made (C:=C) I;have r2:Vals (V.ref (s.heap.objs.size+1)::(vs++nP)) (Value.ref (s.heap.objs.size+1)::(us++ds)):= .cons rfl (r.append hd)
 have hl:(Value.ref (s.heap.objs.size+1)::us++ds).length=ps.length:=by
  have e:=r2.length;rw [F.len _ _ _ _ hq] at e;exact e.symm
 refine wpAny_call (Jg (f:=f) I.nj M.makes M.init (beq_iff_eq.mp M.fn) (codeAny_mono (F.run _ X.stack _ _ ⟨Value.ref (s.heap.objs.size+1)::us,[]⟩ (Value.ref (s.heap.objs.size+1)::(us++ds)) _ _ E (hr.make C us [])
  (I2.env0.make C us []) (hb _ (Value.ref (s.heap.objs.size+1)::us) I2.nj hl) r2 hq) fun r s' hq'=> ?_))
 cases r with
 | error e=>exact hx pins σ _ _ e s' I2 hq'
 | ok fl=>
   cases fl with
   | ret u=>
     obtain ⟨v,H',I3,rv,ev,q3⟩:=I2.after hq';subst ev;exact ⟨rv,⟨V.ref (s.heap.objs.size+1),H',I3,rfl,q3⟩⟩
   | next=>exact False.elim hq'
   | brk=>exact False.elim hq'
   | cont=>exact False.elim hq'
theorem Lq (M:Mk X.K C f) (F:cJ X.prog X.w X.K X.mg X.base CX k f fd ps sp) (hr:dj (k+1) X.A) (hg:Gl X x) (hm:X.mg x=some (.ref C)) (hb:Binds X.K fd ps ds) (hd:Vals nP ds) (hx:Passes CX X E)
 (ha:PA X (e::es) t) (hdb:(x==("__debug__" :Str))=false:=by decide) (he:starEach (e::es) X.env=(false,eval e X.env)::starEach es X.env:=by rfl) (hpl:(backTo pos (starEach es X.env)).any (·.1)=false:=by rfl):
 PE X (.Call (.Name x p) (e::es) [] pos) (N6 C sp nP E t):=by
 intro pins s σ H Q I h;refine wpAny_Call_Name_kw (wJ I hg hm ?_ hdb);refine PySem.W.callWith_K (h₀:=X.base) I.ok.mod.Rt M.kp (cU (ha pos pins s σ H _ I h) fun us s1 ⟨vs,H1,I1,r,q⟩=>⟨I1.nj, ?_⟩) he hpl;exact Ht M F hr hb hd hx I1 r q
end
section
variable {X:Cx} {CX:Kg} {k:Nat} {f C:Addr} {fd:FuncData} {ps ks:List Str} {sp:Sp} {E:XK} {x m:Str} {p pos apos kpos:Pos} {e o:Expr} {es:List Expr} {kws:List Keyword} {te ta:TE} {t tk:TA} {nm:Option Str}
variable {g:List Value->List Value->List Value} {gV:List V->List V->List V}
end
structure aZ (N P:List Str) (sc:Scope):Prop where
 kind:sc.kind = .function
 co:sc.isCoroutine=false
 gen:sc.isGenerator=false
 nd:N.Nodup
 pre:N.take P.length=P
 par:∀x∈P,sc.names.lookup x=some .local\/sc.names.lookup x=some .cell
 Qj:∀y∈sc.names,y.2 ≠ .free
theorem vI {kindOf:Str->Option NameKind} {x:Str}:∀{binds:List (Str×Value)} {m:Str->Option Value},(∀v,(x,v)∉binds)->bindL kindOf binds m x=m x
 | [],_,_=>rfl
 | (n,v)::r,m,h=>by
   unfold bindL;rw [vI fun w hw=>h w (List.mem_cons_of_mem _ hw)];split
   ·have:x≠n:=by rintro rfl;exact h v List.mem_cons_self
    simp [this]
   ·rfl
theorem vK {kindOf:Str->Option NameKind} {x:Str}:∀{binds:List (Str×Value)} {m:Str->Option Value},(∀v,(x,v)∉binds)->bindC kindOf binds m x=m x
 | [],_,_=>rfl
 | (n,v)::r,m,h=>by
   unfold bindC;rw [vK fun w hw=>h w (List.mem_cons_of_mem _ hw)];split
   ·rfl
   ·have:x≠n:=by rintro rfl;exact h v List.mem_cons_self
    simp [this]
theorem vJ {kindOf:Str->Option NameKind} {x:Str} {v:Value}:∀{P:List Str} {vs:List Value} {i:Nat} {m:Str->Option Value},P.Nodup->P[i]? = some x->vs[i]? = some v->kindOf x=some .local ->
 bindL kindOf (P.zip vs) m x=some v
 | [],_,_,_,_,h,_,_=>by simp at h
 | _::_,[],_,_,_,_,h,_=>by simp at h
 | p::P,w::vs,0,m,nd,h1,h2,hk=>by
   simp at h1 h2;subst h1;subst h2;show bindL kindOf ((p,w)::P.zip vs) m p=_;unfold bindL;rw [vI fun v hv=>(List.nodup_cons.mp nd).1 (List.of_mem_zip hv).1,if_pos hk];simp
 | p::P,w::vs,i+1,m,nd,h1,h2,hk=>by
   show bindL kindOf ((p,w)::P.zip vs) m x=_;unfold bindL;exact vJ (i:=i) (List.nodup_cons.mp nd).2 (by simpa using h1) (by simpa using h2) hk
theorem vL {kindOf:Str->Option NameKind} {x:Str} {v:Value}:∀{P:List Str} {vs:List Value} {i:Nat} {m:Str->Option Value},P.Nodup->P[i]? = some x->vs[i]? = some v->kindOf x≠some .local ->
 bindC kindOf (P.zip vs) m x=some v
 | [],_,_,_,_,h,_,_=>by simp at h
 | _::_,[],_,_,_,_,h,_=>by simp at h
 | p::P,w::vs,0,m,nd,h1,h2,hk=>by
   simp at h1 h2;subst h1;subst h2;show bindC kindOf ((p,w)::P.zip vs) m p=_;unfold bindC;rw [vK fun v hv=>(List.nodup_cons.mp nd).1 (List.of_mem_zip hv).1,if_neg hk];simp
 | p::P,w::vs,i+1,m,nd,h1,h2,hk=>by
   show bindC kindOf ((p,w)::P.zip vs) m x=_;unfold bindC;exact vL (i:=i) (List.nodup_cons.mp nd).2 (by simpa using h1) (by simpa using h2) hk
def start (N:List Str) (vs:List V):St:=vs.map some++List.replicate (N.length - vs.length) none
def Ge (CX:Kg) (P:Program) (w:World) (K:PySem.W.Frag) (mg:Str->Option Value) (base:Heap) (N:List Str) (qual:Str) (scope:Scope) (f:Addr) (cd:Value) (A:Around) (outer:List Env) (s:Shared) (H:Hp) (E:XK):Cx where
 prog:=P
 w:=w
 K:=K
 mg:=mg
 base:=base
 A:=A.deeper (envOfC qual scope s.heap.objs.size f cd)
 N:=N
 s₀:=s
 H₀:=H
 env:=envOfC qual scope s.heap.objs.size f cd
 outer:=outer
 stack:=envOfC qual scope s.heap.objs.size f cd::outer
 ex:=[]
 calm:=true
 fn:=fun _=>true
 pn:=[]
 xe:=fun e s'=>wpAny (model P w) (A.deeper (envOfC qual scope s.heap.objs.size f cd)) (leaving (envOfC qual scope s.heap.objs.size f cd) e) (fun _ s''=>CX outer H s E e s'') (fun e' s''=>CX outer H s E e' s'') s'
theorem zG {sc:Scope} {n:Nat} {x:Str} (h:sc.names.lookup x=some .cell):∃c,(cellsFrom n sc.names []).lookup x=some c:=by
 have q:=PySem.W.cellsFrom_some sc.names n [] (.inl h);exact Option.isSome_iff_exists.mp q
theorem FJ {CX:Kg} {P:Program} {w:World} {K:PySem.W.Frag} {mg:Str->Option Value} {base:Heap} {N ps:List Str} {qual:Str} {scope:Scope} {f:Addr} {cd:Value} {A:Around} {outer:List Env} {s s1:Shared} {H:Hp} {E:XK} {us:List Value} {vs:List V}
 (S:aZ N ps scope) (hd:A.handled=none) (e0:u6 P w K mg base A outer s H) (hl:vs.length=ps.length) (r:Vals vs us)
 (x:InCallC s s.heap.objs.size (bindL (envOfC qual scope s.heap.objs.size f cd).kindOf (ps.zip us) fun _=>none) (cellsFrom (s.heap.objs.size+1) scope.names []) (bindC (envOfC qual scope s.heap.objs.size f cd).kindOf (ps.zip us) fun _=>none) s1):
 Inv (Ge CX P w K mg base N qual scope f cd A outer s H E) [] (start N vs) H s1:=by
 have hpl:ps.length<=N.length:=by have:=congrArg List.length S.pre;rw [List.length_take] at this;omega
 obtain ⟨h1,tk,rfl,hk⟩:=x.done;have S8:∀b:Addr,b∉(Ge CX P w K mg base N qual scope f cd A outer s H E).ex:=fun b z=>absurd (show b∈([]:List Addr) from z) (by simp)
 refine ⟨⟨e0.mod,S.kind,rfl,rfl,Nat.le_refl _,fun y z c h1 h2=> ?_,fun y hy=> ?_,fun y c _ h=> ?_,fun _=>hd,Around.frames_deeper e0.frames,.inr ⟨rfl,rfl⟩,fun b z=>absurd z (S8 b),e0.bs,e0.JW,fun b _ _=>S8 b,fun b z=>absurd z (S8 b),e0.p7,e0.Ow⟩,
  rfl,e0.bare,Un.kept hk,⟨_,x.toInCall.ns,fun i y v h1 h2 h3=> ?_⟩,fun y c h=>⟨_,x.cell y c h⟩,e0.hok.fresh (Nat.le_refl _),fun y c h=> ?_,fun p hp=>absurd (show p∈([]:List (Addr×Obj)) from hp) (by simp),e0.hok.kept hk, ?_⟩
 ·exact name_of_addr x.apart (PySem.mem_of_lookup h1) (PySem.mem_of_lookup h2)
 ·have hy:scope.names.lookup y=some .cell\/scope.names.lookup y=some .free:=hy
  rcases hy with hy|hy
  ·exact zG hy
  ·exact absurd rfl (S.Qj _ (PySem.mem_of_lookup hy))
 ·exact Nat.le_of_lt (x.above y c (PySem.mem_of_lookup h))
 ·have hi:i<vs.length:=by
   unfold start at h2
   by_cases hi:i<vs.length
   ·exact hi
   ·rw [List.getElem?_append_right (by simpa using hi)] at h2
    rw [List.getElem?_replicate] at h2;split at h2<;>cases h2
  have ha:vs[i]? = some v:=by
   unfold start at h2;rw [List.getElem?_append_left (by simpa using hi),List.getElem?_map] at h2;cases e:vs[i]? with
   | none=>rw [e] at h2;cases h2
   | some a=>rw [e] at h2;cases h2;rfl
  obtain ⟨u,hu,rv⟩:=r.get ha
  have hp:ps[i]? = some y:=by
   rw [←S.pre,List.getElem?_take_of_lt (by omega)];exact h1
  have ndP:ps.Nodup:=by rw [←S.pre];exact S.nd.sublist (List.take_sublist _ _)
  refine ⟨u,rv, ?_⟩;rcases S.par y (List.mem_of_getElem? hp) with k|k
  ·exact .inl ⟨k,vJ ndP hp hu k⟩
  ·obtain ⟨c,e⟩:=zG (n:=s.heap.objs.size+1) k
   refine .inr ⟨.inl k,c,e, ?_⟩;have q:=x.cell y c e;rw [vL ndP hp hu (by show scope.names.lookup y≠_;rw [k];decide)] at q;exact q
 ·exact e0.hok.fresh (Nat.le_of_lt (x.above y c (PySem.mem_of_lookup h)))
 ·unfold start
  show _=N.length;rw [List.length_append,List.length_map,List.length_replicate];omega
theorem T4 {CX:Kg} {P:Program} {w:World} {K:PySem.W.Frag} {mg:Str->Option Value} {base:Heap} {k:Nat} {f:Addr} {name qual:Str} {params:Arguments} {body:List Stmt} {scope:Scope} {dV kV doc pm cdv ct oc:Value} {an od:Option Addr}
 {osl:Array (Option Value)} {N ps:List Str} {sp:Sp} (lk:K.lookup f=some ⟨oc,od,.func (PySem.W.fnOf name qual params body scope dV kV doc pm an cdv ct),osl⟩) (hcd:PySem.W.codeIn K cdv qual=true) (S:aZ N ps scope)
 (len:∀vs H Q E,sp vs H Q E->vs.length=ps.length)
 (hbody:∀(A:Around) (outer:List Env) (s:Shared) (H:Hp) (vs:List V) (Q:VK) (E:XK),dj k (A.deeper (envOfC qual scope s.heap.objs.size f cdv))->sp vs H Q E ->
   ∃t,Gz (Ge CX P w K mg base N qual scope f cdv A outer s H E) body t/\t {nx:=fun _ H'=>Q .non H',rt:=Q} (start N vs) H):
 cJ P w K mg base CX (k+1) f (PySem.W.fnOf name qual params body scope dV kV doc pm an cdv ct) ps sp:=by
 refine ⟨len,fun A outer s H args us vs Q E hr e0 hb r hsp=> ?_⟩;have hl:=len _ _ _ _ hsp;have KX:K.In s.heap:=e0.mod.Rt.keeps fun b o e=>(e0.bs b o e).1;have lim:s.heap.NoLimit:=e0.mod.nolimit.keeps fun b o e=>(e0.bs b o e).1
 have hkind:∀y∈ps.zip us,scope.names.lookup y.1=some .local\/(scope.names.lookup y.1=some .cell/\((cellsFrom (s.heap.objs.size+1) scope.names []).lookup y.1).isSome=true):=fun ⟨n,v⟩ hy=>by
  rcases S.par n (List.of_mem_zip hy).1 with q|q
  ·exact .inl q
  ·exact .inr ⟨q,PySem.W.cellsFrom_some _ _ _ (.inl q)⟩
 refine codeAny_call_function hr.depth (KX _ _ lk) rfl S.co S.gen rfl (PySem.W.codeRec_of KX hcd) (hb _ _ _ _ ?_);refine wpAny_newFunctionEnv_cells S.kind hkind fun env he s1 x=> ?_;subst he;refine ⟨lim.keeps x.toInCall.keep,codeAny_func ?_⟩;obtain ⟨t,ht,hq⟩:=hbody A outer s H vs Q E (hr.deeper _) hsp;have I:Inv (Ge CX P w K mg base N qual scope f cdv A outer s H E) [] (start N vs) H s1:=FJ S hr.hd e0 hl r x;refine wpAny_mono (ht [] s1 (start N vs) H _ I hq) (fun fl s' hs=> ?_) fun e s' hs=>hs
 have fin:∀{σ':St} {H':Hp} {v:V} {u:Value},Inv (Ge CX P w K mg base N qual scope f cdv A outer s H E) [] σ' H' s'->RelV v u->Q v H'->CE outer P w H s Q u s':=
  fun {σ' H' v u} J rv q=>⟨v,H',J.os,J.bare,J.base,J.hok,rv,q⟩
 cases fl with
 | ret u=>
   obtain ⟨v,σ',H',J,rv,q⟩:=hs;exact fin J rv q
 | next=>
   obtain ⟨σ',H',J,q⟩:=hs;exact fin (v:=V.non) (u:=Value.none) J rfl q
 | brk=>
   obtain ⟨_,_,_,q⟩:=hs;exact False.elim q
 | cont=>
   obtain ⟨_,_,_,q⟩:=hs;exact False.elim q
end L2
namespace L2
open PySem PySem.Spec PyProof.Rows
section
variable {X:Cx} {x:Str} {p pos:Pos} {e:Expr} {es:List Expr} {t:TA} {id T:String} {r:List V->Hp->VK->Prop}
def Xa (r:List V->Hp->VK->Prop) (t:TA):TE:=fun σ H Q=>t σ H fun vs H1=>r vs H1 Q
theorem aP (hc:gq X (.builtin id) r) (hg:Gl X x) (hm:X.mg x=none) (hv:bootBuiltins x=some (.builtin id)) (ha:PA X (e::es) t) (hn:x ≠ "__name__" :=by decide) (hdb:(x==("__debug__" :Str))=false:=by decide)
 (he:starEach (e::es) X.env=(false,eval e X.env)::starEach es X.env:=by rfl) (hpl:(backTo pos (starEach es X.env)).any (·.1)=false:=by rfl):PE X (.Call (.Name x p) (e::es) [] pos) (Xa r t):=by
 intro pins s σ H Q I h;refine wpAny_Call_Name_kw (pW I hg hm hv ?_ hn hdb);exact PyProof.Rows.callWith_builtin1 (cU (ha pos pins s σ H _ I h) fun us s1 ⟨vs,H1,I1,r1,q1⟩=>hc pins s1 σ H1 vs us Q I1 r1 q1) he hpl
theorem dD (hc:gq X (.type T) r) (hg:Gl X x) (hm:X.mg x=none) (hv:bootBuiltins x=some (.type T)) (ha:PA X (e::es) t) (hn:x ≠ "__name__" :=by decide) (hdb:(x==("__debug__" :Str))=false:=by decide)
 (he:starEach (e::es) X.env=(false,eval e X.env)::starEach es X.env:=by rfl) (hpl:(backTo pos (starEach es X.env)).any (·.1)=false:=by rfl):PE X (.Call (.Name x p) (e::es) [] pos) (Xa r t):=by
 intro pins s σ H Q I h;refine wpAny_Call_Name_kw (pW I hg hm hv ?_ hn hdb);exact PyProof.Rows.callWith_type1 (cU (ha pos pins s σ H _ I h) fun us s1 ⟨vs,H1,I1,r1,q1⟩=>hc pins s1 σ H1 vs us Q I1 r1 q1) he hpl
end
end L2
namespace HT
open PySem PyProof.Rows
section
open PySem.SeqAt
open PySem.AutoSeq1 (wpAny_loadPart')
open PySem.MeetsSeq PySem.MeetsSeq2 PySem.MeetsSeq3
end
section
variable {prog:Program} {w:World} {A:Around} {E:Value->Shared->Prop} {s:Shared}
theorem Ni {t b:Addr} {vs ws:List Value} {Q:Value->Shared->Prop} (ht:IsTup s.heap t vs.toArray) (hb:IsTup s.heap b ws.toArray) (hv:vs≠[])
 (h1:ws=[]->Q (.ref t) s) (h2:ws≠[]->Q (.ref s.heap.objs.size) {s with heap:=s.heap.push {cls:= .type "tuple",data:= .seq (vs++ws).toArray}})
 (hsz:vs.length+ws.length<=sizeLine):wpAny (model prog w) A (binaryOp .Add (.ref t) (.ref b)) Q E s:=by
 obtain ⟨⟨cls,dd,data,sl⟩,ho,hc,n,hd⟩:=id ht;obtain ⟨⟨cls2,dd2,data2,sl2⟩,ho2,hc2,n2,hd2⟩:=id hb;simp only at hc hd hc2 hd2;subst hc hd hc2 hd2;have e:vs.toArray++ws.toArray=(vs++ws).toArray:=by simp
 by_cases hw:ws=[]
 ·exact concat_meets ⟨_,ho,rfl⟩ ⟨_,ho2,rfl⟩ noFill_tuple_add seq_tuple_add PySem.F.slot_tuple_add PySem.F.entry_tuple_add (PySem.F.args_tuple_add_2 _ _)
   (tuple_addW1 t b vs.toArray ws.toArray n n2 dd dd2 sl sl2 (by simpa using hv) (by simp [hw])) ⟨ho,ho2,h1 hw⟩
 ·refine concat_meets ⟨_,ho,rfl⟩ ⟨_,ho2,rfl⟩ noFill_tuple_add seq_tuple_add PySem.F.slot_tuple_add PySem.F.entry_tuple_add (PySem.F.args_tuple_add_2 _ _)
   (tuple_addW2 t b vs.toArray ws.toArray n n2 dd dd2 sl sl2 (by simpa using hv) (by simpa using hw) (by rw [List.size_toArray,List.size_toArray];exact hsz)) ⟨ho,ho2, ?_⟩
  rw [e];exact h2 hw
def gj (n d:Nat):Option Int->Nat
 | none=>d
 | some v=>if v<0 then (v+(n:Int)).toNat else min v.toNat n
theorem yg (n d:Nat):gj n d none=d:=rfl
theorem Df (n d k:Nat):gj n d (some (k:Int))=min k n:=by
 show (if (k:Int)<0 then ((k:Int)+(n:Int)).toNat else min (k:Int).toNat n)=min k n;rw [if_neg (by omega),Int.toNat_natCast]
theorem Pq (n d:Nat) (hd:d<=n) (o:Option Int):gj n d o<=n:=by
 cases o with
 | none=>exact hd
 | some v=>
   show (if v<0 then (v+(n:Int)).toNat else min v.toNat n)<=n
   by_cases hv:v<0
   ·rw [if_pos hv];omega
   ·rw [if_neg hv];exact Nat.min_le_right _ _
theorem Ec (v:Int) (n d:Nat):(if v<0 then max (v+(n:Int)) 0 else min v (n:Int))=((gj n d (some v):Nat):Int):=by
 show (if v<0 then max (v+(n:Int)) 0 else min v (n:Int))=(((if v<0 then (v+(n:Int)).toNat else min v.toNat n):Nat):Int)
 by_cases hv:v<0
 ·simp only [if_pos hv];omega
 ·simp only [if_neg hv];omega
theorem Cm (lo hi:Option Int) (n:Nat):Builtin.Slice.sliceAdjust lo hi 1 (n:Int)=(((gj n 0 lo:Nat):Int),((gj n n hi:Nat):Int)):=by
 have h1:¬((1:Int)<0):=by omega
 unfold Builtin.Slice.sliceAdjust;simp only [h1,if_false];refine Prod.ext ?_ ?_
 ·cases lo with
  | none=>rfl
  | some v=>exact Ec v n 0
 ·cases hi with
  | none=>rfl
  | some v=>exact Ec v n n
theorem Az (i j:Nat):Builtin.Slice.slicePlaces (i:Int) (j:Int) 1=j - i:=by
 unfold Builtin.Slice.slicePlaces;have h1:(1:Int)>0:=by omega
 simp only [h1,if_true,Int.ediv_one];split<;>omega
theorem sG {v:Value} {o:Option Int} {Q:Option Int->Shared->Prop} (p:IsPart v o) (h:Q o s):wpAny (model prog w) A (Builtin.Slice.slicePartIndex v) Q E s:=by
 cases p with
 | none=>exact slicePart_none h
 | int i t=>exact slicePart_int h
theorem pK {sl:Addr} {vl vu:Value} {lo hi:Option Int} {n:Nat} {Q:Int×Int×Nat->Shared->Prop} (hs:s.heap.IsSliceOf sl vl vu .none) (pl:IsPart vl lo) (pu:IsPart vu hi)
 (h:Q (((gj n 0 lo:Nat):Int),1,gj n n hi - gj n 0 lo) s):wpAny (model prog w) A (Builtin.Slice.sliceApplied (.ref sl) (pure (n:Int))) Q E s:=by
 obtain ⟨os,hos,hcs,hds⟩:=id hs;unfold Builtin.Slice.sliceApplied Builtin.Slice.sliceFields;refine wpAny_bind (wpAny_bind (wpAny_field hos hds (x:=vl) rfl (wpAny_bind (wpAny_field hos hds (x:=vu) rfl (wpAny_bind (wpAny_field hos hds (x:= .none) rfl (wpAny_pure ?_)))))));refine wpAny_bind (slicePart_none ?_);show wpAny _ _ (if ((1:Int)==0)=true then _ else _) _ _ s;rw [if_neg (by decide)];refine wpAny_bind (sG pl (wpAny_bind (sG pu (wpAny_bind (wpAny_pure ?_)))));show wpAny _ _ (match Builtin.Slice.sliceAdjust lo hi 1 (n:Int) with |(lo,hi)=>pure (lo,(1:Int),Builtin.Slice.slicePlaces lo hi 1)) _ _ s;rw [Cm lo hi n];show wpAny _ _ (pure (((gj n 0 lo:Nat):Int),(1:Int),Builtin.Slice.slicePlaces ((gj n 0 lo:Nat):Int) ((gj n n hi:Nat):Int) 1)) _ _ s;rw [Az];exact wpAny_pure h
theorem Ia (xs:Array Value) (i k:Nat):((List.range k).filterMap fun (m:Nat)=>xs[((i:Int)+(m:Int)*1).toNat]?).toArray=((xs.toList.drop i).take k).toArray:=by
 have e:(fun (m:Nat)=>xs[((i:Int)+(m:Int)*1).toNat]?)=fun m=>xs[i+m]? :=by
  funext m;have:((i:Int)+(m:Int)*1).toNat=i+m:=by omega
  rw [this]
 rw [e];have:=pick_run xs i k;rw [List.filterMap_map] at this;have e2:((fun x=>xs[x]?)∘fun x=>i+x)=fun m=>xs[i+m]? :=rfl;rw [e2] at this;rw [this]
theorem oW {t sl:Addr} {items:Array Value} {vl vu:Value} {lo hi:Option Int} {Q:Value->Shared->Prop} (ht:IsTup s.heap t items) (hs:s.heap.IsSliceOf sl vl vu .none) (pl:IsPart vl lo) (pu:IsPart vu hi)
 (hw:¬(gj items.size 0 lo=0/\gj items.size items.size hi=items.size))
 (h:Q (.ref s.heap.objs.size) {s with heap:=s.heap.push {cls:= .type "tuple",data:= .seq ((items.toList.drop (gj items.size 0 lo)).take (gj items.size items.size hi - gj items.size 0 lo)).toArray}})
 (hsz:items.size<=sizeLine):wpAny (model prog w) A (getItem (.ref t) (.ref sl)) Q E s:=by
 have DP:sizeOk (.seq ((items.toList.drop (gj items.size 0 lo)).take (gj items.size items.size hi - gj items.size 0 lo)).toArray):=by
  show ((items.toList.drop (gj items.size 0 lo)).take (gj items.size items.size hi - gj items.size 0 lo)).toArray.size<=sizeLine;rw [List.size_toArray,List.length_take,List.length_drop,Array.length_toList];omega
 have hj:gj items.size items.size hi<=items.size:=Pq _ _ (Nat.le_refl _) hi;obtain ⟨os,hos,hcs,hds⟩:=id hs;have hTs:s.TypeIs (.ref sl) "slice" :=⟨os,hos,hcs⟩;unfold getItem
 try with_reducible refine wpAny_holding ?_
 first |refine wpAny_bind (wpAny_pure ?_)|skip
 refine wpAny_bind (wpAny_sequenceKey ht.typeIs (by decide) ?_)
 refine wpAny_bind (wpAny_callSpecial?_slot (name:=Str.ofString "__getitem__") ht.typeIs PyProof.Rows.slot_tuple_getitem
  (wpAny_call_entry PyProof.Rows.slot_tuple_getitem ht.typeIs entry_tuple_getitem ?_ (args_tuple_getitem _ _)))
 show wpAny _ _ (Builtin.Tuple.tupleItemsOf (.ref t) >>= _) _ _ s;refine wpAny_bind (tupleItemsOf_ ht ?_);refine wpAny_bind (wpAny_typeOf hTs ?_);rw [if_pos (by decide)];refine wpAny_bind (pK hs pl pu ?_)
 have hno:¬((((gj items.size 0 lo:Nat):Int)==0&&(1:Int)==1&&(gj items.size items.size hi - gj items.size 0 lo)==items.size)=true):=by
  intro q;rw [Bool.and_eq_true,Bool.and_eq_true] at q;have q1:((gj items.size 0 lo:Nat):Int)=0:=eq_of_beq q.1.1;have q2:gj items.size items.size hi - gj items.size 0 lo=items.size:=eq_of_beq q.2;exact hw ⟨by omega,by omega⟩
 show wpAny _ _ (if (((gj items.size 0 lo:Nat):Int)==0&&(1:Int)==1&&(gj items.size items.size hi - gj items.size 0 lo)==items.size)=true then _ else _) _ _ s;rw [if_neg hno,Ia]
 first
  | exact wpAny_bind (m:=Builtin.Tuple.tupleExact _) (wpAny_newObj_type (wpAny_pure ⟨_,rfl,wpAny_pure h⟩) DP)
  | exact wpAny_bind (m:=Builtin.Tuple.tupleExact _) (wpAny_newObj_type (wpAny_bind (wpAny_pure (wpAny_pure ⟨_,rfl,wpAny_pure h⟩))) DP)
  | exact wpAny_bind (wpAny_bind (m:=Builtin.Tuple.tupleExact _) (wpAny_newObj_type (wpAny_pure (wpAny_pure ⟨_,rfl,wpAny_pure h⟩)) DP))
  | exact wpAny_bind (wpAny_bind (m:=Builtin.Tuple.tupleExact _) (wpAny_newObj_type (wpAny_pure ⟨_,rfl,wpAny_pure h⟩) DP))
end
end HT
namespace L2
open PySem PySem.Spec PyProof.Rows
abbrev TO:=St->Hp->(Option Int->Hp->Prop)->Prop
def PO (X:Cx) (e:Option Expr) (t:TO):Prop:=
 ∀(pins:List (Addr×Obj)) (s:Shared) (σ:St) (H:Hp) (Q:Option Int->Hp->Prop),Inv X pins σ H s->t σ H Q ->
  wpAny (model X.prog X.w) X.A (evalPart e X.env) (fun u s'=>∃o H',Inv X pins σ H' s'/\IsPart u o/\Q o H') X.xe s
def KC:TO:=fun _ H Q=>Q none H
def RK (t:TE):TO:=fun σ H Q=>t σ H fun x H1=>∃i,x = .int i/\Q (some i) H1
section
variable {X:Cx} {e:Expr} {te:TE} {lo hi:Option Expr} {tl th:TO} {pos p2:Pos}
theorem wC:PO X none KC:=by
 intro pins s σ H Q I h;rw [evalPart_none];exact wpAny_pure ⟨none,H,I,.none,h⟩
theorem wB (h:PE X e te):PO X (some e) (RK te):=by
 intro pins s σ H Q I hw;rw [evalPart_some];refine cU (h pins s σ H _ I hw) fun u s1 ⟨x,H1,I1,r1,q1⟩=> ?_;obtain ⟨i,rfl,q⟩:=q1;obtain ⟨t,rfl⟩:=r1;exact ⟨some i,H1,I1,.int i t,q⟩
def Vc (X:Cx) (r:V->Option Int->Option Int->Hp->VK->Prop):Prop:=
 ∀(pins:List (Addr×Obj)) (s:Shared) (σ:St) (H:Hp) (x:V) (v vl vu:Value) (lo hi:Option Int) (sl:Addr) (Q:VK),Inv X pins σ H s->RelV x v->s.heap.IsSliceOf sl vl vu .none->IsPart vl lo->IsPart vu hi->r x lo hi H Q ->
  ∃T id,typeLookup (.type T) "__getitem__" = pure (some (.builtin id))/\s.TypeIs v T/\wpAny (model X.prog X.w) X.A (getItem v (.ref sl)) (EP X pins σ Q) X.xe s
def tSl (r:V->Option Int->Option Int->Hp->VK->Prop) (te:TE) (tl th:TO):TE:=fun σ H Q=>te σ H fun x H1=>tl σ H1 fun l H2=>th σ H2 fun u H3=>r x l u H3 Q
theorem sX {r:V->Option Int->Option Int->Hp->VK->Prop} (hr:Vc X r) (he:PE X e te) (hl:PO X lo tl) (hu:PO X hi th):PE X (.Subscript e (.Slice lo hi none p2) pos) (tSl r te tl th):=by
 intro pins s σ H Q I h;refine Subscript_ (cU (he pins s σ H _ I h) fun v s1 ⟨x,H1,I1,r1,q1⟩=> ?_);refine wpAny_Slice (cU (hl pins s1 σ H1 _ I1 q1) fun vl s2 ⟨l,H2,I2,pl,q2⟩=>cU (hu pins s2 σ H2 _ I2 q2) fun vu s3 ⟨u,H3,I3,pu,q3⟩=> ?_);rw [evalPart_none];refine wpAny_pure ?_;have I4:Inv X pins σ H3 {s3 with heap:=s3.heap.push {cls:= .type "slice",data:= .fields #[vl,vu,.none]}}:=I3.kept (t':=s3.toks) fun b ob q=>Heap.get?_push_of_some _ q;obtain ⟨T,id,hT,ht,hg⟩:=hr pins {s3 with heap:=s3.heap.push {cls:= .type "slice",data:= .fields #[vl,vu,.none]}} σ H3 x v vl vu l u s3.heap.objs.size Q I4 r1 (Heap.IsSliceOf.new ..) pl pu q3;show wpAny (model X.prog X.w) X.A (subscriptTail e (.Slice lo hi none p2) v (.ref s3.heap.objs.size)) (EP X pins σ Q) X.xe {s3 with heap:=s3.heap.push {cls:= .type "slice",data:= .fields #[vl,vu,.none]}};exact tail_any (ops:=[.ref s3.heap.objs.size,v]) ht hT hg (by with_unfolding_all rfl)
def j6 (xs:List V) (lo hi:Option Int):List V:=(xs.drop (HT.gj xs.length 0 lo)).take (HT.gj xs.length xs.length hi - HT.gj xs.length 0 lo)
theorem qI (xs:List V) (lo hi:Option Int):(j6 xs lo hi).length<=xs.length:=by
 unfold j6;rw [List.length_take,List.length_drop];omega
def Sd (K:PySem.W.Frag):V->Option Int->Option Int->Hp->VK->Prop:=fun x lo hi H Q=>∃a xs,x = .ref a/\dZ K H a xs /\
 ¬(HT.gj xs.length 0 lo=0/\HT.gj xs.length xs.length hi=xs.length) /\ ∀p,H p=none->Q (.ref p) (upd H p (.tup (j6 xs lo hi)))
theorem Pn:Vc X (Sd X.K):=by
 intro pins s σ H x v vl vu lo hi sl Q I rx hs pl pu h;obtain ⟨a,xs,rfl,hx,hw,q⟩:=h;cases rx;obtain ⟨its,r,ht,hz⟩:=I.tuple hx;have hlen:its.toArray.size=xs.length:=by rw [List.size_toArray];exact r.length.symm
 refine ⟨"tuple",_,PyProof.Rows.slot_tuple_getitem.lookup,ht.typeIs, ?_⟩;refine HT.oW ht hs pl pu (by rw [hlen];exact hw) ?_ (by rw [hlen];exact hz);rw [hlen];refine ⟨.ref s.heap.objs.size,_,I.laid (t':=s.toks) (o:= .tup (j6 xs lo hi)) (fun b ob q=>Heap.get?_push_of_some _ q) (Nat.le_refl _) ?_,rfl,q _ (I.hok.fresh (Nat.le_refl _))⟩;exact ⟨Nat.le_trans (qI xs lo hi) hz,_,(r.drop (HT.gj xs.length 0 lo)).take (HT.gj xs.length xs.length hi - HT.gj xs.length 0 lo),IsTup.new _ _⟩
def Oc (K:PySem.W.Frag):R2:=fun x y H Q=>∃a b xs ys,x = .ref a/\y = .ref b/\dZ K H a xs/\dZ K H b ys/\xs≠[]/\xs.length+ys.length<=sizeLine /\
 (ys=[]->Q (.ref a) H)/\(ys≠[] -> ∀p,H p=none->Q (.ref p) (upd H p (.tup (xs++ys))))
theorem Vals.wI {xs:List V} {us:List Value} (r:Vals xs us):us=[]↔xs=[]:=by
 cases r with
 | nil=>simp
 | cons _ _=>simp
theorem LK:nQ X (binaryOp .Add) (Oc X.K):=by
 intro pins s σ H x y v u Q I rx ry h;obtain ⟨a,b,xs,ys,rfl,rfl,ha,hb,hx,hz,q1,q2⟩:=h;cases rx;cases ry;obtain ⟨its,r1,p1,_⟩:=I.tuple ha;obtain ⟨its2,r2,p2,_⟩:=I.tuple hb;refine HT.Ni p1 p2 (fun z=>hx (r1.wI.mp z)) (fun z=>⟨.ref a,H,I,rfl,q1 (r2.wI.mp z)⟩) (fun z=> ?_) (by rw [←r1.length,←r2.length];exact hz);refine ⟨.ref s.heap.objs.size,_,I.laid (t':=s.toks) (o:= .tup (xs++ys)) (fun b ob q=>Heap.get?_push_of_some _ q) (Nat.le_refl _) ?_,rfl,q2 (fun w=>z (r2.wI.mpr w)) _ (I.hok.fresh (Nat.le_refl _))⟩;exact ⟨by rw [List.length_append];exact hz,_,r1.append r2,IsTup.new _ _⟩
end
end L2
namespace L2
open PySem PySem.Spec PyProof.Rows
def Jo (n:Nat) (i:Int):Option Nat:=if 0<=i then (if i<n then some i.toNat else none) else if -(n:Int)<=i then some (i+n).toNat else none
def rN {α:Type} (xs:List α) (i:Int):Option α:=(Jo xs.length i).bind fun j=>xs[j]?
theorem DG {n:Nat} {i:Int} {j:Nat} (h:Jo n i=some j):seqIndex? i n=some j/\j<n /\ -(n:Int)<=i/\i<n:=by
 unfold Jo at h
 by_cases h0:0<=i
 ·rw [if_pos h0] at h
  by_cases h1:i<n
  ·rw [if_pos h1] at h
   have e:i.toNat=j:=Option.some.inj h;exact ⟨by rw [seqIndex_of h0 h1,e],by omega,by omega,h1⟩
  ·rw [if_neg h1] at h;cases h
 ·rw [if_neg h0] at h
  by_cases h1: -(n:Int)<=i
  ·rw [if_pos h1] at h
   have e:(i+n).toNat=j:=Option.some.inj h;exact ⟨by rw [seqIndex_neg (by omega) h1,e],by omega,h1,by omega⟩
  ·rw [if_neg h1] at h;cases h
theorem xg {α:Type} {xs:List α} {i:Int} {v:α} (h:rN xs i=some v):∃j,seqIndex? i xs.length=some j/\xs[j]? = some v/\j<xs.length /\ -(xs.length:Int)<=i/\i<xs.length:=by
 unfold rN at h;cases e:Jo xs.length i with
 | none=>rw [e] at h;cases h
 | some j=>
   rw [e] at h;obtain ⟨h1,h2,h3,h4⟩:=DG e;exact ⟨j,h1,h,h2,h3,h4⟩
theorem bB {α:Type} {xs:List α} {j:Nat} {v:α} (h:xs[j]? = some v):rN xs (j:Int)=some v:=by
 have hj:j<xs.length:=(List.getElem?_eq_some_iff.mp h).1
 have e:Jo xs.length (j:Int)=some j:=by
  unfold Jo;rw [if_pos (by omega),if_pos (by omega)];simp
 unfold rN;rw [e];exact h
theorem J6 {α:Type} (xs:List α) (v:α):rN (xs++[v]) (-1)=some v:=by
 have hl:(xs++[v]).length=xs.length+1:=by simp
 have e:Jo (xs++[v]).length (-1)=some xs.length:=by
  unfold Jo;rw [hl,if_neg (by decide),if_pos (by omega)];congr 1;omega
 unfold rN;rw [e];show (xs++[v])[xs.length]? = some v;simp
def Nv (b:Expr):Prop:=∀o i,subscripted b false o i=operate [o,i] (getItem o i)
def GC (X:Cx) (r:R2):Prop:=
 ∀(value slice:Expr) (pins:List (Addr×Obj)) (s:Shared) (σ:St) (H:Hp) (x y:V) (v u:Value) (Q:VK),Inv X pins σ H s->RelV x v->RelV y u->r x y H Q ->
  subscripted slice false v u=operate [v,u] (getItem v u)->wpAny (model X.prog X.w) X.A (subscriptTail value slice v u) (EP X pins σ Q) X.xe s
def Vn (X:Cx) (id:String) (r:V->List V->Hp->VK->Prop):Prop:=
 ∀(pins:List (Addr×Obj)) (s:Shared) (σ:St) (H:Hp) (x:V) (xs:List V) (v:Value) (us:List Value) (Q:VK),Inv X pins σ H s->RelV x v->Vals xs us->r x xs H Q ->
  wpAny (model X.prog X.w) X.A (call (.builtin id) (v::us)) (EP X pins σ Q) X.xe s
section
variable {X:Cx} {a b:Expr} {ta tb:TE} {pos:Pos}
theorem GC.or {r r':R2} (h:GC X r) (h':GC X r'):GC X (fun x y H Q=>r x y H Q\/r' x y H Q):=by
 intro value slice pins s σ H x y v u Q I rx ry q hs;rcases q with q|q
 ·exact h value slice pins s σ H x y v u Q I rx ry q hs
 ·exact h' value slice pins s σ H x y v u Q I rx ry q hs
theorem aM {r:R2} (hr:GC X r) (ha:PE X a ta) (hb:PE X b tb) (hs:Nv b):PE X (.Subscript a b pos) (CN r ta tb):=by
 intro pins s σ H Q I h;exact Subscript_ (Q_ ha hb I h fun v u s2 x y H2 I2 rx ry q=>hr a b pins s2 σ H2 x y v u Q I2 rx ry q (hs _ _))
def Py (K:PySem.W.Frag):R2:=fun x y H Q=>∃p xs i v,x = .ref p/\y = .int i/\bf K H p xs/\rN xs i=some v/\Q v H
def wk (K:PySem.W.Frag):R2:=fun x y H Q=>∃p xs i v,x = .ref p/\y = .int i/\dZ K H p xs/\rN xs i=some v/\Q v H
def Sv:R2:=fun x y H Q=>∃z i c,x = .str z/\y = .int i/\z.length<=sizeLine/\rN z.cps.toList i=some c/\Q (.str ⟨#[c]⟩) H
theorem Dz:GC X (Py X.K):=by
 intro value slice pins s σ H x y v u Q I rx ry h hs;obtain ⟨p,xs,i,z,rfl,rfl,hq,he,q⟩:=h;cases rx;obtain ⟨t,rfl⟩:=ry;obtain ⟨its,r,pl,hz⟩:=I.list hq;obtain ⟨j,h1,h2,h3,h4,h5⟩:=xg he;obtain ⟨w,ew,rw'⟩:=r.get h2;have hl:=r.length;have hn:=pU;have fin:EP X pins σ Q w s:=⟨z,H,I,rw',q⟩
 by_cases h0:0<=i
 ·have hj:i.toNat=j:=by
   rw [seqIndex_of h0 h5] at h1;exact Option.some.inj h1
  exact item_listR pl.isList h0 (by omega) (by rw [hj];simpa using ew) fin hs
 ·have hj:(i+(its.toArray.size:Int)).toNat=j:=by
   rw [seqIndex_neg (by omega) h4] at h1;rw [List.size_toArray,←hl];exact Option.some.inj h1
  exact subscriptTail_builtinR (x:=w) pl.isList.typeIs slot_list_getitem.lookup
   (wpAny_getItem_list_neg (Q:=fun r s'=>r=w/\EP X pins σ Q r s') pl.isList (by omega) (by rw [List.size_toArray]<;>omega) (by omega) (by rw [hj];simpa using ew) ⟨rfl,fin⟩) hs
theorem Jm:GC X (wk X.K):=by
 intro value slice pins s σ H x y v u Q I rx ry h hs;obtain ⟨p,xs,i,z,rfl,rfl,hq,he,q⟩:=h;cases rx;obtain ⟨t,rfl⟩:=ry;obtain ⟨its,r,pl,hz⟩:=I.tuple hq;obtain ⟨j,h1,h2,h3,h4,h5⟩:=xg he;obtain ⟨w,ew,rw'⟩:=r.get h2;have hl:=r.length;have hn:=pU;have fin:EP X pins σ Q w s:=⟨z,H,I,rw',q⟩
 exact subscriptTail_builtinR (x:=w) pl.typeIs slot_tuple_getitem.lookup
  (getItem_tuple (j:=j) (Q:=fun r s'=>r=w/\EP X pins σ Q r s') pl (by omega) (by omega) (by rw [List.size_toArray,←hl];exact h1) (by simpa using ew) ⟨rfl,fin⟩) hs
theorem QB:GC X Sv:=by
 intro value slice pins s σ H x y v u Q I rx ry h hs;obtain ⟨z,i,c,rfl,rfl,hz,he,q⟩:=h;obtain ⟨t,rfl⟩:=rx;obtain ⟨t',rfl⟩:=ry;obtain ⟨j,h1,h2,h3,h4,h5⟩:=xg he;have hl:z.cps.toList.length=z.length:=by simp [Str.length]
 rw [hl] at h1 h4 h5;have hn:=pU
 exact tail_any (typeIs_str s z t) slot_str_getitem.lookup (getItem_str (c:=c) (by
  have e1:decide (i < -(2 ^ 63:Int))=false:=decide_eq_false (by omega);have e2:decide (i≥2 ^ 63)=false:=decide_eq_false (by omega);rw [e1,e2,Bool.or_false]) (by rw [h1];simpa using h2) ⟨.str ⟨#[c]⟩,H,I.tok _,⟨_,rfl⟩,q⟩) hs
def rIx (K:PySem.W.Frag):R2:=fun x y H Q=>Py K x y H Q\/wk K x y H Q\/Sv x y H Q
theorem QC:GC X (rIx X.K):=Dz.or (Jm.or QB)
theorem Bs (its:List Value) (n j:Nat) (u:Value):Obj.mapSeq (·.setIfInBounds j u) {cls:= .type "list",data:= .seq its.toArray n}={cls:= .type "list",data:= .seq (its.set j u).toArray n}:=by
 simp [Obj.mapSeq]
theorem Inv.lst {pins:List (Addr×Obj)} {σ:St} {H:Hp} {s:Shared} {p:Addr} {xs:List V} (I:Inv X pins σ H s) (h:H p=some (.lst xs)):
 ∃(its:List Value) (n:Nat),Vals xs its/\s.heap.get? p=some {cls:= .type "list",data:= .seq its.toArray n}/\xs.length<=sizeLine:=by
 obtain ⟨z,its,n,r,e⟩:=I.hok p _ h;exact ⟨its,n,r,e,z⟩
theorem Inv.Qs {pins:List (Addr×Obj)} {σ:St} {H:Hp} {s:Shared} {p:Addr} {xs ys:List V} {its its':List Value} {n n':Nat} {f:Obj->Obj} (I:Inv X pins σ H s) (h:H p=some (.lst xs))
 (ho:s.heap.get? p=some {cls:= .type "list",data:= .seq its.toArray n}) (hf:f {cls:= .type "list",data:= .seq its.toArray n}={cls:= .type "list",data:= .seq its'.toArray n'}) (r:Vals ys its') (hz:ys.length<=sizeLine) (t:Nat):
 Inv X pins σ (upd H p (.lst ys)) {s with heap:=s.heap.update p f,toks:=t}:=by
 have e:(s.heap.update p f).get? p=some {cls:= .type "list",data:= .seq its'.toArray n'}:=by
  rw [Heap.get?_update_self f ho (by rw [hf]<;>rfl),hf]
 refine I.write (x:=p) (e:=p) (by rw [h];trivial) (.inl rfl) (fun b u hb q=>(Heap.get?_update_other _ _ (Ne.symm hb)).trans q) ⟨_,e⟩ ?_;exact ⟨hz,its',n',r,e⟩
def Sh:V->V->V->Hp->(Hp->Prop)->Prop:=fun o i v H Q=>∃p xs k j,o = .ref p/\i = .int k/\H p=some (.lst xs)/\Jo xs.length k=some j/\Q (upd H p (.lst (xs.set j v)))
theorem set_list:Vj X Sh:=by
 intro pins s σ H o i v ov iv u Q I ro ri rv h;obtain ⟨p,xs,k,j,rfl,rfl,hp,hj,q⟩:=h;cases ro;obtain ⟨t,rfl⟩:=ri;obtain ⟨its,n,r,ho,hz⟩:=I.lst hp;obtain ⟨h1,h2,h3,h4⟩:=DG hj;have hl:=r.length;have hn:=pU
 have I':Inv X pins σ (upd H p (.lst (xs.set j v))) {s with heap:=s.heap.update p (Obj.mapSeq (·.setIfInBounds j u))}:=
  I.Qs hp ho (Bs its n j u) (r.set rv j) (by rw [List.length_set];exact hz) s.toks
 by_cases h0:0<=k
 ·have hk:k.toNat=j:=by
   rw [seqIndex_of h0 h4] at h1;exact Option.some.inj h1
  exact PySem.W.ki_setAt ho h0 (by omega) (by rw [List.size_toArray,←hl];exact h4) (by rw [hk];exact ⟨_,I',q⟩)
 ·have hk:(k+(its.toArray.size:Int)).toNat=j:=by
   rw [seqIndex_neg (by omega) h3] at h1;rw [List.size_toArray,←hl];exact Option.some.inj h1
  exact PySem.W.ki_setBack ho (by omega) (by rw [List.size_toArray,←hl];exact h3) (by omega) (by rw [hk];exact ⟨_,I',q⟩)
theorem v9 (lo hi:Option Int) (n:Nat):(sliceBounds lo hi none n).1=((HT.gj n 0 lo:Nat):Int)/\(sliceBounds lo hi none n).2.1=((HT.gj n n hi:Nat):Int)/\(sliceBounds lo hi none n).2.2=1:=by
 refine ⟨?_, ?_,rfl⟩
 ·cases lo with
  | none=>simp [sliceBounds,HT.gj]
  | some i=>
    simp only [sliceBounds,HT.gj,Option.getD_none,show (1:Int)>0 by decide,if_true]
    by_cases h:i<0
    ·simp only [h,if_true]<;>omega
    ·simp only [h,if_false]<;>omega
 ·cases hi with
  | none=>simp [sliceBounds,HT.gj]
  | some i=>
    simp only [sliceBounds,HT.gj,Option.getD_none,show (1:Int)>0 by decide,if_true]
    by_cases h:i<0
    ·simp only [h,if_true]<;>omega
    ·simp only [h,if_false]<;>omega
theorem uM (its:List Value) (lo hi:Option Int):slicePick its.toArray lo hi none=((its.drop (HT.gj its.length 0 lo)).take (HT.gj its.length its.length hi - HT.gj its.length 0 lo)).toArray:=by
 obtain ⟨h1,h2,h3⟩:=v9 lo hi its.toArray.size;unfold slicePick;rw [h1,h2,h3];simp only [sliceRange_one,pick_run,List.size_toArray]<;>rfl
def Sg (K:PySem.W.Frag):V->Option Int->Option Int->Hp->VK->Prop:=fun x lo hi H Q=>∃a xs,x = .ref a/\bf K H a xs /\ ∀p,H p=none->Q (.ref p) (upd H p (.lst (j6 xs lo hi)))
theorem KJ:Vc X (Sg X.K):=by
 intro pins s σ H x v vl vu lo hi sl Q I rx hs pl pu h;obtain ⟨a,xs,rfl,hx,q⟩:=h;cases rx;obtain ⟨its,r,ht,hz⟩:=I.list hx;have hlen:=r.length;refine ⟨"list",_,slot_list_getitem.lookup,ht.isList.typeIs, ?_⟩;refine wpAny_getItem_list_slice ht.isList hs pl pu .none (by simp) ?_ (by rw [List.size_toArray]<;>omega);rw [uM,←hlen];refine ⟨.ref s.heap.objs.size,_,I.laid (t':=s.toks) (o:= .lst (j6 xs lo hi)) (fun b ob q=>Heap.get?_push_of_some _ q) (Nat.le_refl _) ?_,rfl,q _ (I.hok.fresh (Nat.le_refl _))⟩;exact ⟨Nat.le_trans (qI xs lo hi) hz,_,0,(r.drop (HT.gj xs.length 0 lo)).take (HT.gj xs.length xs.length hi - HT.gj xs.length 0 lo),Heap.get?_push_size _ rfl⟩
theorem wZ:gq X (.builtin "len") (fun xs H Q=>∃p ys,xs=[.ref p]/\(bf X.K H p ys\/dZ X.K H p ys)/\Q (.int ys.length) H):=by
 intro pins s σ H xs us Q I r h;obtain ⟨p,ys,rfl,hq,q⟩:=h;obtain ⟨u,rfl,rx⟩:=vals1 r;cases rx;have hn:=pU;rcases hq with hq|hq
 ·obtain ⟨its,r',pl,hz⟩:=I.list hq
  have hlen:=r'.length;exact Calls.call_len_list pl.isList (by simp only [List.size_toArray]<;>omega) ⟨.int ys.length,H,I.tok _,⟨s.toks+1,by rw [List.size_toArray,hlen]⟩,q⟩
 ·obtain ⟨its,r',pl,hz⟩:=I.tuple hq
  have hlen:=r'.length;exact len_tuple pl (by simp only [List.size_toArray]<;>omega) ⟨.int ys.length,H,I.tok _,⟨s.toks+1,by rw [List.size_toArray,hlen]⟩,q⟩
theorem wY:gq X (.type "list") (fun xs H Q=>∃p ys,xs=[.ref p]/\(bf X.K H p ys\/dZ X.K H p ys) /\ ∀l,H l=none->Q (.ref l) (upd H l (.lst ys))):=by
 intro pins s σ H xs us Q I r h;obtain ⟨p,ys,rfl,hq,q⟩:=h;obtain ⟨u,rfl,rx⟩:=vals1 r;cases rx
 have fin:∀(its:List Value),Vals ys its->ys.length<=sizeLine -> ∀(h':Heap) (c':Nat),(∀b o',s.heap.get? b=some o'->h'.get? b=some o') ->
  h'.get? s.heap.objs.size=some {cls:= .type "list",dict:=none,data:= .seq its.toArray c',slots:= #[]}->EP X pins σ Q (.ref s.heap.objs.size) {s with heap:=h'}:=fun its r' hz h' c' kp e=>
  ⟨.ref s.heap.objs.size,_,I.laid (t':=s.toks) kp (Nat.le_refl _) (show cH X.prog X.w _ h' _ (.lst ys) from ⟨hz,its,c',r',e⟩),rfl,q _ (I.hok.fresh (Nat.le_refl _))⟩
 rcases hq with hq|hq
 ·obtain ⟨its,r',pl,hz⟩:=I.list hq
  have hlen:=r'.length;obtain ⟨o,ho,hc,n,hd⟩:=pl.isList;exact call_list_seq p (.inl rfl) ho hc hd (fun h' c' kp e=>fin its r' hz h' c' kp e) (by simp only [List.size_toArray]<;>omega)
 ·obtain ⟨its,r',pl,hz⟩:=I.tuple hq
  have hlen:=r'.length;obtain ⟨o,ho,hc,n,hd⟩:=pl;exact call_list_seq p (.inr rfl) ho hc hd (fun h' c' kp e=>fin its r' hz h' c' kp e) (by simp only [List.size_toArray]<;>omega)
def WY (K:PySem.W.Frag) (T:String) (x:V) (H:Hp):Prop:=match x with
 | .str _=>T = "str"
 | .int _=>T = "int"
 | .ref p=>(T = "list" /\ ∃xs,bf K H p xs)\/(T = "tuple" /\ ∃o,K.lookup p=some o/\o.cls = .type "tuple" /\ o.dict=none) \/
    (T = "dict" /\ ((∃kvs,H p=some (.dK kvs)) \/ ∃kvs,H p=some (.dT kvs)))\/(T = "set" /\ ∃S n,H p=some (.set S n))
 | _=>False
theorem G5 {pins:List (Addr×Obj)} {σ:St} {H:Hp} {s:Shared} {T:String} {x:V} {v:Value} (I:Inv X pins σ H s) (r:RelV x v) (ty:WY X.K T x H):
 s.TypeIs v T /\ ∀a,v = .ref a -> ∃ob,s.heap.get? a=some ob/\ob.dict=none:=by
 cases x with
 | str z=>
   obtain ⟨t,rfl⟩:=r;cases (show T = "str" from ty);exact ⟨typeIs_str s z t,fun _ e=>nomatch e⟩
 | int i=>
   obtain ⟨t,rfl⟩:=r;cases (show T = "int" from ty);exact ⟨typeIs_int s i t,fun _ e=>nomatch e⟩
 | ref p=>
   cases r;rcases ty with ⟨rfl,xs,hq⟩|⟨rfl,o,hk,hc,hd⟩|⟨rfl,hk⟩|⟨rfl,S,n,hk⟩
   ·obtain ⟨its,_,pl,_⟩:=I.list hq
    refine ⟨pl.isList.typeIs,fun a e=> ?_⟩;cases e;obtain ⟨o,n,e,c,hd,_⟩:=pl;exact ⟨o,e,hd⟩
   ·refine ⟨⟨o,I.nj p o hk,hc⟩,fun a e=> ?_⟩
    cases e;exact ⟨o,I.nj _ o hk,hd⟩
   ·have z:∃o,s.heap.get? p=some o/\o.ExactDict:=by
     rcases hk with ⟨kvs,hk⟩|⟨kvs,hk⟩
     ·obtain ⟨_,_,_,_,o,_,_,e,ex,_⟩:=I.hok p _ hk
      exact ⟨o,e,ex⟩
     ·obtain ⟨_,_,_,_,o,_,_,e,ex,_⟩:=I.hok p _ hk
      exact ⟨o,e,ex⟩
    obtain ⟨o,e,ex⟩:=z;refine ⟨⟨o,e,ex.1⟩,fun a e2=> ?_⟩;cases e2;exact ⟨o,e,ex.2.1⟩
   ·obtain ⟨o,_,_,_,e,ex,_⟩:=I.hok p _ hk
    refine ⟨⟨o,e,ex.1⟩,fun a e2=> ?_⟩;cases e2;exact ⟨o,e,ex.2.1⟩
 | _=>exact False.elim ty
def RV (K:PySem.W.Frag) (T:String) (r:V->List V->Hp->VK->Prop) (to:TE):TE:=fun σ H Q=>to σ H fun x H1=>WY K T x H1/\r x [] H1 Q
def Xb (K:PySem.W.Frag) (T:String) (r:V->List V->Hp->VK->Prop) (to:TE) (t:TA):TE:=fun σ H Q=>to σ H fun x H1=>WY K T x H1/\t σ H1 fun xs H2=>r x xs H2 Q
variable {o e:Expr} {es:List Expr} {to:TE} {t:TA} {name:Str} {apos cpos:Pos} {T id:String} {r:V->List V->Hp->VK->Prop}
theorem P0 (pa:PlainAttrs T) (slot:Slot T name id) (hty:typeOf (.builtin id)=pure (.type "method_descriptor")) (hm:Vn X id r) (ho:PE X o to)
 (hbase:attributeBase o name X.env (eval o X.env)=eval o X.env:=by rfl) (hline:(apos.endLine==cpos.line)=true:=by rfl):PE X (.Call (.Attribute o name apos) [] [] cpos) (RV X.K T r to):=by
 intro pins s σ H Q I h;refine wpAny_Call_method0_late hbase hline (cU (ho pins s σ H _ I h) fun v s1 ⟨x,H1,I1,r1,ty,q1⟩=> ?_);obtain ⟨h1,h2⟩:=G5 I1 r1 ty;exact ⟨T,id,pa,slot,hty,h1,h2,Calls.callWith_builtin rfl (PySem.evalArgs_none (hm pins s1 σ H1 x [] v [] Q I1 r1 .nil q1))⟩
theorem Oe (pa:PlainAttrs T) (slot:Slot T name id) (hty:typeOf (.builtin id)=pure (.type "method_descriptor")) (hm:Vn X id r) (ho:PE X o to) (ha:PA X (e::es) t)
 (hbase:attributeBase o name X.env (eval o X.env)=eval o X.env:=by rfl)
 (hfew:((backTo cpos (starEach (e::es) X.env)).all (fun x=> !x.1)&&(backToKw cpos (keywordEach [] X.env)).all (fun x=>x.1.isSome)
   && decide ((e::es).length+([]:List Keyword).length+(if ([]:List Keyword).isEmpty then 0 else 1)<30))=true:=by rfl)
 (hline:(apos.endLine==cpos.line)=true:=by rfl) (hs:starEach (e::es) X.env=(false,eval e X.env)::starEach es X.env:=by rfl) (hplain:(backTo cpos (starEach es X.env)).any (·.1)=false:=by rfl):
 PE X (.Call (.Attribute o name apos) (e::es) [] cpos) (Xb X.K T r to t):=by
 intro pins s σ H Q I h;refine wpAny_Call_method_late hbase hfew hline rfl (cU (ho pins s σ H _ I h) fun v s1 ⟨x,H1,I1,r1,ty,q1⟩=> ?_);obtain ⟨h1,h2⟩:=G5 I1 r1 ty;refine ⟨T,id,pa,slot,hty,h1,h2, ?_⟩;have hA:=ha cpos pins s1 σ H1 _ I1 q1;rw [hs] at hA ⊢;refine Calls.callWith_builtin (by show (false||(backTo cpos (starEach es X.env)).any (·.1))=false;rw [hplain]<;>rfl) (Calls.evalArgs_plain ?_);exact cU hA fun us s2 ⟨vs,H2,I2,r2,q2⟩=>hm pins s2 σ H2 x vs v us Q I2 r1 r2 q2
end
end L2
namespace L2
open PySem PySem.Spec PyProof.Rows
def WL (X:Cx) (id:String) (r:V->List V->Hp->VK->Prop):Prop:=
 ∀(pins:List (Addr×Obj)) (s:Shared) (σ:St) (H:Hp) (x:V) (xs:List V) (v:Value) (us:List Value) (Q:VK),Inv X pins σ H s->RelV x v->Vals xs us->r x xs H Q ->
  wpAny (model X.prog X.w) X.A (call (.builtin id) (v::us)) (EP X pins σ Q) X.xe s
theorem Vals.one {x:V} {us:List Value} (h:Vals [x] us):∃u,us=[u]/\RelV x u:=by
 cases h with
 | cons r t=>cases t;exact ⟨_,rfl,r⟩
theorem Vals.zero:∀{us:List Value},Vals [] us->us=[]
 | _,.nil=>rfl
theorem Vals.eraseIdx:∀{xs:List V} {us:List Value} (i:Nat),Vals xs us->Vals (xs.eraseIdx i) (us.eraseIdx i)
 | _,_,_,.nil=> .nil
 | _,_,0,.cons _ t=>t
 | _,_,i+1,.cons r t=> .cons r (Vals.eraseIdx i t)
theorem Vals.rep {xs:List V} {us:List Value} (h:Vals xs us):∀k:Nat,Vals (List.replicate k xs).flatten (List.replicate k us).flatten
 | 0=> .nil
 | k+1=>by
   rw [List.replicate_succ,List.replicate_succ,List.flatten_cons,List.flatten_cons];exact Vals.append h (Vals.rep h k)
theorem vo {α:Type}:∀(l:List α) (i:Nat),(l.eraseIdx i).length<=l.length
 | [],_=>Nat.le_refl _
 | _::_,0=>Nat.le_succ _
 | _::r,i+1=>Nat.succ_le_succ (vo r i)
theorem foldl_rep (its:List Value):∀(k:Nat) (acc:List Value),
 List.foldl (fun x1 x2=>x1++x2) acc.toArray (List.replicate k its.toArray)=(acc++(List.replicate k its).flatten).toArray
 | 0,acc=>by simp
 | k+1,acc=>by
   have e:acc.toArray++its.toArray=(acc++its).toArray:=by simp
   have e2:(acc++its)++(List.replicate k its).flatten=acc++(List.replicate (k+1) its).flatten:=by
    rw [List.replicate_succ,List.flatten_cons,List.append_assoc]
   rw [←e2,←foldl_rep its k (acc++its),←e,List.replicate_succ,List.foldl_cons]
section
variable {X:Cx} {pins:List (Addr×Obj)} {σ:St} {H:Hp} {s:Shared} {l b:Addr} {xs ys zs:List V}
theorem Inv.Mt {its its':List Value} {n:Nat} {f:Array Value->Array Value} {t':Nat} (I:Inv X pins σ H s) (hH:H l=some (.lst xs))
 (e:s.heap.get? l=some {cls:= .type "list",data:= .seq its.toArray n}) (hf:f its.toArray=its'.toArray) (hv:Vals ys its') (hz:ys.length<=sizeLine):
 Inv X pins σ (upd H l (.lst ys)) {s with heap:=s.heap.update l (Obj.mapSeq f),toks:=t'}:=by
 have q:=PySem.IsL.update e f;rw [hf] at q;refine I.write (x:=l) (e:=l) (by rw [hH];exact trivial) (.inl rfl) (fun b' u hb hu=>(Heap.get?_update_other s.heap (Obj.mapSeq f) (Ne.symm hb)).trans hu) ⟨_,q⟩ ?_;exact ⟨hz,its',_,hv,q⟩
theorem Inv.Tf {its:List Value} {t':Nat} (I:Inv X pins σ H s) (hv:Vals ys its) (hz:ys.length<=sizeLine):
 Inv X pins σ (upd H s.heap.objs.size (.lst ys)) {s with heap:=s.heap.push {cls:= .type "list",data:= .seq its.toArray},toks:=t'}:=
 I.laid (fun _ _ q=>Heap.get?_push_of_some _ q) (Nat.le_refl _) ⟨hz,its,0,hv,Heap.get?_push_size _ rfl⟩
theorem Inv.fresh (I:Inv X pins σ H s):H s.heap.objs.size=none:=I.hok.fresh (Nat.le_refl _)
theorem Inv.yP (I:Inv X pins σ H s) (hH:H l=some (.lst xs)):xs.length<=sizeLine /\ ∃(its:List Value) (n:Nat),Vals xs its/\xs.length=its.length/\s.heap.get? l=some {cls:= .type "list",data:= .seq its.toArray n}:=by
 obtain ⟨z,its,n,r,e⟩:=I.hok l _ hH;exact ⟨z,its,n,r,r.length,e⟩
theorem yF {n:Nat} (h:n<=sizeLine):Builtin.List.listTooLong n=false:=by
 unfold Builtin.List.listTooLong;exact decide_eq_false (by omega)
end
section
variable {X:Cx}
def Di:V->List V->Hp->VK->Prop:=fun x vs H Q=>∃l xs y,x = .ref l/\vs=[y]/\H l=some (.lst xs)/\xs.length<sizeLine/\Q .non (upd H l (.lst (xs++[y])))
theorem vm:WL X "list.append" Di:=by
 intro pins s σ H x vs v us Q I rx rv h;obtain ⟨l,xs,y,rfl,rfl,hH,hz,q⟩:=h;cases rx;obtain ⟨u,rfl,ru⟩:=rv.one;obtain ⟨z,its,n,r,hl,e⟩:=I.yP hH;refine call_meets F.slot_list_append ⟨_,e,rfl⟩ F.entry_list_append (F.args_list_append_2 _ _) (PySem.list_append l its.toArray n u (by rw [List.size_toArray];omega)) ⟨e, ?_⟩;refine ⟨.non,_,I.Mt (its':=its++[u]) hH e (by simp) (r.append (.cons ru .nil)) ?_,rfl,q⟩;rw [List.length_append,List.length_singleton];omega
def K8:V->List V->Hp->VK->Prop:=fun x vs H Q=>∃l b xs zs,x = .ref l/\vs=[.ref b]/\H l=some (.lst xs)/\H b=some (.lst zs)/\xs.length+zs.length<=sizeLine/\Q .non (upd H l (.lst (xs++zs)))
theorem pQ:WL X "list.extend" K8:=by
 intro pins s σ H x vs v us Q I rx rv h;obtain ⟨l,b,xs,zs,rfl,rfl,hH,hB,hz,q⟩:=h;cases rx;obtain ⟨u,rfl,ru⟩:=rv.one;cases ru;obtain ⟨z,its,n,r,hl,e⟩:=I.yP hH;obtain ⟨z2,its2,n2,r2,hl2,e2⟩:=I.yP hB;have hsz:its.toArray.size+its2.toArray.size<=sizeLine:=by rw [List.size_toArray,List.size_toArray];omega
 have Jq:¬(!its.toArray.isEmpty&&Builtin.List.listTooLong (its.toArray.size+its2.toArray.size))=true:=by
  rw [yF hsz,Bool.and_false];exact Bool.false_ne_true
 refine call_meets F.slot_list_extend ⟨_,e,rfl⟩ F.entry_list_extend (F.args_list_extend_2 _ _)
  (AutoSeq1.list_extend_list_list_0 l its.toArray n b its2.toArray n2 Jq (by rw [List.size_toArray];omega) (by omega)) ⟨e,e2, ?_⟩
 refine ⟨.non,_,I.Mt (its':=its++its2) hH e (by simp) (r.append r2) ?_,rfl,q⟩;rw [List.length_append];omega
def Px:V->List V->Hp->VK->Prop:=fun x vs H Q=>∃l xs i k y,x = .ref l/\vs=[.int i]/\H l=some (.lst xs) /\ -(2 ^ 63)<=i/\i<2 ^ 63/\seqIndex? i xs.length=some k/\xs[k]? = some y/\Q y (upd H l (.lst (xs.eraseIdx k)))
theorem Jd:WL X "list.pop" Px:=by
 intro pins s σ H x vs v us Q I rx rv h;obtain ⟨l,xs,i,k,y,rfl,rfl,hH,h1,h2,hk,hy,q⟩:=h;cases rx;obtain ⟨u,rfl,ru⟩:=rv.one;obtain ⟨t,rfl⟩:=ru;obtain ⟨z,its,n,r,hl,e⟩:=I.yP hH;obtain ⟨w,hw,rw'⟩:=r.get hy
 refine call_meets F.slot_list_pop ⟨_,e,rfl⟩ F.entry_list_pop (F.args_list_pop_2 _ _)
  (MeetsSeq.list_pop_at l its.toArray n i t k w (fitsIndex_both h1 h2) (by rw [List.size_toArray,←hl];exact hk) (by rw [←Array.getElem?_toList];exact hw) (by rw [List.size_toArray];omega)) ⟨e, ?_⟩
 refine ⟨y,_,I.Mt (its':=its.eraseIdx k) hH e ?_ (r.eraseIdx k) ?_,rw',q⟩
 ·show its.toArray.eraseIdxIfInBounds k=(its.eraseIdx k).toArray
  rw [List.eraseIdxIfInBounds_toArray]
 ·have:=vo xs k
  omega
def PB:V->List V->Hp->VK->Prop:=fun x vs H Q=>∃l xs,x = .ref l/\vs=[]/\H l=some (.lst xs)/\Q .non (upd H l (.lst []))
theorem Je:WL X "list.clear" PB:=by
 intro pins s σ H x vs v us Q I rx rv h;obtain ⟨l,xs,rfl,rfl,hH,q⟩:=h;cases rx;have hus:=rv.zero;subst hus;obtain ⟨z,its,n,r,hl,e⟩:=I.yP hH;refine call_meets F.slot_list_clear ⟨_,e,rfl⟩ F.entry_list_clear (F.args_list_clear_1 _) (AutoSeq1.list_clear_list_0 l its.toArray n (by rw [List.size_toArray];omega)) ⟨e, ?_⟩;exact ⟨.non,_,I.Mt (its':=[]) (ys:=[]) hH e rfl .nil (Nat.zero_le _),rfl,q⟩
def XR:R2:=fun x y H Q=>∃l b xs zs,x = .ref l/\y = .ref b/\H l=some (.lst xs)/\H b=some (.lst zs)/\xs.length+zs.length<=sizeLine /\ ∀p,H p=none->Q (.ref p) (upd H p (.lst (xs++zs)))
theorem Qe:nQ X (binaryOp .Add) XR:=by
 intro pins s σ H x y v u Q I rx ry h;obtain ⟨l,b,xs,zs,rfl,rfl,hH,hB,hz,q⟩:=h;cases rx;cases ry;obtain ⟨z,its,n,r,hl,e⟩:=I.yP hH;obtain ⟨z2,its2,n2,r2,hl2,e2⟩:=I.yP hB;refine PySem.P.add_list e e2 ?_ (by rw [List.size_toArray,List.size_toArray];omega);have ea:its.toArray++its2.toArray=(its++its2).toArray:=by simp
 rw [ea];exact ⟨.ref _,_,I.Tf (t':=s.toks) (r.append r2) (by rw [List.length_append];omega),rfl,q _ I.fresh⟩
def XM:R2:=fun x y H Q=>∃l k xs,x = .ref l/\y = .int k/\H l=some (.lst xs) /\ -(2 ^ 63)<=k/\k<2 ^ 63/\xs.length*k.toNat<=sizeLine /\
 ∀p,H p=none->Q (.ref p) (upd H p (.lst (List.replicate k.toNat xs).flatten))
theorem len_rep {α:Type} (xs:List α) (k:Nat):(List.replicate k xs).flatten.length=k*xs.length:=by
 induction k with
 | zero=>simp
 | succ k ih=>rw [List.replicate_succ,List.flatten_cons,List.length_append,ih,Nat.succ_mul,Nat.add_comm]
theorem wF:nQ X (binaryOp .Mult) XM:=by
 intro pins s σ H x y v u Q I rx ry h;obtain ⟨l,k,xs,rfl,rfl,hH,h1,h2,hz,q⟩:=h;cases rx;obtain ⟨t,rfl⟩:=ry;obtain ⟨z,its,n,r,hl,e⟩:=I.yP hH;have hlen:its.toArray.size*k.toNat<=sizeLine:=by rw [List.size_toArray,←hl];exact hz
 have hcap:¬its.toArray.size*k.toNat>(2 ^ 63 - 1) / 8:=by
  have:(sizeLine:Nat)<=(2 ^ 63 - 1) / 8:=by decide
  omega
 have hfit:¬(!Builtin.List.listFitsIndex k)=true:=by
  rw [fitsIndex_both h1 h2];exact Bool.false_ne_true
 have Jq:¬Builtin.List.listTooLong (its.toArray.size*k.toNat)=true:=by
  rw [yF hlen];exact Bool.false_ne_true
 have hnew:List.foldl (fun x1 x2=>x1++x2) #[] (List.replicate (if its.toArray.isEmpty=true then 0 else k.toNat) its.toArray)=(List.replicate k.toNat its).flatten.toArray:=by
  have f0:∀m:Nat,List.foldl (fun x1 x2=>x1++x2) #[] (List.replicate m its.toArray)=(List.replicate m its).flatten.toArray:=fun m=>by
   have:=foldl_rep its m [];rw [List.nil_append] at this;exact this
  rw [f0];cases its with
  | nil=>simp
  | cons a r'=>rw [if_neg (by simp)]
 refine wpAny_binaryOp_repeat_ref (T:= "list") (U:= "int") (by decide) ⟨_,e,rfl⟩ (fun s'=>typeIs_int s' k t) noFill_list_mul F.fills_int_mul F.slot_int_rmul repeat_list F.slot_int_index.lookup
  (call_meets F.slot_int_rmul (typeIs_int s k t) F.entry_int_rmul (F.args_int_rmul_2 _ _) (int___rmul___int_list k t l its.toArray n)
    ⟨e,rfl,⟨_,e,rfl⟩,call_meets F.slot_list_mul ⟨_,e,rfl⟩ F.entry_list_mul (F.args_list_mul_2 _ _) (AutoListH.list___mul___list_int_3 l its.toArray n k t hfit hcap Jq) ⟨e, ?_⟩⟩)
 rw [hnew];exact ⟨.ref _,_,I.Tf (t':=s.toks) (r.rep k.toNat) (by rw [len_rep,Nat.mul_comm];exact hz),rfl,q _ I.fresh⟩
end
section
variable {prog:Program} {w:World} {A:Around} {E:Value->Shared->Prop} {s:Shared}
end
section
variable {X:Cx}
end
end L2
namespace L2
open PySem PySem.Spec PyProof.Rows
section
variable {κ:Type} [DecidableEq κ]
def nY (kvs:List (κ×V)) (k:κ):Option V:=(kvs.find? fun kv=>decide (kv.1=k)).map (·.2)
def putK (kvs:List (κ×V)) (k:κ) (v:V):List (κ×V):=
 if (kvs.any fun kv=>decide (kv.1=k))=true then kvs.map (fun kv=>if kv.1=k then (kv.1,v) else kv) else kvs++[(k,v)]
theorem nU {p:κ×V} {r:List (κ×V)} {k:κ} (e:p.1=k):nY (p::r) k=some p.2:=by simp [nY,List.find?_cons,e]
theorem nW {p:κ×V} {r:List (κ×V)} {k:κ} (e:¬p.1=k):nY (p::r) k=nY r k:=by simp [nY,List.find?_cons,e]
theorem rR (k:κ):∀kvs:List (κ×V),(kvs.any fun kv=>decide (kv.1=k))=(nY kvs k).isSome
 | []=>rfl
 | p::r=>by
   rw [List.any_cons]
   by_cases e:p.1=k
   ·simp only [nU e,decide_eq_true e,Bool.true_or,Option.isSome_some]
   ·rw [nW e,decide_eq_false e,Bool.false_or];exact rR k r
theorem kY (kvs:List (κ×V)) (k:κ) (v:V):(putK kvs k v).length<=kvs.length+1:=by
 unfold putK;split
 ·rw [List.length_map];omega
 ·rw [List.length_append,List.length_cons,List.length_nil];omega
theorem j7.Fz {o:Option V} {u:Option Value} (r:j7 o u):o.isSome=u.isSome:=by
 cases o with
 | none=>cases u with
   | none=>rfl
   | some _=>exact (show False from r).elim
 | some _=>cases u with
   | none=>exact (show False from r).elim
   | some _=>rfl
theorem j7.getD {o:Option V} {u:Option Value} {d:V} {d':Value} (r:j7 o u) (rd:RelV d d'):RelV (o.getD d) (u.getD d'):=by
 cases o with
 | none=>cases u with
   | none=>exact rd
   | some _=>exact (show False from r).elim
 | some _=>cases u with
   | none=>exact (show False from r).elim
   | some _=>exact r
theorem KV.val {kvs:List (κ×V)} {vs:List (κ×Value)} (r:KV kvs vs) (k:κ):j7 (nY kvs k) (valueAt vs k):=by
 unfold KV at r
 induction r with
 | nil=>exact True.intro
 | @cons p q ps qs h t ih=>
   obtain ⟨h1,h2⟩:=h
   by_cases e:p.1=k
   ·have e':q.1=k:=h1.symm.trans e
    have b:valueAt (q::qs) k=some q.2:=by simp [valueAt,List.find?_cons,e']
    rw [nU e,b];exact h2
   ·have e':¬q.1=k:=fun z=>e (h1.trans z)
    have b:valueAt (q::qs) k=valueAt qs k:=by simp [valueAt,List.find?_cons,e']
    rw [nW e,b];exact ih
theorem KV.any {kvs:List (κ×V)} {vs:List (κ×Value)} (r:KV kvs vs) (k:κ):(kvs.any fun kv=>decide (kv.1=k))=vs.any fun kv=>decide (kv.1=k):=by
 unfold KV at r
 induction r with
 | nil=>rfl
 | cons h t ih=>rw [List.any_cons,List.any_cons,ih,h.1]
theorem KV.repl {kvs:List (κ×V)} {vs:List (κ×Value)} (r:KV kvs vs) (k:κ) {y:V} {u:Value} (ry:RelV y u):
 KV (kvs.map fun kv=>if kv.1=k then (kv.1,y) else kv) (vs.map fun kv=>if kv.1=k then (kv.1,u) else kv):=by
 unfold KV at r ⊢
 induction r with
 | nil=>exact .nil
 | @cons p q ps qs h t ih=>
   rw [List.map_cons,List.map_cons];refine .cons ?_ ih;obtain ⟨h1,h2⟩:=h
   by_cases e:p.1=k
   ·rw [if_pos e,if_pos (h1.symm.trans e)];exact ⟨h1,ry⟩
   ·rw [if_neg e,if_neg (fun z=>e (h1.trans z))];exact ⟨h1,h2⟩
theorem KV.put {kvs:List (κ×V)} {vs:List (κ×Value)} (r:KV kvs vs) (k:κ) {y:V} {u:Value} (ry:RelV y u):KV (putK kvs k y) (stored vs k u):=by
 unfold putK stored;rw [r.any k]
 by_cases e:(vs.any fun kv=>decide (kv.1=k))=true
 ·rw [if_pos e,if_pos e];exact r.repl k ry
 ·rw [if_neg e,if_neg e];exact Paired.snoc r ⟨rfl,ry⟩
theorem KV.length {kvs:List (κ×V)} {vs:List (κ×Value)} (r:KV kvs vs):kvs.length=vs.length:=Paired.length r
end
theorem yV {P:Program} {w:World} {k:Key} {u:Value} (r:RelV (kV k) u):(b_ P w).is k u=true:=by
 cases k with
 | inl i=>obtain ⟨t,e⟩:=(show ∃t,u=Value.int i t from r);subst e;exact yL P w i t
 | inr x=>obtain ⟨t,e⟩:=(show ∃t,u=Value.str x t from r);subst e;exact yK P w x t
theorem vp {P:Program} {w:World}:∀{ks:List Key} {us:List Value},Vals (ks.map kV) us->ItemsAre (b_ P w) ks us
 | [],_,r=>by rw [List.map_nil] at r;cases r;exact .nil
 | k::ks,_,r=>by
   rw [List.map_cons] at r;cases r with
   | cons h t=>exact .cons (yV h) (vp t)
abbrev KT (H:Hp):List (List Key×V)->List (List Key×Addr×Value)->Prop:=Paired fun p q=>p.1=q.1/\H q.2.1=some (.tup (p.1.map kV))/\RelV p.2 q.2.2
theorem KT.val {H:Hp} {kvs:List (List Key×V)} {xs:List (List Key×Addr×Value)} (r:KT H kvs xs) (k:List Key):j7 (nY kvs k) ((atKey xs k).map (·.2)):=by
 induction r with
 | nil=>exact True.intro
 | @cons p q ps qs h t ih=>
   obtain ⟨h1,_,h2⟩:=h
   by_cases e:p.1=k
   ·have e':q.1=k:=h1.symm.trans e
    have b:atKey (q::qs) k=some q.2:=by simp [atKey,List.find?_cons,e']
    rw [nU e,b];exact h2
   ·have e':¬q.1=k:=fun z=>e (h1.trans z)
    have b:atKey (q::qs) k=atKey qs k:=by simp [atKey,List.find?_cons,e']
    rw [nW e,b];exact ih
theorem KT.repl {H:Hp} {kvs:List (List Key×V)} {xs:List (List Key×Addr×Value)} (r:KT H kvs xs) (k:List Key) {y:V} {u:Value} (ry:RelV y u):
 KT H (kvs.map fun kv=>if kv.1=k then (kv.1,y) else kv) (xs.map (putAt k u)):=by
 induction r with
 | nil=>exact .nil
 | @cons p q ps qs h t ih=>
   rw [List.map_cons,List.map_cons];refine .cons ?_ ih;obtain ⟨h1,h2,h3⟩:=h;unfold putAt
   by_cases e:p.1=k
   ·rw [if_pos e,if_pos (h1.symm.trans e)];exact ⟨h1,h2,ry⟩
   ·rw [if_neg e,if_neg (fun z=>e (h1.trans z))];exact ⟨h1,h2,h3⟩
theorem KT.put {H:Hp} {kvs:List (List Key×V)} {xs:List (List Key×Addr×Value)} (r:KT H kvs xs) (k:List Key) {b:Addr} {y:V} {u:Value} (hb:H b=some (.tup (k.map kV))) (ry:RelV y u):
 KT H (putK kvs k y) (storedH xs k b u):=by
 have e:(kvs.any fun kv=>decide (kv.1=k))=(atKey xs k).isSome:=by
  rw [rR,(r.val k).Fz,Option.isSome_map]
 unfold putK storedH;rw [e]
 by_cases q:(atKey xs k).isSome=true
 ·rw [if_pos q,if_pos q];exact r.repl k ry
 ·rw [if_neg q,if_neg q];exact Paired.snoc r ⟨rfl,hb,ry⟩
theorem KT.keeps {H H':Hp} {kvs:List (List Key×V)} {xs:List (List Key×Addr×Value)} (r:KT H kvs xs) (ht:∀b ys,H b=some (.tup ys)->H' b=some (.tup ys)):KT H' kvs xs:=
 Paired.Te r fun _ _ z=>⟨z.1,ht _ _ z.2.1,z.2.2⟩
section
variable {P:Program} {w:World} {H:Hp} {h:Heap} {a:Addr}
theorem Ob {u:HO} (ok:nR P w H h) (e:Rd H a u):cH P w H h a u:=e.ok ok
theorem zq {kvs:List (Key×V)} (ok:nR P w H h) (e:Rd H a (.dK kvs)):kvs.length<=sizeLine/\(a==sysModules)=false /\ ∃vs,KV kvs vs/\h.DictOf (b_ P w) a vs:=
 show cH P w H h a (.dK kvs) from Ob ok e
theorem JC {kvs:List (Key×V)} (ok:nR P w H h) (e:H a=some (.dK kvs)):kvs.length<=sizeLine/\(a==sysModules)=false /\ ∃vs,KV kvs vs/\h.DictOf (b_ P w) a vs:=zq ok (.inl e)
theorem wM {ks:List Key} (ok:nR P w H h) (e:H a=some (.tup (ks.map kV))):(tupleKind (b_ P w)).is h ks a:=by
 obtain ⟨_,its,r,o,h1,h2,n,h3⟩:=(show cH P w H h a (.tup (ks.map kV)) from ok a _ e);exact ⟨o,its.toArray,n,h1,h2,h3,by simpa using vp r⟩
theorem zm {kvs:List (List Key×V)} (ok:nR P w H h) (e:Rd H a (.dT kvs)):kvs.length<=sizeLine/\(a==sysModules)=false /\
 ∃xs,KT H kvs xs/\h.DictOfH (tupleKind (b_ P w)) a xs:=by
 obtain ⟨z,y,xs,r,o,es,ep,h1,h2,h3,h4,h5⟩:=(show cH P w H h a (.dT kvs) from Ob ok e);refine ⟨z,y,xs,r,o,es,ep,h1,h2,h3,h4,fun x hx=> ?_,h5⟩
 have all:∀{l:List (List Key×V)} {m:List (List Key×Addr×Value)},KT H l m -> ∀x∈m,(tupleKind (b_ P w)).is h x.1 x.2.1:=by
  intro l m q
  induction q with
  | nil=>intro x hx;exact nomatch hx
  | @cons p q ps qs hq t ih=>
    intro x hx;rcases List.mem_cons.mp hx with e|hx
    ·subst e
     exact wM ok (by rw [←hq.1];exact hq.2.1)
    ·exact ih x hx
 exact all r x hx
theorem Uk {kvs:List (List Key×V)} (ok:nR P w H h) (e:H a=some (.dT kvs)):kvs.length<=sizeLine/\(a==sysModules)=false /\
 ∃xs,KT H kvs xs/\h.DictOfH (tupleKind (b_ P w)) a xs:=zm ok (.inl e)
end
def uH (H:Hp) (a:Addr) (y:V) (r:Option V):Prop:=
 (∃kvs k,Rd H a (.dK kvs)/\y=kV k/\r=nY kvs k) \/ ∃kvs k b,Rd H a (.dT kvs)/\y = .ref b/\H b=some (.tup (k.map kV))/\r=nY kvs k
def Ke (H:Hp) (a:Addr) (y v:V) (H':Hp):Prop:=
 (∃kvs k,H a=some (.dK kvs)/\y=kV k/\kvs.length<sizeLine/\H'=upd H a (.dK (putK kvs k v))) \/
 ∃kvs k b,H a=some (.dT kvs)/\y = .ref b/\H b=some (.tup (k.map kV))/\kvs.length<sizeLine/\H'=upd H a (.dT (putK kvs k v))
theorem uH.k {H:Hp} {a:Addr} {kvs:List (Key×V)} {k:Key} (e:H a=some (.dK kvs)):uH H a (kV k) (nY kvs k):= .inl ⟨kvs,k,.inl e,rfl,rfl⟩
theorem Ke.k {H:Hp} {a:Addr} {kvs:List (Key×V)} {k:Key} {v:V} (e:H a=some (.dK kvs)) (hl:kvs.length<sizeLine):Ke H a (kV k) v (upd H a (.dK (putK kvs k v))):= .inl ⟨kvs,k,e,rfl,hl,rfl⟩
section
variable {X:Cx} {pins:List (Addr×Obj)} {σ:St} {H:Hp} {s:Shared} {a:Addr} {y v:V} {u r:Value} {o:Option V} {A:Around} {E:Value->Shared->Prop}
theorem Inv.big (I:Inv X pins σ H s):sysModules<s.heap.objs.size:=by
 have h:mainGlobals<s.heap.objs.size:=(I.mod.glob.keeps I.bk).lt;exact Nat.lt_trans (by decide) h
theorem Gd {Q:Value->Shared->Prop} (hu:A.units+1<cLine) (I:Inv X pins σ H s) (g:uH H a y (some v)) (ry:RelV y u) (h:∀w' s',Inv X pins σ H s'->RelV v w'->Q w' s'):
 wpAny (model X.prog X.w) A (getItem (.ref a) u) Q E s:=by
 rcases g with ⟨kvs,k,e,ey,l⟩|⟨kvs,k,b,e,ey,eb,l⟩
 ·subst ey
  obtain ⟨z,hd,vs,rel,dd⟩:=zq I.hok e;obtain ⟨w',hw,rw'⟩:=j7.some_of (v:=v) (o:=valueAt vs k) (by rw [l];exact rel.val k);exact wpAny_getItem_of (yV ry) dd.mapOf hw (h w' _ (I.tok _) rw')
 ·subst ey
  cases (show u=Value.ref b from ry);obtain ⟨z,hd,xs,rel,dd⟩:=zm I.hok e;obtain ⟨w',hw,rw'⟩:=j7.some_of (v:=v) (o:=(atKey xs k).map (·.2)) (by rw [l];exact rel.val k);obtain ⟨p,hp,hp2⟩:=Option.map_eq_some_iff.mp hw;refine wpAny_getItem_heap (tupleKind_room_in1 hu) (wM I.hok eb) dd hp ?_;rw [hp2];exact h w' _ (I.tok _) rw'
theorem wW {h':Heap} {t':Nat} {ob:HO} (I:Inv X pins σ H s) (mu:Vm (H a)) (hs:Heap.SameBut a s.heap h') (he:∃q,h'.get? a=some q) (new:cH X.prog X.w (upd H a ob) h' a ob):
 Inv X pins σ (upd H a ob) {s with heap:=h',toks:=t'}:=
 I.write (x:=a) (e:=a) mu (.inl rfl) (fun b q hb z=>(hs.2 b hb).trans z) he new
theorem JD {P:Program} {w:World} {H':Hp} {h':Heap} {kvs:List (Key×V)} {vs:List (Key×Value)} (z:kvs.length<=sizeLine) (hd:(a==sysModules)=false) (rel:KV kvs vs) (dd:h'.DictOf (b_ P w) a vs):
 cH P w H' h' a (.dK kvs):=⟨z,hd,vs,rel,dd⟩
theorem Gb {H':Hp} {Q:Unit->Shared->Prop} (hu:A.units+1<cLine) (I:Inv X pins σ H s) (g:Ke H a y v H') (ry:RelV y u) (rv:RelV v r) (h:∀s',Inv X pins σ H' s'->Q () s'):
 wpAny (model X.prog X.w) A (setItem (.ref a) u r) Q E s:=by
 rcases g with ⟨kvs,k,e,ey,l,eH⟩|⟨kvs,k,b,e,ey,eb,l,eH⟩
 ·subst ey eH
  obtain ⟨z,hd,vs,rel,dd⟩:=JC I.hok e;have hz:vs.length<=sizeLine:=by rw [←rel.length];exact z
  have hl:(putK kvs k v).length<=sizeLine:=by have:=kY kvs k v;omega
  refine wpAny_setItem_pairs (hsz:=hz) (yV ry) dd fun h' Q5 hs=>h _ ?_;have he:∃q,h'.get? a=some q:=let ⟨q,_,_,hq,_⟩:=Q5;⟨q,hq⟩
  exact wW I (by rw [e];exact True.intro) hs he (JD hl hd (rel.put k rv) Q5)
 ·subst ey eH
  cases (show u=Value.ref b from ry);obtain ⟨z,hd,xs,rel,dd⟩:=Uk I.hok e;have hz:xs.length<=sizeLine:=by rw [←Paired.length rel];exact z
  have hl:(putK kvs k v).length<=sizeLine:=by have:=kY kvs k v;omega
  refine wpAny_setItem_heap (hsz:=hz) (tupleKind_room_in1 hu) (wM I.hok eb) dd fun h' Q5 hs=>h _ ?_;obtain ⟨q,es,ep,hq,h2,h3,h4,_,h5⟩:=Q5;refine wW I (by rw [e];exact True.intro) hs ⟨q,hq⟩ ⟨hl,hd,_,(rel.put k eb rv).keeps fun c ys ec=> ?_,q,es,ep,hq,h2,h3,h4,h5⟩;rw [aQ (qz ec e (fun z=>nomatch z))];exact ec
end
section
variable {X:Cx} {pins:List (Addr×Obj)} {σ:St} {H:Hp} {s:Shared} {a:Addr} {kvs:List (Key×V)} {k:Key} {u:Value} {A:Around} {E:Value->Shared->Prop}
end
def Vl (i:Expr):Prop:=∀ov iv,subscripted i false ov iv=operate [ov,iv] (getItem ov iv)
theorem KD {prog:Program} {w:World} {A:Around} {E:Value->Shared->Prop} {s:Shared} {env:Env} {value slice:Expr} {pos:Pos} {T id:String} {Q:Value->Shared->Prop}
 (hl:typeLookup (.type T) "__getitem__" = pure (some (.builtin id))) (hs:Vl slice)
 (h:wpAny (model prog w) A (eval value env) (fun o s₁=>wpAny (model prog w) A (eval slice env) (fun i s₂=>s₂.TypeIs o T/\wpAny (model prog w) A (getItem o i) Q E s₂) E s₁) E s):
 wpAny (model prog w) A (eval (.Subscript value slice pos) env) Q E s:=by
 refine Subscript_ (wpAny_mono h (fun o s₁ h₁=>wpAny_mono h₁ (fun i s₂ h₂=> ?_) fun _ _ x=>x) fun _ _ x=>x);obtain ⟨hT,h₂⟩:=h₂;unfold subscriptTail;refine wpAny_bind ?_;rw [getitemInPython_of_ne hT.not_modules];refine wpAny_bind (wpAny_specialOf hT hl ?_)
 have fin:wpAny (model prog w) A (subscripted slice false o i) (fun r s₃=>wpAny (model prog w) A (letTemporaryGo value o r >>= fun _=>pure r) Q E s₃) E s₂:=by
  rw [hs o i];exact wpAny_operating (wpAny_mono h₂ (fun r s₃ h₃=>wpAny_bind (wpAny_letTemporaryGo (wpAny_pure h₃))) fun _ _ x=>x)
 first
  | exact wpAny_pure (wpAny_bind fin)
  | exact wpAny_bind (wpAny_pure (wpAny_bind fin))
  | exact wpAny_bind fin
theorem zx {X:Cx} {pins:List (Addr×Obj)} {σ:St} {H:Hp} {s:Shared} {a:Addr} {y:V} {o:Option V} (I:Inv X pins σ H s) (g:uH H a y o):s.TypeIs (.ref a) "dict" :=by
 rcases g with ⟨kvs,k,e,_,_⟩|⟨kvs,k,b,e,_,_,_⟩
 ·obtain ⟨_,_,vs,_,dd⟩:=zq I.hok e
  exact dd.typeIs
 ·obtain ⟨_,_,xs,_,dd⟩:=zm I.hok e
  exact dd.typeIs
def RT (td ty:TE):TE:=fun σ H Q=>td σ H fun x H1=>ty σ H1 fun y H2=>∃a v,x = .ref a/\uH H2 a y (some v)/\Q v H2
def R5 (td ty tv:TE):TS:=fun D σ H=>tv σ H fun v H1=>td σ H1 fun x H2=>ty σ H2 fun y H3=>∃a H4,x = .ref a/\Ke H3 a y v H4/\D.nx σ H4
section
variable {X:Cx} {o i e value:Expr} {pos pos' tpos:Pos} {td ty tv:TE}
theorem Lw (hu:X.A.units+1<cLine) (ho:PE X o td) (hi:PE X i ty) (hs:Vl i):PE X (.Subscript o i pos) (RT td ty):=by
 intro pins s σ H Q I h;refine KD PySem.F.slot_dict_getitem.lookup hs (cU (ho pins s σ H _ I h) fun u s1 ⟨x,H1,I1,rx,q1⟩=>cU (hi pins s1 σ H1 _ I1 q1) fun iv s2 ⟨y,H2,I2,ry,a,v,ex,g,q2⟩=> ?_);subst ex;obtain rfl:u=Value.ref a:=rx;exact ⟨zx I2 g,Gd hu I2 g ry fun w' s3 I3 rw'=>⟨v,H2,I3,rw',q2⟩⟩
theorem Lg (hu:X.A.units+1<cLine) (ho:PE X o td) (hi:PE X i ty) (hv:PE X value tv) (hs:swapsWith value (some (.Subscript o i pos')) pos.line X.env=pure false):
 PS X (.Assign [.Subscript o i pos'] value pos) (R5 td ty tv):=by
 intro pins s σ H D I h;refine wpAny_Assign_Subscript (cU (hv pins s σ H _ I h) fun r s1 ⟨v,H1,I1,rv,q1⟩=>cU (ho pins s1 σ H1 _ I1 q1) fun u s2 ⟨x,H2,I2,rx,q2⟩=>cU (hi pins s2 σ H2 _ I2 q2) fun iv s3 ⟨y,H3,I3,ry,a,H4,ex,g,q3⟩=> ?_) hs;subst ex;obtain rfl:u=Value.ref a:=rx;exact Gb hu I3 g ry rv fun s4 I4=>⟨σ,H4,I4,q3⟩
end
theorem zu {P:Program} {w:World} {H:Hp} (h:Heap) (hb:sysModules<h.objs.size):cH P w H (h.push {cls:= .type "dict",data:= .dict #[]}) h.objs.size (.dK []):=
 ⟨Nat.zero_le _,beq_eq_false_iff_ne.mpr (Ne.symm (Nat.ne_of_lt hb)),[],.nil,Heap.DictOf.new h⟩
def Pb:TE:=fun _ H Q=>∀p,H p=none->Q (.ref p) (upd H p (.dK []))
section
variable {X:Cx} {pos:Pos}
theorem yt:PE X (.Dict [] [] pos) Pb:=fun pins s σ H Q I h=>
 wpAny_Dict_empty ⟨.ref s.heap.objs.size,_,I.laid (a:=s.heap.objs.size) (o:= .dK []) (t':=s.toks) (fun _ _ q=>Heap.get?_push_of_some _ q) (Nat.le_refl _) (zu s.heap I.big),rfl,h _ (I.hok.fresh (Nat.le_refl _))⟩
end
def Ad:List (TE×TE)->St->Hp->(List (V×V)->Hp->Prop)->Prop
 | [],_,H,Q=>Q [] H
 | (tk,tv)::r,σ,H,Q=>tk σ H fun x H1=>tv σ H1 fun y H2=>Ad r σ H2 fun ps H3=>Q ((x,y)::ps) H3
abbrev VV:List (V×V)->List (Value×Value)->Prop:=Paired fun p q=>RelV p.1 q.1/\RelV p.2 q.2
def WK (X:Cx) (pos:Pos) (keys:List (Option Expr)) (values:List Expr) (Ky:List (TE×TE)):Prop:=
 ∀(pins:List (Addr×Obj)) (s:Shared) (σ:St) (H:Hp) (Q:List (V×V)->Hp->Prop),Inv X pins σ H s->Ad Ky σ H Q ->
  wpAny (model X.prog X.w) X.A (evalPairs (pairTrees keys values X.env pos)) (fun vs s'=>∃ps H',Inv X pins σ H' s'/\VV ps vs/\Q ps H') X.xe s
theorem Lh {X:Cx} {pos:Pos}:WK X pos [] [] []:=fun pins s σ H Q I h=>pairTrees_nil_walk ⟨[],H,I,.nil,h⟩
theorem HY {X:Cx} {pos:Pos} {k v:Expr} {ks:List (Option Expr)} {vs:List Expr} {tk tv:TE} {Ky:List (TE×TE)} (hk:PE X k tk) (hv:PE X v tv) (hr:WK X pos ks vs Ky):
 WK X pos (some k::ks) (v::vs) ((tk,tv)::Ky):=fun pins s σ H Q I h=>
 pairTrees_cons_walk (cU (hk pins s σ H _ I h) fun u s1 ⟨x,H1,I1,rx,q1⟩=>cU (hv pins s1 σ H1 _ I1 q1) fun w2 s2 ⟨y,H2,I2,ry,q2⟩=>
  cU (hr pins s2 σ H2 _ I2 q2) fun ws s3 ⟨ps,H3,I3,rel,q3⟩=>⟨(x,y)::ps,H3,I3,.cons ⟨rx,ry⟩ rel,q3⟩)
def pR (kvs more:List (Key×V)):List (Key×V):=more.foldl (fun acc kv=>putK acc kv.1 kv.2) kvs
theorem KV.merge:∀{more:List (Key×V)} {rs:List (Key×Value)} {kvs:List (Key×V)} {vs:List (Key×Value)},KV more rs->KV kvs vs->KV (pR kvs more) (merged vs rs):=by
 intro more rs kvs vs r;unfold KV at r
 induction r generalizing kvs vs with
 | nil=>intro q;exact q
 | @cons p q ps qs h t ih=>
   intro r0
   have e:KV (putK kvs p.1 p.2) (stored vs q.1 q.2):=by
    have:=r0.put p.1 h.2;rw [←h.1];exact this
   exact ih e
theorem mY:∀(more kvs:List (Key×V)),(pR kvs more).length<=kvs.length+more.length
 | [],kvs=>by show kvs.length<=kvs.length+0;omega
 | p::r,kvs=>by
   have h1:=mY r (putK kvs p.1 p.2);have h2:=kY kvs p.1 p.2;show (pR (putK kvs p.1 p.2) r).length<=_;rw [List.length_cons];omega
theorem uh {P:Program} {w:World}:∀{kvs:List (Key×V)} {ws:List (Value×Value)},VV (kvs.map fun kv=>(kV kv.1,kv.2)) ws -> ∃rs,Carries (b_ P w) ws rs/\KV kvs rs
 | [],_,r=>by rw [List.map_nil] at r;cases r;exact ⟨[],True.intro,.nil⟩
 | p::kvs,_,r=>by
   rw [List.map_cons] at r;cases r with
   | @cons a b as bs h t=>
     obtain ⟨rs,c,q⟩:=uh (P:=P) (w:=w) t;obtain ⟨b1,b2⟩:=b;exact ⟨(p.1,b2)::rs,⟨yV h.1,rfl,c⟩,.cons ⟨rfl,h.2⟩ q⟩
def RQ (Ky:List (TE×TE)):TE:=fun σ H Q=>∀p,H p=none->Ad Ky σ (upd H p (.dK [])) fun ps H2=>H2 p=some (.dK []) /\ ∃kvs:List (Key×V),ps=kvs.map (fun kv=>(kV kv.1,kv.2))/\kvs.length<=15/\Q (.ref p) (upd H2 p (.dK (pR [] kvs)))
theorem Ls {X:Cx} {pos:Pos} {keys:List (Option Expr)} {values:List Expr} {Ky:List (TE×TE)} (h:WK X pos keys values Ky) (hall:keys.all (·.isSome)=true) (hl:keys.length=values.length) (h0:keys≠[])
 (h15:keys.length<=15):PE X (.Dict keys values pos) (RQ Ky):=by
 intro pins s σ H Q I q;have hn:=I.hok.fresh (Nat.le_refl s.heap.objs.size);have I1:=I.laid (a:=s.heap.objs.size) (o:= .dK []) (h':=s.heap.push {cls:= .type "dict",data:= .dict #[]}) (t':=s.toks) (fun _ _ q=>Heap.get?_push_of_some _ q) (Nat.le_refl _) (zu s.heap I.big);refine wpAny_Dict_walk (knd:=b_ X.prog X.w) hall hl h0 h15 (cU (h pins _ σ _ _ I1 (q _ hn)) fun ws s2 ⟨ps,H2,I2,rel,e,kvs,ep,lk,q2⟩=> ?_);subst ep;obtain ⟨rs,c,rk⟩:=uh (P:=X.prog) (w:=X.w) rel;obtain ⟨z,hd,vs0,r0,dd⟩:=JC I2.hok e;cases r0;refine ⟨rs,c,dd,fun h' Q5 hs=>⟨.ref s.heap.objs.size,_, ?_,rfl,q2⟩⟩
 have hz:(pR [] kvs).length<=sizeLine:=by
  have h1:=mY kvs [];rw [List.length_nil] at h1;rw [sizeLine_eq];omega
 have he:∃q,h'.get? s.heap.objs.size=some q:=let ⟨q,_,_,hq,_⟩:=Q5;⟨q,hq⟩
 exact wW I2 (by rw [e];exact True.intro) hs he (JD hz hd (rk.merge .nil) Q5)
structure M2 (X:Cx) (o:Expr) (m:Str) (apos:Pos) (e f:Expr) (cpos:Pos):Prop where
 base:attributeBase o m X.env (eval o X.env)=eval o X.env
 few:((backTo cpos (starEach [e,f] X.env)).all (fun x=> !x.1)&&(backToKw cpos (keywordEach [] X.env)).all (fun x=>x.1.isSome)
  && decide (([e,f]:List Expr).length+([]:List Keyword).length+(if ([]:List Keyword).isEmpty then 0 else 1)<30))=true
 line:(apos.endLine==cpos.line)=true
 trees:backTo cpos (starEach [e,f] X.env)=[(false,eval e X.env),(false,eval f X.env)]
def IsD (H:Hp) (a:Addr):Prop:=(∃kvs,Rd H a (.dK kvs)) \/ ∃kvs,Rd H a (.dT kvs)
theorem QD {X:Cx} {pins:List (Addr×Obj)} {σ:St} {H:Hp} {s:Shared} {a:Addr} (I:Inv X pins σ H s) (d:IsD H a):
 s.TypeIs (.ref a) "dict" /\ (∀b,Value.ref a = .ref b -> ∃ob,s.heap.get? b=some ob/\ob.dict=none)/\(a==sysModules)=false:=by
 rcases d with ⟨kvs,e⟩|⟨kvs,e⟩
 ·obtain ⟨_,hd,vs,_,dd⟩:=zq I.hok e
  refine ⟨dd.typeIs,fun b q=> ?_,hd⟩;cases q;obtain ⟨ob,_,_,h1,h2,_⟩:=dd;exact ⟨ob,h1,h2.2.1⟩
 ·obtain ⟨_,hd,xs,_,dd⟩:=zm I.hok e
  refine ⟨dd.typeIs,fun b q=> ?_,hd⟩;cases q;obtain ⟨ob,_,_,h1,h2,_⟩:=dd;exact ⟨ob,h1,h2.2.1⟩
section
variable {X:Cx} {pins:List (Addr×Obj)} {σ:St} {H:Hp} {s:Shared} {a:Addr} {y d:V} {u r:Value} {o:Option V} {A:Around} {E:Value->Shared->Prop}
theorem Q6 {Q:Value->Shared->Prop} (hu:A.units+1<cLine) (I:Inv X pins σ H s) (g:uH H a y o) (ry:RelV y u) (rd:RelV d r) (h:∀w' s',Inv X pins σ H s'->RelV (o.getD d) w'->Q w' s'):
 wpAny (model X.prog X.w) A (call (.builtin "dict.get") [.ref a,u,r]) Q E s:=by
 rcases g with ⟨kvs,k,e,ey,l⟩|⟨kvs,k,b,e,ey,eb,l⟩
 ·subst ey
  obtain ⟨z,hd,vs,rel,dd⟩:=zq I.hok e;refine call_meetsIn PySem.F.slot_dict_get dd.typeIs PySem.F.entry_dict_get (PySem.F.args_dict_get_3 _ _ _) (meets_dict_get_default (b_ X.prog X.w) a (yV ry) hd r) ⟨_,dd.mapOf,h _ _ (I.tok _) ?_⟩;rw [l];exact (rel.val k).getD rd
 ·subst ey
  cases (show u=Value.ref b from ry);obtain ⟨z,hd,xs,rel,dd⟩:=zm I.hok e;refine call_meetsIn PySem.F.slot_dict_get dd.typeIs PySem.F.entry_dict_get (PySem.F.args_dict_get_3 _ _ _) (meetsH_dict_get_default (tupleKind (b_ X.prog X.w)) a b hd r) ⟨tupleKind_room_in1 hu,k,xs,wM I.hok eb,dd,h _ _ (I.tok _) ?_⟩;rw [l];exact (rel.val k).getD rd
end
def Hh (td ty tx:TE):TE:=fun σ H Q=>td σ H fun x H1=>∃a,x = .ref a/\IsD H1 a/\ty σ H1 fun y H2=>tx σ H2 fun z H3=>∃o,uH H3 a y o/\Q (o.getD z) H3
section
variable {X:Cx} {o e f:Expr} {apos cpos:Pos} {td ty tx:TE}
theorem sZ (hu:X.A.units+1<cLine) (ho:PE X o td) (he:PE X e ty) (hf:PE X f tx) (m:M2 X o "get" apos e f cpos):PE X (.Call (.Attribute o "get" apos) [e,f] [] cpos) (Hh td ty tx):=by
 intro pins s σ H Q I h;refine wpAny_Call_method m.base m.few m.line PySem.F.plainAttrs_dict PySem.F.slot_dict_get PySem.F.type_dict_get (cU (ho pins s σ H _ I h) fun u s1 ⟨x,H1,I1,rx,a,ex,d,q1⟩=> ?_);subst ex;obtain rfl:u=Value.ref a:=rx;obtain ⟨t1,t2,_⟩:=QD I1 d;refine ⟨t1,t2, ?_⟩;rw [m.trees]
 refine Calls.callWith_builtin rfl (Calls.evalArgs_plain (Calls.spliced_cons (cU (he pins s1 σ H1 _ I1 q1) fun iv s2 ⟨y,H2,I2,ry,q2⟩=>
  Calls.spliced_cons (cU (hf pins s2 σ H2 _ I2 q2) fun fv s3 ⟨z,H3,I3,rz,ov,g,q3⟩=>Calls.spliced_nil ?_))))
 exact Q6 hu I3 g ry rz fun w' s4 I4 rw'=>⟨_,H3,I4,rw',q3⟩
end
section
variable {X:Cx} {pins:List (Addr×Obj)} {σ:St} {H:Hp} {s:Shared} {a:Addr} {kvs:List (Key×V)} {A:Around} {E:Value->Shared->Prop}
end
section
variable {X:Cx} {pins:List (Addr×Obj)} {σ:St} {H:Hp} {s:Shared} {a:Addr} {y:V} {u:Value} {A:Around} {E:Value->Shared->Prop}
end
end L2
namespace Att
open PySem PySem.W PySem.Calls PyProof.Rows
theorem qQ {P:Params} {h:Heap}:∀(ns:List Int) (vs:List Value),WellAll P h vs (ns.map WData.int)->IntsAre vs ns:=by
 intro ns
 induction ns with
 | nil=>
   intro vs w;rw [List.map_nil] at w;cases w;exact .nil
 | cons n ns ih=>
   intro vs w;rw [List.map_cons] at w;cases w with
   | cons a b=>
     cases a;exact .cons _ _ (ih _ b)
theorem Eu {l:OpenLaw} {n:Nat} (hn:l.most=some n) {P:Params} {h:Heap} {args:List WData} {vals:List Value}
 (hpre:l.row.toRowW.claim.pre args=true) (hwl:WellAll P h vals args):
 ∃a vs ns,vals=[Value.ref a]/\args=[WData.list (ns.map WData.int)]/\h.get? a=some {cls:= .type "list",data:= .seq vs.toArray}/\IntsAre vs ns/\ns.length<=n:=by
 have hsh:WShape.hasAll [] args [.list .int]=true:=(pre_splitW hpre).1;have hc:l.pre.holds [] {args:=args}=true:=(pre_splitW hpre).2;obtain ⟨d,r,rfl,h1,h2⟩:=hasAllW_cons hsh;obtain rfl:=hasAllW_nil h2;obtain ⟨xs,rfl,h3⟩:=hasW_list h1;obtain ⟨ns,rfl⟩:=items_int h3
 have hlen:ns.length<=n:=by
  unfold OpenLaw.pre at hc
  have h4:(WTm.not (.lt (.lit (.int (n:Int))) (.len (.arg 0)))).holds [] {args:=[.list (ns.map .int)]}=true:=by
   have h4:=(holds_andW hc).1;rw [hn] at h4;exact h4
  have h5:=condW_of h4 (w_not (w_lt w_lit (w_len_list (w_arg rfl))));rw [List.length_map] at h5;refine Nat.le_of_not_lt fun q=> ?_;have q':(n:Int)<((ns.length:Nat):Int):=by omega
  first
   | (rw [decide_eq_true q'] at h5;exact absurd h5 (by decide))
   | (simp at h5;omega)
 cases hwl with
 | cons w1 w2=>
   cases w2;cases w1 with
   | list ho hall=>exact ⟨_,_,ns,rfl,rfl,ho,qQ ns _ hall,hlen⟩
theorem EY (l:OpenLaw) (args:List WData):l.row.toRowW.claim.post args (.bool true) args=true:=
 postW_of (r:=l.row.toRowW) (X:=(true==true))
  (show WShape.has [] (.bool true) .bool=true by first |rfl|decide|simp [WShape.has,WShape.arms,WShape.armsAll])
  (show (WTm.eq .res (.lit (.bool true))).value [] {args:=args,res:=some (.bool true),after:=args}=some (.bool (true==true)) from w_eq_bool (w_res rfl) w_lit) rfl
theorem zN {l:OpenLaw} {n:Nat} {q:Program} {loose:List Str} {XP:(Str->Option Value)->Heap->Prop} {YP:World->Heap->Prop} {d:DefRec}
 (hn:l.most=some n) (hdf:d.params.defaults=[])
 (call:∀(w:World) (s₀ s₁:Shared) (mg mb:Str->Option Value) (fa:Addr) (o:Obj) (pm cd doc:Value) (a:Addr) (vs:List Value) (ns:List Int),
   Ground q loose [] XP w s₀ mg mb s₁.heap->YP w s₁.heap ->
   s₁.heap.get? fa=some o->o.data = .func (docDef d.name d.params d.body d.scope pm cd doc)->s₁.heap.CodeRec cd d.name->mg d.name=some (.ref fa) ->
   s₁.heap.get? a=some {cls:= .type "list",data:= .seq vs.toArray}->IntsAre vs ns->ns.length<=n->s₁.gens = #[] ->
   codeAny (model l.prog w) callerA (.call (.ref fa) ⟨[.ref a],[]⟩) (fun r s'=>r = .ok (.ret (.bool true))/\OldK s₁.heap s'.heap/\s'.os=s₁.os/\AllBare s'.gens) s₁):
 WalkO q loose XP YP l.row.toRowW d [] (fun f vs=>PySem.call f vs):=by
 intro w s₀ s₁ mg mb G Y fa o pm cd doc dV kV ho hd hcd hD hmg hg args vals as hpre hlay hrd hwl hlo;obtain rfl:dV = .none:=Dflts.none hD hdf;obtain rfl:kV = .none:=Dflts.noKw hD;obtain ⟨a,vs,ns,rfl,rfl,hobj,hints,hlen⟩:=Eu hn hpre hwl;refine enter_call (codeAny_mono (call w s₀ s₁ mg mb fa o pm cd doc a vs ns G Y ho (fd_plain hd) hcd hmg hobj hints hlen hg) fun r s' hq=> ?_);obtain ⟨rfl,h2,h3,h4⟩:=hq;exact ⟨.inl ⟨.bool true,.bool true,[],rfl,fun _=>rfl,.bool true,EY l _,fun _=>⟨List.Pairwise.nil,fun _ hm=>(nomatch hm)⟩⟩,h2,h3,h4⟩
section
variable {prog:Program} {w:World} {A:Around} {E:Value->Shared->Prop} {s:Shared} {K:Frag}
def ledger (h:Heap) (L d:Addr):List (Addr×Obj):=(List.range h.objs.size).filterMap fun a=>if a=L\/a=d then none else (h.get? a).map fun o=>(a,o)
end
end Att
namespace L2
open PySem PySem.Spec PyProof.Rows
theorem Em {vs:List Value} {ns:List Int} (h:IntsAre vs ns):Vals (ns.map V.int) vs:=by
 induction h with
 | nil=>exact .nil
 | cons n t h ih=>exact .cons ⟨t,rfl⟩ ih
def Only (H:Hp):Prop:=∀b,H b=none \/ ∃o xs,H b=some (.mz o (.lst xs))
theorem Jj {P:Program} {w:World} {K:PySem.W.Frag} {mg mb:Str->Option Value} {CX:Kg} {k:Nat} {fa a:Addr} {fd:FuncData} {x:Str} {sp:Sp} {s₁:Shared} {vs:List Value} {ns:List Int}
 (KX:K.In s₁.heap) (hns:s₁.heap.Ns mainGlobals mg) (hb:s₁.heap.Ns builtinsNs mb) (hbb:∀x:Str,x ≠ "__name__" -> mb x=bootBuiltins x) (hlim:s₁.heap.NoLimit) (hg:s₁.gens = #[])
 (ha:s₁.heap.get? a=some {cls:= .type "list",data:= .seq vs.toArray}) (hi:IntsAre vs ns) (hl:ns.length<=sizeLine) (hr:dj k callerA)
 (F:∀base:Heap,K.In base->base.Ns mainGlobals mg->cJ P w K mg base CX k fa fd [x] sp) (hbind:∀(s:Shared) (u:Value),BindsTo s fd ⟨[u],[]⟩ [(x,u)])
 (hsp:∀H:Hp,Only H->bf K H a (ns.map V.int)->sp [.ref a] H (fun v _=>v = .bl true) fun _ _ _=>False)
 (hCX:∀H e s',CX [] H s₁ (fun _ _ _=>False) e s'->False):
 codeAny (model P w) callerA (.call (.ref fa) ⟨[.ref a],[]⟩) (fun r s'=>r = .ok (.ret (.bool true))/\OldK s₁.heap s'.heap/\s'.os=s₁.os/\AllBare s'.gens) s₁:=by
 have rv:=Em hi;have lenV:=hi.length
 have core:∀H:Hp,Only H->bf K H a (ns.map V.int)->nR P w H s₁.heap->(∀b,H b≠none->b=a)->(H a≠none->K.lookup a=none) ->
  codeAny (model P w) callerA (.call (.ref fa) ⟨[.ref a],[]⟩) (fun r s'=>r = .ok (.ret (.bool true))/\OldK s₁.heap s'.heap/\s'.os=s₁.os/\AllBare s'.gens) s₁:=by
  intro H hO hS hok hA hK;have Ef:∀{b:Addr} {o:Obj},s₁.heap.get? b=some o->H b=none->(wQ s₁.heap H).get? b=some o:=fun e n=>Jr e n
  have S8:∀{b:Addr} {o:Obj} {es:Array DictEntry} {ep:Nat},s₁.heap.get? b=some o->o.data = .dict es ep->H b=none:=fun {b o es ep} e d=>by
   cases q:H b with
   | none=>rfl
   | some u=>
     have e':b=a:=hA b (by rw [q];simp);subst e';rw [ha] at e;cases e;have d':Data.seq vs.toArray _=Data.dict es ep:=d;cases d'
  have VD:∀{b:Addr} {m:Str->Option Value},s₁.heap.Ns b m->(wQ s₁.heap H).Ns b m:=fun {b m} ⟨o,es,ep,e,d,r⟩=>⟨o,es,ep,Ef e (S8 e d),d,r⟩
  have hKb:K.In (wQ s₁.heap H):=fun b o e=>Ef (KX b o e) (by
   cases q:H b with
   | none=>rfl
   | some u=>
     have e':b=a:=hA b (by rw [q];simp);subst e';rw [hK (by rw [q];simp)] at e;cases e)
  have hM:Mod K mg (wQ s₁.heap H):=⟨hKb,VD hns,⟨mb,VD hb,hbb⟩,let ⟨mc,h1,h2⟩:=hlim;⟨mc,VD h1,h2⟩⟩;have e0:u6 P w K mg (wQ s₁.heap H) callerA [] s₁ H:=⟨rfl,hM,fun b o e=>Mi e,Nat.le_of_eq (FW _ _),trivial,fun b hb=>absurd (show b∈([]:List Addr) from hb) (by simp),hok,.of_eq hg⟩;refine codeAny_mono ((F _ hKb (VD hns)).run callerA [] s₁ H ⟨[.ref a],[]⟩ [.ref a] [.ref a] _ _ hr e0 (hbind s₁ (.ref a)) (.cons rfl .nil) (hsp H hO hS)) fun r s' h=> ?_;cases r with
  | error e=>exact (hCX H e s' h).elim
  | ok fl=>
    cases fl with
    | next=>exact False.elim h
    | brk=>exact False.elim h
    | cont=>exact False.elim h
    | ret u=>
      obtain ⟨v,H',os,bare,un,hok',r',q⟩:=h;have q':v = .bl true:=q;subst q';obtain rfl:u=Value.bool true:=r';refine ⟨rfl,OldK.of_keep fun b o e=> ?_,os,bare⟩;cases q:H b with
      | none=>exact un.keep b o e q (by intro z;exact absurd (show b∈([]:List Addr) from z) (by simp)) (by simp)
      | some u=>
        rcases hO b with z|⟨ob,xs,z⟩
        ·rw [q] at z;cases z
        ·have z2:=un.qU b ob _ z
         obtain ⟨e1,_⟩:=hok b _ z;obtain ⟨e2,_⟩:=hok' b _ z2;rw [e] at e1;cases e1;exact e2
 cases hk:K.lookup a with
 | some o=>
   have e:=KX a o hk;rw [ha] at e;cases e;refine core (fun _=>none) (fun _=> .inl rfl) (.inr ⟨_,vs.toArray,_,hk,rfl,rfl,rfl,by rw [List.size_toArray,lenV];exact hl,by simpa using rv⟩) (fun b u z=>by have z':(none:Option HO)=some u:=z;cases z') (fun b z=>absurd rfl z) fun z=>absurd rfl z
 | none=>
   refine core (fun b=>if b=a then some (.mz {cls:= .type "list",data:= .seq vs.toArray} (.lst (ns.map V.int))) else none) (fun b=> ?_) (.inl (.inr ⟨{cls:= .type "list",data:= .seq vs.toArray},if_pos rfl⟩)) (fun b u z=> ?_) (fun b z=> ?_) fun _=>hk
   ·by_cases hb:b=a
    ·exact .inr ⟨_,_,if_pos hb⟩
    ·exact .inl (if_neg hb)
   ·by_cases hb:b=a
    ·have z':=(if_pos hb).symm.trans z
     cases z';subst hb;exact ⟨ha,by rw [List.length_map];exact hl,vs,_,rv,ha⟩
    ·have z':=(if_neg hb).symm.trans z
     cases z'
   ·by_cases hb:b=a
    ·exact hb
    ·exact absurd (if_neg hb) z
end L2
namespace L2
open PySem PySem.Spec PyProof.Rows
abbrev KOf {K:PySem.W.Frag} {h:Heap} (_:K.In h):PySem.W.Frag:=K
theorem Kv {l:PySem.W.OpenLaw} {n k:Nat} {q:Program} {loose:List Str} {XP:(Str->Option Value)->Heap->Prop} {YP:World->Heap->Prop} {d:DefRec} {K:Params->PySem.W.Frag} {CX:World->Kg} {sp:World->Sp} {x:Str}
 (hn:l.most=some n) (hn2:n<=sizeLine) (hdf:d.params.defaults=[]) (hr:dj k callerA)
 (hY:∀(w:World) (h:Heap),YP w h->(K w.params).In h)
 (F:∀(w:World) (mg:Str->Option Value) (fa:Addr) (h:Heap),(K w.params).In h->h.Ns mainGlobals mg->mg d.name=some (.ref fa) ->
   ∃fd:FuncData,(∀(s:Shared) (u:Value),BindsTo s fd ⟨[u],[]⟩ [(x,u)]) /\
    ∀base:Heap,(K w.params).In base->base.Ns mainGlobals mg->cJ l.prog w (K w.params) mg base (CX w) k fa fd [x] (sp w))
 (hsp:∀(w:World) (H:Hp) (a:Addr) (ns:List Int),ns.length<=n->Only H->bf (K w.params) H a (ns.map V.int)->sp w [.ref a] H (fun v _=>v = .bl true) fun _ _ _=>False)
 (hCX:∀(w:World) (H:Hp) (s:Shared) (e:Value) (s':Shared),CX w [] H s (fun _ _ _=>False) e s'->False):
 PySem.W.WalkO q loose XP YP l.row.toRowW d [] (fun f vs=>PySem.call f vs):=by
 refine Att.zN hn hdf fun w s₀ s₁ mg mb fa o pm cd doc a vs ns G Y ho hd hcd hmg hobj hints hlen hg=> ?_;have KX:=hY w _ Y;obtain ⟨fd,hb,hF⟩:=F w mg fa _ KX G.T.g hmg;exact Jj KX G.T.g G.T.b G.T.builtins G.T.nolimit hg hobj hints (Nat.le_trans hlen hn2) hr hF hb (fun H hO hS=>hsp w H a ns hlen hO hS) fun H e s'=>hCX w H s₁ e s'
end L2
namespace L2
open PySem PySem.Spec PyProof.Rows
def inClass (s:Stmt) (j:Nat):Stmt:=match s with
 | .ClassDef _ _ _ body _ _ _ _ _ _ _=>body.getD j (.Pass ⟨0,0,0,0⟩)
 | _=> .Pass ⟨0,0,0,0⟩
def aK (s:Stmt):Arguments:=match s with
 | .FunctionDef _ a _ _ _ _ _ _ _ _=>a
 | _=>{posonlyargs:=[],args:=[],vararg:=none,kwonlyargs:=[],kw_defaults:=[],kwarg:=none,defaults:=[]}
def aH (s:Stmt):List Stmt:=match s with
 | .FunctionDef _ _ b _ _ _ _ _ _ _=>b
 | _=>[]
def aA (s:Stmt):Scope:=match s with
 | .FunctionDef _ _ _ _ _ _ sc _ _ _=>sc
 | _=>{kind:= .function,names:=[],isGenerator:=false,isCoroutine:=false}
abbrev jf:Kg:=fun _ _ _ _ _ _=>False
abbrev E0:XK:=fun _ _ _=>False
theorem Dq {X:Cx}:Passes jf X E0:=fun _ _ _ _ _ _ _ h=>h.elim
structure j4 (K:PySem.W.Frag) (x qual:Str) (st:Stmt) (f:Addr) (fd:FuncData):Prop where
 ex:∃(oc:Value) (od:Option Addr) (kV doc pm:Value) (an:Option Addr) (cdv ct:Value) (osl:Array (Option Value)),
  fd=PySem.W.fnOf x qual (aK st) (aH st) (aA st) .none kV doc pm an cdv ct/\K.lookup f=some ⟨oc,od,.func fd,osl⟩/\PySem.W.codeIn K cdv qual=true
 kp:PySem.W.keepIn K (.ref f)=true
section
variable {P:Program} {w:World} {K:PySem.W.Frag} {mg:Str->Option Value} {base:Heap}
theorem j4.ok {x qual:Str} {st:Stmt} {f:Addr} {fd:FuncData} {N ps:List Str} {k:Nat} {sp:Sp} (F:j4 K x qual st f fd) (S:aZ N ps (aA st)) (len:∀vs H Q E,sp vs H Q E->vs.length=ps.length)
 (hbody:∀(cdv:Value) (A:Around) (outer:List Env) (s:Shared) (H:Hp) (vs:List V) (Q:VK) (E:XK),dj k (A.deeper (envOfC qual (aA st) s.heap.objs.size f cdv))->sp vs H Q E ->
   ∃t,Gz (Ge jf P w K mg base N qual (aA st) f cdv A outer s H E).VF (aH st) t/\t {nx:=fun _ H'=>Q .non H',rt:=Q} (start N vs) H):cJ P w K mg base jf (k+1) f fd ps sp:=by
 obtain ⟨oc,od,kV,doc,pm,an,cdv,ct,osl,rfl,lk,hcd⟩:=F.ex;refine T4 lk hcd S len fun A outer s H vs Q E hr hsp=> ?_;obtain ⟨t,h,q⟩:=hbody cdv A outer s H vs Q E hr hsp;exact ⟨t,h.VF,q⟩
theorem j4.binds {x qual:Str} {st:Stmt} {f:Addr} {fd:FuncData} {ps:List Str} (F:j4 K x qual st f fd)
 (h:∀(kV doc pm:Value) (an:Option Addr) (cdv ct:Value) (us:List Value),us.length=ps.length->bindArgs (PySem.W.fnOf x qual (aK st) (aH st) (aA st) .none kV doc pm an cdv ct) ⟨us,[]⟩=pure (ps.zip us)):Binds K fd ps []:=by
 obtain ⟨oc,od,kV,doc,pm,an,cdv,ct,osl,rfl,lk,hcd⟩:=F.ex;exact .all (h kV doc pm an cdv ct)
theorem bM {x qual:Str} {st:Stmt} {f:Addr} {oc:Value} {od an:Option Addr} {osl:Array (Option Value)} {kV doc pm cdv ct:Value} (l:K.lookup f=some ⟨oc,od,.func (PySem.W.fnOf x qual (aK st) (aH st) (aA st) .none kV doc pm an cdv ct),osl⟩)
 (c:PySem.W.codeIn K cdv qual=true) (k:PySem.W.keepIn K (.ref f)=true):j4 K x qual st f (PySem.W.fnOf x qual (aK st) (aH st) (aA st) .none kV doc pm an cdv ct):=⟨⟨oc,od,kV,doc,pm,an,cdv,ct,osl,rfl,l,c⟩,k⟩
end
theorem DN {A:Around} {k:Nat} (hr:dj k A):A.units+1<cLine:=Nat.lt_of_le_of_lt (Nat.add_le_add_left (by decide:1<=64) _) hr.units
section
variable {X:Cx}
theorem pv (i:Nat) {x:Str} {pos:Pos} (hN:X.N[i]? = some x:=by rfl) (hv:Vis X.env.scope x:=by first |exact Or.inl rfl|exact Or.inr (Or.inl rfl)|exact Or.inr (Or.inr rfl)) (hd:(x==("__debug__" :Str))=false:=by decide)
 (hcd:(x==("__classdict__" :Str))=false:=by decide):PE X (.Name x pos) (rY i):=PN hN hv hd hcd
end
theorem gB {A B:Prop} (h:B):if false=true then A else B:=by
 rw [if_neg Bool.false_ne_true];exact h
theorem iW {A B:Prop} (h:A):if true=true then A else B:=by
 rw [if_pos rfl];exact h
theorem mK {c A B:Prop} [Decidable c] (h1:c->A) (h2:¬c->B):if c then A else B:=by
 by_cases h:c
 ·rw [if_pos h]
  exact h1 h
 ·rw [if_neg h]
  exact h2 h
theorem qF {c A B:Prop} [Decidable c] (hc:c) (h:B):if (!decide c)=true then A else B:=by
 rw [decide_eq_true hc];exact gB h
def Same (H H':Hp):Prop:=∀b o,H b=some o->H' b=some o
theorem Same.refl (H:Hp):Same H H:=fun _ _ h=>h
theorem Same.trans {H H1 H2:Hp} (a:Same H H1) (b:Same H1 H2):Same H H2:=fun c o h=>b c o (a c o h)
theorem Same.free {H H':Hp} (e:Same H H') {l:Addr} (h:H' l=Option.none):H l=Option.none:=by
 cases q:H l with
 | none=>rfl
 | some o=>
   rw [e l o q] at h;cases h
theorem Same.seq {K:PySem.W.Frag} {H H':Hp} {a:Addr} {xs:List V} (e:Same H H') (h:bf K H a xs):bf K H' a xs:=by
 rcases h with (h|⟨o,h⟩)|h
 ·exact .inl (.inl (e _ _ h))
 ·exact .inl (.inr ⟨o,e _ _ h⟩)
 ·exact .inr h
section
variable {κ:Type} [DecidableEq κ]
end
end L2
set_option Elab.async false
set_option linter.all false
set_option maxRecDepth 100000
set_option maxHeartbeats 4000000
namespace L2
open PySem PySem.Spec PyProof.Rows
theorem vh {a n:Addr} (h:a<n): @LT.lt Nat _ a n:=h
def lB (env:Env):List (Str×NameKind)->List (Str×Addr)->List (Str×Addr)
 | [],acc=>acc
 | (n,k)::r,acc=>if k == .free then lB env r ((n,(env.cells.lookup n).getD 0)::acc) else lB env r acc
theorem Ca {env:Env} {scope:Scope} (h:∀y∈scope.names,y.2 = .free->(env.cells.lookup y.1).isSome=true):closureFor scope env=pure (lB env scope.names []):=by
 have go:∀(ns:List (Str×NameKind)) (acc:List (Str×Addr)),(∀y∈ns,y.2 = .free->(env.cells.lookup y.1).isSome=true) ->
  (forIn ns acc (fun x cs=>match x with |(name,kind)=>if (kind == .free)=true then do let c ←cellOf env name;pure (ForInStep.yield ((name,c)::cs)) else pure (ForInStep.yield cs)):Sem (List (Str×Addr)))=pure (lB env ns acc):=by
  intro ns
  induction ns with
  | nil=>intro acc _;rfl
  | cons y r ih=>
    intro acc hy;obtain ⟨n,k⟩:=y;rw [List.forIn_cons]
    by_cases hk:k = .free
    ·subst hk
     have hs:=hy (n,.free) List.mem_cons_self rfl;obtain ⟨c,hc⟩:=Option.isSome_iff_exists.mp hs;have e:cellOf env n=pure c:=by unfold cellOf;rw [hc]
     show _=pure (lB env r ((n,(env.cells.lookup n).getD 0)::acc));rw [←ih _ fun y hm=>hy y (List.mem_cons_of_mem _ hm)];simp only [beq_self_eq_true,if_true,e,pure_bind,hc,Option.getD_some]
    ·have hb:(k==NameKind.free)=false:=by simpa using hk
     have hc:lB env ((n,k)::r) acc=lB env r acc:=by
      show (if (k==NameKind.free)=true then _ else _)=_;rw [if_neg (by rw [hb];decide)]
     rw [hc,←ih _ fun y hm=>hy y (List.mem_cons_of_mem _ hm)];simp only [hb,Bool.false_eq_true,if_false,pure_bind]
 have q:=go scope.names [] h;unfold closureFor;show (forIn scope.names [] _ >>= fun r=>pure r)=_;rw [bind_pure];exact q
theorem gR {env:Env}:∀(ns:List (Str×NameKind)) (acc:List (Str×Addr)) (x:Str),(∀y∈ns,y.2 = .free->(env.cells.lookup y.1).isSome=true) ->
 (lB env ns acc).lookup x=if (x,NameKind.free)∈ns then env.cells.lookup x else acc.lookup x
 | [],acc,x,_=>by simp [lB]
 | (n,k)::r,acc,x,h=>by
   have hr:∀y∈r,y.2 = .free->(env.cells.lookup y.1).isSome=true:=fun y hm=>h y (List.mem_cons_of_mem _ hm)
   by_cases hk:k = .free
   ·subst hk
    show (lB env r ((n,(env.cells.lookup n).getD 0)::acc)).lookup x=_;rw [gR r _ x hr];obtain ⟨c,hc⟩:=Option.isSome_iff_exists.mp (h (n,.free) List.mem_cons_self rfl);have hc:env.cells.lookup n=some c:=hc
    by_cases hm:(x,NameKind.free)∈r
    ·rw [if_pos hm,if_pos (List.mem_cons_of_mem _ hm)]
    ·rw [if_neg hm]
     by_cases e:x=n
     ·subst e
      rw [if_pos List.mem_cons_self,List.lookup_cons,hc];simp
     ·rw [if_neg (fun z=>(List.mem_cons.mp z).elim (fun q=>e (congrArg Prod.fst q)) hm),List.lookup_cons]
      have:(x==n)=false:=by simpa using e
      rw [this]
   ·have hb:(k==NameKind.free)=false:=by simpa using hk
    have hc:lB env ((n,k)::r) acc=lB env r acc:=by
     show (if (k==NameKind.free)=true then _ else _)=_;rw [if_neg (by rw [hb];decide)]
    rw [hc,gR r acc x hr]
    have:((x,NameKind.free)∈(n,k)::r)↔(x,NameKind.free)∈r:=by
     constructor
     ·intro z
      rcases List.mem_cons.mp z with q|q
      ·exact absurd (congrArg Prod.snd q).symm hk
      ·exact q
     ·exact List.mem_cons_of_mem _
    simp only [this]
theorem iQ (env:Env):∀(ns:List (Str×NameKind)) (x:Str),
 (ns.map fun (n,k)=>if (k == .free&&env.scope.kind == .function&&env.kindOf n==some .cell) then (n,NameKind.cell) else (n,k)).lookup x =
   (ns.lookup x).map fun k=>if (k == .free&&env.scope.kind == .function&&env.kindOf x==some .cell)=true then NameKind.cell else k
 | [],x=>rfl
 | (n,k)::r,x=>by
   show List.lookup x ((if (k==NameKind.free&&env.scope.kind == .function&&env.kindOf n==some .cell)=true then (n,NameKind.cell) else (n,k))::_)=_;cases hx:x==n with
   | true=>
     have e:x=n:=by simpa using hx
     subst e
     by_cases hc:(k==NameKind.free&&env.scope.kind == .function&&env.kindOf x==some .cell)=true
     ·rw [if_pos hc];simp only [List.lookup_cons,hx,Option.map_some,if_pos hc]
     ·rw [if_neg hc];simp only [List.lookup_cons,hx,Option.map_some,if_neg hc]
   | false=>
     have ih:=iQ env r x
     by_cases hc:(k==NameKind.free&&env.scope.kind == .function&&env.kindOf n==some .cell)=true
     ·rw [if_pos hc];simp only [List.lookup_cons,hx];exact ih
     ·rw [if_neg hc];simp only [List.lookup_cons,hx];exact ih
structure aW (N own:List Str) (caps:List Nat) (XN:List Str) (outer scope:Scope):Prop where
 kind:scope.kind = .function
 Jb:∀y∈scope.names,y.2 ≠ .cell
 names:∀y∈scope.names,y.2 = .local->scope.names.lookup y.1=some .local
 free:∀y∈scope.names,y.2 = .free->outer.names.lookup y.1=some .cell\/outer.names.lookup y.1=some .free
 nd:N.Nodup
 len:N.length=own.length+caps.length
 cap:∀(j:Nat),j<caps.length->N[own.length+j]? = XN[caps.getD j 0]? /\ ∃x,N[own.length+j]? = some x/\(x,NameKind.free)∈scope.names/\scope.names.lookup x=some .free
def st0 (own:List Str) (caps:List Nat) (σ:St):St:=own.map (fun _=>none)++caps.map (fun i=>(σ[i]?).join)
def dR (X:Cx) (scope:Scope) (C:Addr) (N:List Str) (s:Shared) (H:Hp) (fp:List Addr):Cx:=
 {X with N:=N,s₀:=s,H₀:=H,env:=compEnvC scope (lB X.env scope.names []) C X.env,outer:=X.stack,ex:=fp,fn:=fun _=>false,pn:=[],xe:=fun _ _=>False}
section
variable {X:Cx} {pins:List (Addr×Obj)} {σ:St} {H:Hp} {s:Shared} {scope:Scope} {N own:List Str} {caps:List Nat} {fp:List Addr} {C:Nat}
theorem aW.JH (S:aW N own caps X.N X.env.scope scope) (ok:X.Ok):∀y∈scope.names,y.2 = .free->(X.env.cells.lookup y.1).isSome=true:=fun y hy hf=>by
 obtain ⟨c,e⟩:=ok.has y.1 (S.free y hy hf);rw [e];rfl
theorem aW.csub (S:aW N own caps X.N X.env.scope scope) (ok:X.Ok) {x:Str} {c:Addr} (h:(lB X.env scope.names []).lookup x=some c):X.env.cells.lookup x=some c:=by
 rw [gR _ _ _ (S.JH ok)] at h;split at h
 ·exact h
 ·simp at h
theorem aW.Ji {S:aW N own caps X.N X.env.scope scope} {x:Str} (h:(relabel scope X.env).names.lookup x=some .cell\/(relabel scope X.env).names.lookup x=some .free):(x,NameKind.free)∈scope.names:=by
 have e:=iQ X.env scope.names x;have e':(relabel scope X.env).names.lookup x=(scope.names.lookup x).map fun k=>if (k == .free&&X.env.scope.kind == .function&&X.env.kindOf x==some .cell)=true then NameKind.cell else k:=e;rw [e'] at h;cases q:scope.names.lookup x with
 | none=>rw [q] at h;simp at h
 | some k=>
   have hm:=PySem.mem_of_lookup q
   by_cases hk:k = .free
   ·subst hk;exact hm
   ·rw [q] at h
    have hb:(k==NameKind.free)=false:=by simpa using hk
    simp only [Option.map_some,hb,Bool.false_and,Bool.false_eq_true,if_false] at h;rcases h with h|h
    ·exact absurd (Option.some.inj h) (S.Jb _ hm)
    ·exact absurd (Option.some.inj h) hk
theorem Inv.comp {h1:Heap} {D:Nat} (I:Inv X pins σ H s) (S:aW N own caps X.N X.env.scope scope) (hfp:∀b∈fp,nM X pins H b) (hfo:∀b∈fp,∃o,s.heap.get? b=some o)
 (hD:D=s.heap.objs.size) (hC:C=s.heap.objs.size+1) (old:∀b o,s.heap.get? b=some o->h1.get? b=some o) (hns:h1.Ns C (fun _=>none)) (hl:h1.get? D=some {cls:= .type "list",data:= .seq #[]}) {t:Nat}:
 Inv (dR X scope C N s H fp) [] (st0 own caps σ) (upd H D (.lst [])) {s with heap:=h1,toks:=t}:=by
 have some':=S.JH I.ok;have sub:∀{x c},(lB X.env scope.names []).lookup x=some c->X.env.cells.lookup x=some c:=fun h=>S.csub I.ok h;have freshD:H D=none:=I.hok.fresh (by rw [hD];exact Nat.le_refl _);have QS:H C=none:=I.hok.fresh (by rw [hC];exact Nat.le_succ _)
 have Q8:∀x c,X.env.cells.lookup x=some c->c<s.heap.objs.size:=fun x c e=>by
  obtain ⟨v,z⟩:=I.cell x c e;exact z.lt
 have aaR:∀b∈fp,b<s.heap.objs.size:=fun b hb=>by
  obtain ⟨o,e⟩:=hfo b hb;exact Heap.lt_size e
 have DC:D≠C:=by omega
 refine ⟨⟨I.ok.mod,S.kind,I.ok.glob,I.ok.blt,by show s.heap.objs.size<=C;omega,fun x y c e1 e2=>I.ok.inj x y c (sub e1) (sub e2),fun x h=> ?_,fun x c h=>(by cases h),I.ok.hd,I.ok.frames,Or.inl rfl,fun b hb=>⟨?_,fun x c e=> ?_⟩,I.bs,Nat.le_trans I.ok.JW I.sz,fun b o e hb=> ?_,fun b hb z=> ?_,I.stack,I.CW⟩,
  rfl,I.bare,Un.laid old (by show s.heap.objs.size<=D;omega) freshD,⟨_,hns,fun j x v e1 e2 e3=> ?_⟩,fun x c e=> ?_, ?_,fun x c e=> ?_,fun p hp=> ?_,I.hok.laid old (by omega) ?_, ?_⟩
 ·have hm:=aW.Ji (S:=S) (X:=X) h
  obtain ⟨c,e⟩:=Option.isSome_iff_exists.mp (some' _ hm rfl);exact ⟨c,by show (lB X.env scope.names []).lookup x=_;rw [gR _ _ _ some',if_pos hm];exact e⟩
 ·exact Nat.ne_of_lt (show @LT.lt Nat _ b C by have:=vh (aaR b hb);omega)
 ·exact (hfp b hb).2.2.2.2.1 x c (sub e)
 ·rcases (hfp b hb).2.2.2.1 with z|z
  ·exact I.ok.Ja b o e z
  ·exact absurd (Nat.lt_of_lt_of_le (Heap.lt_size e) (Nat.le_trans I.ok.JW z)) (Nat.lt_irrefl _)
 ·rcases List.mem_cons.mp (I.vQ b z) with q|q
  ·exact (hfp b hb).2.1 q
  ·exact (hfp b hb).2.2.1 q
 ·have e1:N[j]? = some x:=e1
  have hj:own.length<=j:=by
   by_cases q:own.length<=j
   ·exact q
   ·exfalso
    unfold st0 at e2;rw [List.getElem?_append_left (by simp;omega),List.getElem?_map] at e2;cases r:own[j]? with
    | none=>rw [r] at e2;cases e2
    | some a=>rw [r] at e2;cases e2
  have hjl:j<N.length:=(List.getElem?_eq_some_iff.mp e1).1;have hjc:j - own.length<caps.length:=by have:=S.len;omega
  obtain ⟨c1,x',c2,c3,c4⟩:=S.cap (j - own.length) hjc;rw [show own.length+(j - own.length)=j by omega] at c1 c2;rw [e1] at c2;cases c2
  have e2':(σ[caps.getD (j - own.length) 0]?).join=some v:=by
   unfold st0 at e2;rw [List.getElem?_append_right (by simp;omega),List.getElem?_map,List.length_map] at e2;rw [List.getD_eq_getElem?_getD];cases r:caps[j - own.length]? with
   | none=>rw [r] at e2;cases e2
   | some a=>rw [r] at e2;exact Option.some.inj e2
  have aaV:σ[caps.getD (j - own.length) 0]? = some (some v):=by
   cases r:σ[caps.getD (j - own.length) 0]? with
   | none=>rw [r] at e2';cases e2'
   | some a=>rw [r] at e2';exact congrArg Option.some e2'
  have kx:X.env.kindOf x=some .cell\/X.env.kindOf x=some .free:=S.free _ c3 rfl;obtain ⟨m,hn,hl'⟩:=I.loc;obtain ⟨u,r,l⟩:=hl' _ x v (by rw [←c1];exact e1) aaV (by rcases kx with z|z;exact .inr (.inl z);exact .inr (.inr z));refine ⟨u,r,.inr ⟨?_, ?_⟩⟩
  ·show (relabel scope X.env).names.lookup x=some .cell\/(relabel scope X.env).names.lookup x=some .free
   have e:(relabel scope X.env).names.lookup x=(scope.names.lookup x).map fun k=>if (k == .free&&X.env.scope.kind == .function&&X.env.kindOf x==some .cell)=true then NameKind.cell else k:=iQ X.env scope.names x;rw [e,c4,Option.map_some];split
   ·exact .inl rfl
   ·exact .inr rfl
  ·rcases l with ⟨hk,_⟩|⟨_,c,hc,z⟩
   ·rcases kx with q|q<;>rw [hk] at q<;>cases q
   ·refine ⟨c, ?_, ?_⟩
    ·show (lB X.env scope.names []).lookup x=_
     rw [gR _ _ _ some',if_pos c3];exact hc
    ·obtain ⟨o,ho,hd⟩:=z
     exact ⟨o,old c o ho,hd⟩
 ·obtain ⟨v,o,ho,hd⟩:=I.cell x c (sub e)
  exact ⟨v,o,old c o ho,hd⟩
 ·show upd H D (.lst []) C=none
  rw [aQ DC.symm];exact QS
 ·show upd H D (.lst []) c=none
  rw [aQ (Nat.ne_of_lt (by have:=vh (Q8 x c (sub e));omega))];exact I.jX x c (sub e)
 ·cases hp
 ·exact ⟨Nat.zero_le _,[],0,.nil,hl⟩
 ·show (own.map (fun _=>none)++caps.map _).length=N.length
  rw [List.length_append,List.length_map,List.length_map,S.len]
theorem Inv.G4 {Dp:List (Addr×Obj)} {σ':St} {H':Hp} {s':Shared} {h':Heap} (I:Inv X pins σ H s) (hfp:∀b∈fp,nM X pins H b) (hC:s.heap.objs.size<=C) (J:Inv (dR X scope C N s H fp) Dp σ' H' s') (hs:Heap.SameBut C s'.heap h'):
 Inv X pins σ H' {s' with heap:=h'}:=by
 have nC:∀b o,s.heap.get? b=some o->b≠C:=fun b o e=>Nat.ne_of_lt (by have:=vh (Heap.lt_size e);omega);have u:=J.base;have frC:H' C=none:=J.free;refine I.call' (ch:=fp) (s':={s' with heap:=h'}) J.os ⟨fun b o e n hb hx=> ?_,fun b o e n hb hx=> ?_,u.free,fun b o e hx=> ?_,u.tups,u.qU,u.uL⟩ (fun a o e=>(J.hok a o e).stay (fun b v hb q=> ?_) (fun _ q=>q) fun _ _ q=>q) J.bare fun b hb=> ?_
 ·exact (hs.2 b (nC b o e)).trans (u.keep b o e n hb hx)
 ·obtain ⟨sl,q⟩:=u.slot b o e n hb hx
  exact ⟨sl,(hs.2 b (nC b o e)).trans q⟩
 ·obtain ⟨o',q⟩:=u.there b o e hx
  exact ⟨o',(hs.2 b (nC b o e)).trans q⟩
 ·refine (hs.2 b ?_).trans q
  intro z;subst z;rcases hb with z|z
  ·subst z;rw [frC] at e;cases e
  ·rw [frC] at z;cases z
 ·exact ⟨(hfp b hb).2.2.2.1,(hfp b hb).2.1,(hfp b hb).2.2.2.2.1,(hfp b hb).2.2.2.2.2⟩
end
section
variable {prog:Program} {w:World} {A:Around} {R:Result->Shared->Prop} {s:Shared}
theorem wX {elt target iter:Expr} {ifs:List Expr} {scope:Scope} {pos:Pos} {it acc:Value} {env:Env} (I:Nat->Shared->Prop)
 (turn:∀n s,I n s->wpAny (model prog w) A (pyNext it) (fun r s1=>match r with
   | none=>R (.ok .next) s1
   | some v=>wpAny (model prog w) A (letOwnedTupleGo target it v) (fun _ s1'=>wpAny (model prog w) A (assign target env v) (fun _ s2=>
      wpAny (model prog w) A (forIn ifs true fun c r=>if r=true then do let ok ←isTrue c env (eval c env);pure (ForInStep.yield ok) else pure (ForInStep.yield r)) (fun ok s3=>
       if ok=true then wpAny (model prog w) A (eval elt env) (fun x s4=>
        wpAny (model prog w) A (call (.builtin "list.append") [acc,x]) (fun _ s5=>∃m,m<n/\I m s5) (fun _ _=>False) s4) (fun _ _=>False) s3
       else ∃m,m<n/\I m s3) (fun _ _=>False) s2) (fun _ _=>False) s1') (fun _ _=>False) s1) (fun _ _=>False) s)
 (n:Nat) (h:I n s):
 codeAny (model prog w) A (.compLoop (.ListComp elt [⟨target,iter,ifs,0⟩] scope pos) 0 it acc env) R s:=by
 refine codeAny_loop rfl I (fun n s hI=> ?_) n h;show wpAny _ A ((compTurn (.ListComp elt [⟨target,iter,ifs,0⟩] scope pos) 0 it acc env).onRaise (fun x=>do noteFrame x env;theTreesLotGoes x)) _ _ s;refine wpAny_noted ?_;rw [compTurn_list];refine wpAny_bind (wpAny_standAt (wpAny_bind (wpAny_mono (turn n s hI) (fun r s1 h1=> ?_) fun _ _ h'=>h'.elim)));cases r with
 | none=>exact wpAny_pure h1
 | some v=>
   refine wpAny_bind (wpAny_mono h1 (fun _ s1' h1'=> ?_) fun _ _ h'=>h'.elim);refine wpAny_bind (wpAny_mono h1' (fun _ s2 h2=>wpAny_bind (wpAny_mono h2 (fun ok s3 h3=> ?_) fun _ _ h'=>h'.elim)) fun _ _ h'=>h'.elim);cases ok with
   | false=>exact wpAny_pure ⟨rfl,h3⟩
   | true=>
     exact wpAny_bind (wpAny_bind (wpAny_mono h3 (fun x s4 h4=>wpAny_bind (wpAny_mono h4 (fun _ s5 h5=>wpAny_pure (wpAny_pure ⟨rfl,h5⟩)) fun _ _ h'=>h'.elim)) fun _ _ h'=>h'.elim))
end
def Vi (X:Cx) (ifs:List Expr) (t:TT):Prop:=
 ∀(pins:List (Addr×Obj)) (s:Shared) (σ:St) (H:Hp) (Q:Bool->Hp->Prop),Inv X pins σ H s->t σ H Q ->
  wpAny (model X.prog X.w) X.A (forIn ifs true fun c r=>if r=true then do let ok ←isTrue c X.env (eval c X.env);pure (ForInStep.yield ok) else pure (ForInStep.yield r)) (TP X pins σ Q) X.xe s
def Hl:TT:=fun _ H Q=>Q true H
theorem eX {X:Cx}:Vi X [] Hl:=fun _ _ _ H _ I h=>wpAny_tests_nil ⟨H,I,h⟩
theorem K9 {X:Cx} {c:Expr} {t:TT} (h:PT X c t):Vi X [c] t:=fun pins s σ H Q I q=>wpAny_tests_one (h pins s σ H Q I q)
def m7 (J:It) (g:TG) (tc:TT) (te:TE) (Q:VK) (D:Addr) (σ0:St) (H1:Hp):Prop:=
 ∃W:Nat->Nat->St->Hp->Prop,(∃m,W 0 m σ0 (upd H1 D (.lst []))) /\ ∀i m σ H,W i m σ H ->
  (J.stop i H/\Q (.ref D) H)\/(J.go i H /\ ∃N:St->Hp->Prop,(∀σ' H',N σ' H' -> ∃m',m'<m/\W (i+1) m' σ' H') /\ ∀x H',J.O6 i H x H'->g x σ H' fun σ2 H2=>tc σ2 H2 fun b H3=>
    if b=true then te σ2 H3 fun y H4=>∃acc,H4 D=some (.lst acc)/\acc.length<sizeLine/\N σ2 (upd H4 D (.lst (acc++[y]))) else N σ2 H3)
def CQ (own:List Str) (caps:List Nat) (wi:TI) (g:TG) (tc:TT) (te:TE):TE:=fun σ H Q=>wi σ H fun J H1=>∀D,H1 D=none->m7 J g tc te Q D (st0 own caps σ) H1
section
variable {X:Cx} {elt tg iter:Expr} {ifs:List Expr} {scope:Scope} {pos:Pos} {N own:List Str} {caps:List Nat} {wi:TI} {g:TG} {tc:TT} {te:TE}
theorem zF {use:Option (Value->Sem Unit)} {Qv:Value->Shared->Prop} {pins:List (Addr×Obj)} {σ:St} {H:Hp} {s:Shared} {Q:VK} (hc:X.calm=true) (S:aW N own caps X.N X.env.scope scope)
 (hg:∀C s H fp,PG (dR X scope C N s H fp) tg g) (hcs:∀C s H fp,Vi (dR X scope C N s H fp) ifs tc) (he:∀C s H fp,PE (dR X scope C N s H fp) elt te)
 (hi:PI X tg iter wi) (hs:∀x,foldedSetIterable iter X.env x=pure x)
 (I:Inv X pins σ H s) (h:CQ own caps wi g tc te σ H Q)
 (fin:∀(D C:Addr) (H':Hp) (s':Shared),(∃m,s'.heap.Ns C m)->Inv X pins σ H' s'->(∀h',Heap.SameBut C s'.heap h'->Inv X pins σ H' {s' with heap:=h'})->nM X pins H' C->Q (.ref D) H' ->
   compPost (model X.prog X.w) X.A X.xe use Qv (.ref D) C (.ok .next) s'):
 wpAny (model X.prog X.w) X.A (comprehension (.ListComp elt [⟨tg,iter,ifs,0⟩] scope pos) scope X.env (firstIterPos [⟨tg,iter,ifs,0⟩] pos) (newList []) false (eval iter X.env) use) Qv X.xe s:=by
 refine wpAny_comprehension_free (use:=use) rfl hs (Ca (S.JH I.ok)) S.kind S.names (cU (hi pins s σ H _ I h) fun xv s1 h1=>cU h1 fun itv s2 h2=> ?_);obtain ⟨it,fp,tn,J,H2,e,I2,T,st2,f2,q2⟩:=h2;subst e;refine wpAny_newList ?_;refine wpAny_newFunctionEnv S.Jb (by intro y hy;simp at hy) (fun h1 TF hsb1=> ?_) S.kind;dsimp only at TF hsb1 ⊢;have hD:H2 s2.heap.objs.size=none:=I2.hok.fresh (Nat.le_refl _);have hsz:(s2.heap.push {cls:= .type "list",data:= .seq ([]:List Value).toArray}).objs.size=s2.heap.objs.size+1:=Heap.size_push ..
 have old:∀b o,s2.heap.get? b=some o->h1.get? b=some o:=fun b o e=>by
  refine hsb1.extBut b o (Nat.ne_of_lt (by have:=vh (Heap.lt_size e);rw [hsz];omega)) (Heap.get?_push_of_some _ (Heap.get?_push_of_some _ e))
 have hl:h1.get? s2.heap.objs.size=some {cls:= .type "list",data:= .seq #[]}:=
  hsb1.extBut _ _ (Nat.ne_of_lt (by rw [hsz];omega)) (Heap.get?_push_of_some _ (Heap.get?_push_size _ rfl))
 have hfo:∀b∈fp,∃o,s2.heap.get? b=some o:=fun b hb=>let ⟨o,e,_⟩:=T.obj _ _ st2 b hb;⟨o,e⟩
 have I4:=Inv.comp (C:=(s2.heap.push {cls:= .type "list",data:= .seq ([]:List Value).toArray}).objs.size) (t:=s2.toks+([]:List (Str×Value)).length) I2 S f2 hfo rfl hsz old TF hl;obtain ⟨W,⟨m0,w0⟩,turn⟩:=q2 _ hD;generalize hCe:(s2.heap.push {cls:= .type "list",data:= .seq ([]:List Value).toArray}).objs.size=C at *;generalize hDe:s2.heap.objs.size=D at *;have hDC:D≠C:=by omega
 have loop:∀s3:Shared,s3={s2 with heap:=h1,toks:=s2.toks+([]:List (Str×Value)).length} ->
  codeAny (model X.prog X.w) X.A (.compLoop (.ListComp elt [⟨tg,iter,ifs,0⟩] scope pos) 0 (.ref it) (.ref D) (dR X scope C N s2 H2 fp).env) (compPost (model X.prog X.w) X.A X.xe use Qv (.ref D) C) s3:=by
  rintro s3 rfl
  have mz:∀b∈fp,(upd H2 D (.lst [])) b=none:=fun b hb=>by
   obtain ⟨o,e⟩:=hfo b hb;rw [aQ (Nat.ne_of_lt (by have:=vh (Heap.lt_size e);omega))];exact (f2 b hb).1
  have stat:∀{H':Hp},(∀b∈fp,H' b=none) -> ∀b∈fp,nM (dR X scope C N s2 H2 fp) [] H' b:=fun hn b hb=>by
   obtain ⟨o,e⟩:=hfo b hb;have hlt:=vh (Heap.lt_size e);refine ⟨hn b hb, ?_,fun z=> ?_,.inl hb,fun x c e'=>(f2 b hb).2.2.2.2.1 x c (S.csub I2.ok e'),fun p hp=>(by cases hp)⟩
   ·exact Nat.ne_of_lt (show @LT.lt Nat _ b C by omega)
   ·rcases List.mem_cons.mp (I2.vQ b z) with q|q
    ·exact (f2 b hb).2.1 q
    ·exact (f2 b hb).2.2.1 q
  refine wX (fun n s'=>∃i σ' H',Inv (dR X scope C N s2 H2 fp) [] σ' H' s'/\tn i s'.heap/\(∀b∈fp,H' b=none)/\W i n σ' H') ?_ m0
   ⟨0,_,_,I4,T.keep _ _ _ st2 fun b _ o e=>old b o e,mz,w0⟩
  rintro n s3 ⟨i,σ3,H3,I3,st3,TY,w3⟩;rcases turn i n σ3 H3 w3 with ⟨stop,qn⟩|⟨go,Nx,hNx,step⟩
  ·refine cU (T.done (dR X scope C N s2 H2 fp) rfl rfl rfl hc i [] s3 σ3 H3 _ I3 (stat TY) st3 stop) fun r s4 ⟨hr,J4⟩=> ?_
   subst hr;obtain ⟨m4,BR,_⟩:=J4.loc;exact fin D C H3 s4 ⟨m4,BR⟩ (I2.G4 f2 (by omega) J4 (Heap.SameBut.refl _ _)) (fun h' hs'=>I2.G4 f2 (by omega) J4 hs') (I2.zf (show s2.heap.objs.size<=C by omega) J4.free) qn
  ·refine cU (T.item (dR X scope C N s2 H2 fp) rfl rfl rfl hc i [] s3 σ3 H3 _ I3 (stat TY) st3 go) fun r s4 ⟨u,hr,h4⟩=> ?_
   subst hr;refine cU h4 fun _ s5 ⟨x,H5,I5,r5,y5,xJ,TX⟩=> ?_;have I5':=I5.pinned (stat TX) (T.obj _ _ xJ);refine cU (hg C s2 H2 fp _ s5 σ3 H5 x u _ I5' r5 (step x H5 y5)) fun _ s6 ⟨σ6,H6,I6,q6⟩=> ?_;refine cU (hcs C s2 H2 fp _ s6 σ6 H6 _ I6 q6) fun ok s7 ⟨H7,I7,q7⟩=> ?_
   have again:∀{σ8:St} {H8:Hp} {s8:Shared},Inv (dR X scope C N s2 H2 fp) ([]++sW fp s5.heap) σ8 H8 s8->Nx σ8 H8 -> ∃m,m<n /\ ∃i σ' H',Inv (dR X scope C N s2 H2 fp) [] σ' H' s8/\tn i s8.heap/\(∀b∈fp,H' b=none)/\W i m σ' H':=fun {σ8 H8 s8} I8 n8=>by
    obtain ⟨m',hm,w8⟩:=hNx _ _ n8;refine ⟨m',hm,i+1,σ8,H8,I8.nZ,T.keep _ _ _ xJ fun b hb o e=>(I8.pin (b,o) (List.mem_append_right _ (List.mem_append_right _ (jP hb e)))).1,fun b hb=> ?_,w8⟩;obtain ⟨o,e,d⟩:=T.obj _ _ xJ b hb;exact (I8.pin (b,o) (List.mem_append_right _ (List.mem_append_right _ (jP hb e)))).2.1
   cases ok with
   | false=>
     rw [if_neg (by decide)] at q7;exact again I7 q7
   | true=>
     rw [if_pos rfl] at q7;refine cU (he C s2 H2 fp _ s7 σ6 H7 _ I7 q7) fun y s8 ⟨yv,H8,I8,r8,acc,ha,hlen,q8⟩=> ?_;exact cU (vm _ s8 σ6 H8 (.ref D) [yv] (.ref D) [y] (fun v H9=>Nx σ6 H9) I8 rfl (.cons r8 .nil) ⟨D,acc,yv,rfl,rfl,ha,hlen,q8⟩) fun _ s9 ⟨_,H9,I9,_,q9⟩=>again I9 q9
 exact codeAny_compStart_list (loop _ rfl) (T.self _ 0 _ _ _ (T.keep _ _ _ st2 fun b _ o e=>old b o e) (loop _ rfl))
theorem gK (hc:X.calm=true) (S:aW N own caps X.N X.env.scope scope) (hi:PI X tg iter wi)
 (hg:∀C s H fp,PG (dR X scope C N s H fp) tg g) (hcs:∀C s H fp,Vi (dR X scope C N s H fp) ifs tc) (he:∀C s H fp,PE (dR X scope C N s H fp) elt te)
 (hs:∀x,foldedSetIterable iter X.env x=pure x:=by intro _;rfl):PE X (.ListComp elt [⟨tg,iter,ifs,0⟩] scope pos) (CQ own caps wi g tc te):=by
 intro pins s σ H Q I h;rw [eval_ListComp];refine zF (use:=none) hc S hg hcs he hi hs I h ?_;intro D C H' s' hn I' hk _ q;obtain ⟨m,hn⟩:=hn;exact ⟨m,hn,fun h' hs'=>⟨.ref D,H',hk h' hs',rfl,q⟩⟩
theorem wA {i:Nat} {x:Str} {px sp:Pos} (hc:X.calm=true) (hN:X.N.Nodup) (hx:X.N[i]? = some x) (hl:Loc X.env.scope x) (S:aW N own caps X.N X.env.scope scope) (hi:PI X tg iter wi)
 (hg:∀C s H fp,PG (dR X scope C N s H fp) tg g) (hcs:∀C s H fp,Vi (dR X scope C N s H fp) ifs tc) (he:∀C s H fp,PE (dR X scope C N s H fp) elt te)
 (hsw:swapsWith (.ListComp elt [⟨tg,iter,ifs,0⟩] scope pos) (some (.Name x px)) sp.line X.env=pure true:=by rfl)
 (hs:∀x,foldedSetIterable iter X.env x=pure x:=by intro _;rfl) (hf:X.fn x=true\/X.env.scope.names.lookup x=some .local:=by first |exact .inl rfl|exact .inr rfl|assumption):
 PS X (.Assign [.Name x px] (.ListComp elt [⟨tg,iter,ifs,0⟩] scope pos) sp) (Pg (CQ own caps wi g tc te) (gk i)):=by
 intro pins s σ H D I h;rw [exec_Assign_Name_used _ _ _ _ hsw];refine wpAny_bind (wpAny_standAt (wpAny_bind ?_));show wpAny _ X.A (do let _ ←comprehension (.ListComp elt [⟨tg,iter,ifs,0⟩] scope pos) scope X.env (firstIterPos [⟨tg,iter,ifs,0⟩] pos) (newList []) false (eval iter X.env) (some (assign (.Name x px) X.env))) _ _ s;refine wpAny_bind (wpAny_mono (zF (use:=some (assign (.Name x px) X.env)) (Qv:=fun _ s'=>SP X pins D .next s') hc S hg hcs he hi hs I h ?_) (fun _ s' hq=>wpAny_pure (wpAny_pure hq)) fun _ _ e=>e);intro E C H' s' hn I' hk fC q;obtain ⟨m,hn⟩:=hn;obtain ⟨f0,f1,f2,f3,f4,f5⟩:=fC;show wpAny _ X.A (assign (.Name x px) X.env (.ref E)) _ _ _;refine wpAny_assign_Name (u_ I' hN hx hl (v:= .ref E) rfl (fun s2 I2 k=> ?_) hf);refine ⟨m, ?_,fun h' hs'=> ?_⟩
 ·obtain ⟨o,es,ep,ho,r⟩:=hn
  obtain ⟨a,ks,ka⟩:=k
  have hCa:C≠a:=fun z=>by
   rcases ka with q'|q'
   ·exact f1 (z.trans q')
   ·exact f4 x a q' z.symm
  exact ⟨o,es,ep,(ks.2 C hCa).trans ho,r⟩
 ·exact ⟨_,H',I2.turned (t':=s2.toks) (fun b o hb e=>(hs'.2 b hb).trans e) f0 f1 f3 f4 f5,q⟩
end
def JM (N own:List Str) (caps:List Nat) (XN:List Str) (outer scope:Scope):Bool:=
 decide (scope.kind = .function)&&scope.names.all (fun y=>decide (y.2 ≠ .cell))&&scope.names.all (fun y=>decide (y.2 ≠ .local)||decide (scope.names.lookup y.1=some .local)) &&
 scope.names.all (fun y=>decide (y.2 ≠ .free)||decide (outer.names.lookup y.1=some .cell)||decide (outer.names.lookup y.1=some .free))&&decide N.Nodup&&decide (N.length=own.length+caps.length) &&
 (List.range caps.length).all (fun j=>match N[own.length+j]? with |some x=>decide (XN[caps.getD j 0]? = some x)&&decide ((x,NameKind.free)∈scope.names)&&decide (scope.names.lookup x=some .free)|none=>false)
theorem aW.of {N own:List Str} {caps:List Nat} {XN:List Str} {outer scope:Scope} (h:JM N own caps XN outer scope=true):aW N own caps XN outer scope:=by
 unfold JM at h;simp only [Bool.and_eq_true,decide_eq_true_eq,List.all_eq_true,Bool.or_eq_true] at h;obtain ⟨⟨⟨⟨⟨⟨h1,h2⟩,h3⟩,h4⟩,h5⟩,h6⟩,h7⟩:=h;refine ⟨h1,h2,fun y hy e=> ?_,fun y hy e=> ?_,h5,h6,fun j hj=> ?_⟩
 ·rcases h3 y hy with z|z
  ·exact absurd e z
  ·exact z
 ·rcases h4 y hy with (z|z)|z
  ·exact absurd e z
  ·exact .inl z
  ·exact .inr z
 ·have q:=h7 j (List.mem_range.mpr hj)
  cases e:N[own.length+j]? with
  | none=>rw [e] at q;cases q
  | some x=>
    rw [e] at q;simp only [Bool.and_eq_true,decide_eq_true_eq] at q;exact ⟨q.1.1.symm,x,rfl,q.1.2,q.2⟩
end L2
set_option Elab.async false
set_option linter.all false
set_option maxRecDepth 100000
set_option maxHeartbeats 4000000
namespace L2
open PySem PySem.Spec PyProof.Rows
mutual
def Dat (H:Hp):V->PyData->Prop
 | v,.none=>v = .non
 | v,.bool b=>v = .bl b
 | v,.int i=>v = .int i
 | v,.str x=>v = .str x
 | v,.list ds=>∃a vs,v = .ref a/\H a=some (.lst vs)/\aJ H vs ds
 | v,.tuple ds=>∃a vs,v = .ref a/\H a=some (.tup vs)/\aJ H vs ds
 | _,.dict _=>False
def aJ (H:Hp):List V->List PyData->Prop
 | [],[]=>True
 | v::vs,d::ds=>Dat H v d/\aJ H vs ds
 | [],_::_=>False
 | _::_,[]=>False
end
section
variable {H H':Hp}
theorem aJ.length:∀{vs:List V} {ds:List PyData},aJ H vs ds->vs.length=ds.length
 | [],[],_=>rfl
 | _::_,_::_,h=>by simp only [aJ] at h;simp [aJ.length h.2]
 | [],_::_,h=>by simp only [aJ] at h
 | _::_,[],h=>by simp only [aJ] at h
theorem aJ.get:∀{vs:List V} {ds:List PyData} {i:Nat} {v:V},aJ H vs ds->vs[i]? = some v -> ∃d,ds[i]? = some d/\Dat H v d
 | _::_,_::_,0,_,h,e=>by simp only [aJ] at h;simp at e;subst e;exact ⟨_,rfl,h.1⟩
 | _::_,_::_,i+1,_,h,e=>by simp only [aJ] at h;simp at e;obtain ⟨d,q,r⟩:=aJ.get h.2 e;exact ⟨d,by simpa using q,r⟩
 | [],[],_,_,_,e=>by simp at e
 | [],_::_,_,_,h,_=>by simp only [aJ] at h
 | _::_,[],_,_,h,_=>by simp only [aJ] at h
theorem aJ.getD:∀{vs:List V} {ds:List PyData} {i:Nat} {d:PyData},aJ H vs ds->ds[i]? = some d -> ∃v,vs[i]? = some v/\Dat H v d
 | _::_,_::_,0,_,h,e=>by simp only [aJ] at h;simp at e;subst e;exact ⟨_,rfl,h.1⟩
 | _::_,_::_,i+1,_,h,e=>by simp only [aJ] at h;simp at e;obtain ⟨d,q,r⟩:=aJ.getD h.2 e;exact ⟨d,by simpa using q,r⟩
 | [],[],_,_,_,e=>by simp at e
 | [],_::_,_,_,h,_=>by simp only [aJ] at h
 | _::_,[],_,_,h,_=>by simp only [aJ] at h
theorem aJ.append:∀{vs ws:List V} {ds es:List PyData},aJ H vs ds->aJ H ws es->aJ H (vs++ws) (ds++es)
 | [],_,[],_,_,g=>g
 | _::_,_,_::_,_,h,g=>by simp only [aJ,List.cons_append] at h ⊢;exact ⟨h.1,aJ.append h.2 g⟩
 | [],_,_::_,_,h,_=>by simp only [aJ] at h
 | _::_,_,[],_,h,_=>by simp only [aJ] at h
theorem aJ.ints (ns:List Int):aJ H (ns.map V.int) (ns.map PyData.int):=by
 induction ns with
 | nil=>simp only [List.map_nil,aJ]
 | cons n r ih=>simp only [List.map_cons,aJ,Dat];exact ⟨trivial,ih⟩
mutual
theorem Dat.mono (hl:∀a xs,H a=some (HO.lst xs)->H' a=some (HO.lst xs)) (ht:∀a xs,H a=some (HO.tup xs)->H' a=some (HO.tup xs)):∀(d:PyData) {v:V},Dat H v d->Dat H' v d
 | .none,_,h=>by simp only [Dat] at h ⊢;exact h
 | .bool _,_,h=>by simp only [Dat] at h ⊢;exact h
 | .int _,_,h=>by simp only [Dat] at h ⊢;exact h
 | .str _,_,h=>by simp only [Dat] at h ⊢;exact h
 | .list ds,_,h=>by simp only [Dat] at h ⊢;obtain ⟨a,vs,e,q,r⟩:=h;exact ⟨a,vs,e,hl _ _ q,aJ.mono hl ht ds r⟩
 | .tuple ds,_,h=>by simp only [Dat] at h ⊢;obtain ⟨a,vs,e,q,r⟩:=h;exact ⟨a,vs,e,ht _ _ q,aJ.mono hl ht ds r⟩
 | .dict _,_,h=>by simp only [Dat] at h
theorem aJ.mono (hl:∀a xs,H a=some (HO.lst xs)->H' a=some (HO.lst xs)) (ht:∀a xs,H a=some (HO.tup xs)->H' a=some (HO.tup xs)):∀(ds:List PyData) {vs:List V},aJ H vs ds->aJ H' vs ds
 | [],[],_=>by simp only [aJ]
 | d::ds,v::vs,h=>by simp only [aJ] at h ⊢;exact ⟨Dat.mono hl ht d h.1,aJ.mono hl ht ds h.2⟩
 | _::_,[],h=>by simp only [aJ] at h
 | [],_::_,h=>by simp only [aJ] at h
end
mutual
def Kq:PyData->Bool
 | .tuple ds=>uT ds
 | .list _ | .dict _=>false
 | .none | .bool _ | .int _ | .str _=>true
def uT:List PyData->Bool
 | []=>true
 | d::ds=>Kq d&&uT ds
end
mutual
theorem Dat.keep (ht:∀a xs,H a=some (HO.tup xs)->H' a=some (HO.tup xs)):∀(d:PyData) {v:V},Kq d=true->Dat H v d->Dat H' v d
 | .none,_,_,h=>by simp only [Dat] at h ⊢;exact h
 | .bool _,_,_,h=>by simp only [Dat] at h ⊢;exact h
 | .int _,_,_,h=>by simp only [Dat] at h ⊢;exact h
 | .str _,_,_,h=>by simp only [Dat] at h ⊢;exact h
 | .list ds,_,i,h=>by simp only [Kq] at i;cases i
 | .tuple ds,_,i,h=>by simp only [Dat] at h ⊢;simp only [Kq] at i;obtain ⟨a,vs,e,q,r⟩:=h;exact ⟨a,vs,e,ht _ _ q,aJ.keep ht ds i r⟩
 | .dict _,_,_,h=>by simp only [Dat] at h
theorem aJ.keep (ht:∀a xs,H a=some (HO.tup xs)->H' a=some (HO.tup xs)):∀(ds:List PyData) {vs:List V},uT ds=true->aJ H vs ds->aJ H' vs ds
 | [],[],_,_=>by simp only [aJ]
 | d::ds,v::vs,i,h=>by simp only [aJ] at h ⊢;simp only [uT,Bool.and_eq_true] at i;exact ⟨Dat.keep ht d i.1 h.1,aJ.keep ht ds i.2 h.2⟩
 | _::_,[],_,h=>by simp only [aJ] at h
 | [],_::_,_,h=>by simp only [aJ] at h
end
theorem bH {α:Type} (f:α->PyData) (h:∀x,Kq (f x)=true):∀l:List α,uT (l.map f)=true
 | []=>rfl
 | a::l=>by simp only [List.map_cons,uT,h a,bH f h l,Bool.and_self]
end
section
variable {X:Cx} {pins:List (Addr×Obj)} {σ:St} {H:Hp} {s:Shared}
mutual
theorem Inv.reads (I:Inv X pins σ H s):∀(d:PyData) {v:V} {u:Value},Dat H v d->RelV v u -> ∃as,Reads s.heap u d as
 | .none,v,u,h,r=>by
   simp only [Dat] at h;subst h;cases (show u=Value.none from r);exact ⟨_,.none⟩
 | .bool b,v,u,h,r=>by
   simp only [Dat] at h;subst h;cases (show u=Value.bool b from r);exact ⟨_,.bool b⟩
 | .int i,v,u,h,r=>by
   simp only [Dat] at h;subst h;obtain ⟨t,q⟩:=(show ∃t,u=Value.int i t from r);cases q;exact ⟨_,.int i t⟩
 | .str x,v,u,h,r=>by
   simp only [Dat] at h;subst h;obtain ⟨t,q⟩:=(show ∃t,u=Value.str x t from r);cases q;exact ⟨_,.str x t⟩
 | .list ds,v,u,h,r=>by
   simp only [Dat] at h;obtain ⟨a,vs,rfl,q,g⟩:=h;cases (show u=Value.ref a from r);obtain ⟨its,rv,p,hz⟩:=I.list (bf.of q);obtain ⟨o,ho,hc,n,hd⟩:=p.isList;obtain ⟨as,ra⟩:=Inv.readsAll I ds g rv;exact ⟨_,.list ho hc hd (by simpa using ra)⟩
 | .tuple ds,v,u,h,r=>by
   simp only [Dat] at h;obtain ⟨a,vs,rfl,q,g⟩:=h;cases (show u=Value.ref a from r);obtain ⟨its,rv,p,hz⟩:=I.tuple (dZ.of q);obtain ⟨o,ho,hc,n,hd⟩:=p;obtain ⟨as,ra⟩:=Inv.readsAll I ds g rv;exact ⟨_,.tuple ho hc hd (by simpa using ra)⟩
 | .dict _,_,_,h,_=>by simp only [Dat] at h
theorem Inv.readsAll (I:Inv X pins σ H s):∀(ds:List PyData) {vs:List V} {us:List Value},aJ H vs ds->Vals vs us -> ∃as,ReadsAll s.heap us ds as
 | [],[],_,_,.nil=>⟨_,.nil⟩
 | d::ds,v::vs,_,h,.cons r rs=>by
   simp only [aJ] at h;obtain ⟨as,ra⟩:=Inv.reads I d h.1 r;obtain ⟨bs,rb⟩:=Inv.readsAll I ds h.2 rs;exact ⟨_,.cons ra rb⟩
 | _::_,[],_,h,_=>by simp only [aJ] at h
 | [],_::_,_,h,_=>by simp only [aJ] at h
end
def Sx (neg:Bool):R2:=fun x y H Q=>∃d e,Dat H x d/\Dat H y e/\SeqAt.shaped d=true/\SeqAt.shaped e=true/\Q (.bl (if neg then !PyData.eqv d e else PyData.eqv d e)) H
theorem Qd (hu:X.A.units+64<cLine):nQ X (compareOp .Eq) (Sx false):=by
 intro pins s σ H x y v u Q I rx ry h;obtain ⟨d,e,h1,h2,s1,s2,q⟩:=h;obtain ⟨as,ra⟩:=I.reads d h1 rx;obtain ⟨bs,rb⟩:=I.reads e h2 ry;exact SeqAt.compareEq_shaped ra rb s1 s2 hu ⟨.bl _,H,I,rfl,q⟩
theorem JQ {c:Value} {cv:V} (rc:RelV cv c):gq X (.builtin "isinstance") (fun xs H Q=>∃x t b,xs=[x,cv]/\pA X.K H x t/\PySem.W.kitOne X.K t c=some b/\Q (.bl b) H):=by
 intro pins s σ H xs us Q I r h;obtain ⟨x,t,b,rfl,ty,e,q⟩:=h;obtain ⟨u,w',rfl,r1,r2⟩:=vals2 r
 have:w'=c:=by
  cases cv with
  | non=>exact (show w'=Value.none from r2).trans (show c=Value.none from rc).symm
  | bl b=>exact (show w'=Value.bool b from r2).trans (show c=Value.bool b from rc).symm
  | ref a=>exact (show w'=Value.ref a from r2).trans (show c=Value.ref a from rc).symm
  | ty n=>exact (show w'=Value.type n from r2).trans (show c=Value.type n from rc).symm
  | int i=>obtain ⟨t1,rfl⟩:=(show ∃t,c=Value.int i t from rc);unfold PySem.W.kitOne at e;exact absurd e (by cases ty<;>simp [PySem.W.kitCls])
  | str i=>obtain ⟨t1,rfl⟩:=(show ∃t,c=Value.str i t from rc);unfold PySem.W.kitOne at e;exact absurd e (by cases ty<;>simp [PySem.W.kitCls])
  | Ci i=>obtain ⟨t1,rfl⟩:=(show ∃t,c=Value.bytes i t from rc);unfold PySem.W.kitOne at e;exact absurd e (by cases ty<;>simp [PySem.W.kitCls])
  | flt i=>obtain ⟨t1,rfl⟩:=(show ∃t,c=Value.float i t from rc);unfold PySem.W.kitOne at e;exact absurd e (by cases ty<;>simp [PySem.W.kitCls])
 subst this;exact Fy I r1 ty e fun tk=>⟨.bl b,H,I.tok _,rfl,q⟩
end
section
variable {prog:Program} {w:World} {A:Around}
theorem z8 (hh:A.handled=none) (it a:Addr) (hne:it≠a) (its:List Value):Walks prog w A it [it,a] [it] its.length (fun i v=>its[i]? = some v) (fun i h=>h.IsListIter it a i/\h.IsList a its.toArray) where
 sub:=by simp
 frame:=fun i h h' ⟨s1,o,ho,hc⟩ k=>⟨s1.at fun o e=>k it (by simp) o e,o,k a (by simp) o ho,hc⟩
 item:=fun i s Q E hi ⟨s1,s2⟩ hQ=>wpAny_pyNext_list_item s1 s2 (x:=its[i]) (by simp [hi]) fun h' st' sb=>
  hQ _ h' s.toks (by simp [hi]) ⟨st',s2.extBut sb.extBut hne.symm⟩ fun b o hb e=>(sb.2 b (by simpa using hb)).trans e
 done:=fun s Q E ⟨s1,s2⟩ hQ=>wpAny_pyNext_list_end hh s1 s2 (by simp) fun h' eb=>hQ h' s.toks fun b o hb e=>eb b o (by simpa using hb) e
 self:=fun i s Q E ⟨s1,_⟩ hQ=>wpAny_pyIter_listiter s1 hQ
end
section
variable {X:Cx}
theorem uP (bs:List Bool):(List.range bs.length).all (fun i=>(bs[i]?).getD false)=bs.all id:=by
 rw [Bool.eq_iff_iff,List.all_eq_true,List.all_eq_true];constructor
 ·intro h b hb
  obtain ⟨i,hi,rfl⟩:=List.getElem_of_mem hb;have:=h i (by simpa using hi);simpa [hi] using this
 ·intro h i hi
  have hi':i<bs.length:=by simpa using hi
  simpa [hi'] using h bs[i] (List.getElem_mem hi')
theorem z_ {bs:List Bool}:∀{us:List Value},Vals (bs.map V.bl) us->us=bs.map Value.bool:=by
 induction bs with
 | nil=>intro us r;cases r;rfl
 | cons b bs ih=>
   intro us r;cases r with
   | cons r rs=>cases (show _=Value.bool b from r);rw [ih rs];rfl
theorem uo (hc:X.calm=true):gq X (.builtin "all") (fun xs H Q=>∃(p:Addr) (bs:List Bool),xs=[.ref p]/\bf X.K H p (bs.map V.bl)/\Q (.bl (bs.all id)) H):=by
 intro pins s σ H xs us Q I r h;obtain ⟨p,bs,rfl,hq,q⟩:=h;obtain ⟨u,rfl,rx⟩:=vals1 r;cases rx;obtain ⟨its,rv,pl,hz⟩:=I.list hq;have e:=z_ rv;have hlen:its.length=bs.length:=by rw [e,List.length_map]
 refine call_all_walk (wpAny_pyIter_list pl.isList ⟨s.heap.objs.size,[s.heap.objs.size,p],[s.heap.objs.size],its.length,_,_,fun i=>(bs[i]?).getD false,rfl,
  z8 (show X.A.in1.handled=none from I.ok.hd hc) s.heap.objs.size p ?_ its,⟨⟨_,Heap.get?_push_size _ rfl,rfl,rfl⟩, ?_⟩, ?_, ?_⟩)
 ·intro z
  obtain ⟨o,ho,_⟩:=pl.isList;have:=Heap.lt_size ho;rw [←z] at this;exact Nat.lt_irrefl _ this
 ·obtain ⟨o,ho,hcl⟩:=pl.isList
  exact ⟨o,Heap.get?_push_of_some _ ho,hcl⟩
 ·intro i v s1 Q1 E1 hP hQ
  rw [e,List.getElem?_map] at hP;cases r:bs[i]? with
  | none=>rw [r] at hP;cases hP
  | some b=>
    rw [r] at hP;cases hP;simp only [r,Option.getD_some] at hQ;exact wpAny_truthy_bool hQ
 ·intro h' tk k
  rw [hlen,uP];have f:=I.zf (H':=H) (b:=s.heap.objs.size) (Nat.le_refl _) (I.hok.fresh (Nat.le_refl _));have I2:Inv X pins σ H {s with heap:=h',toks:=tk}:=I.turned (h':=h') (t':=tk) (it:=s.heap.objs.size) (fun b o hb e=>k b o (by simpa using hb) (Heap.get?_push_of_some _ e)) f.1 f.2.1 f.2.2.2.1 f.2.2.2.2.1 f.2.2.2.2.2;exact ⟨.bl _,H,I2,rfl,q⟩
end
end L2
set_option Elab.async false
set_option linter.all false
set_option maxRecDepth 100000
set_option maxHeartbeats 4000000
namespace L2
open PySem PySem.Spec PyProof.Rows
def FnAt (P:Program) (w:World) (K:PySem.W.Frag) (mg:Str->Option Value) (base:Heap) (k:Nat) (x:Str) (ps:List Str) (sp:Sp):Prop:=
 ∃f fd,cJ P w K mg base jf k f fd ps sp/\mg x=some (.ref f)/\PySem.W.keepIn K (.ref f)=true/\Binds K fd ps []
section
variable {X:Cx} {k j:Nat} {x:Str} {ps:List Str} {sp:Sp} {e:Expr} {es:List Expr} {t:TA} {p pos:Pos}
theorem bF (F:FnAt X.prog X.w X.K X.mg X.base k x ps sp) (hr:dj k X.A) (hg:Gl X x) (ha:PA X (e::es) t) (hd:(x==("__debug__" :Str))=false:=by decide)
 (he:starEach (e::es) X.env=(false,eval e X.env)::starEach es X.env:=by rfl) (hpl:(backTo pos (starEach es X.env)).any (·.1)=false:=by rfl):
 PE X (.Call (.Name x p) (e::es) [] pos) (N8 sp [] E0 t):=by
 obtain ⟨f,fd,G,hm,hk,hb⟩:=F;exact Lx G hr hg hm hk hb .nil Dq ha (hdb:=hd) (he:=he) (hpl:=hpl)
end
theorem JV:bootBuiltins "all" = some (.builtin "all"):=by kernel_rfl
theorem dU:bootBuiltins "len" = some (.builtin "len"):=by kernel_rfl
theorem JR:bootBuiltins "max" = some (.builtin "max"):=by kernel_rfl
theorem mF:bootBuiltins "sorted" = some (.builtin "sorted"):=by kernel_rfl
theorem cA:bootBuiltins "isinstance" = some (.builtin "isinstance"):=by kernel_rfl
theorem JT:bootBuiltins "int" = some (.type "int"):=by kernel_rfl
theorem Ed:bootBuiltins "bool" = some (.type "bool"):=by kernel_rfl
theorem oY:bootBuiltins "list" = some (.type "list"):=by kernel_rfl
theorem uq:bootBuiltins "tuple" = some (.type "tuple"):=by kernel_rfl
theorem jT:bootBuiltins "str" = some (.type "str"):=by kernel_rfl
section
variable {X:Cx}
end
def Kp (r:Addr) (H H':Hp):Prop:=∀b o,H b=some o->b≠r->H' b=some o
theorem Kp.of_same {r:Addr} {H H':Hp} (h:Same H H'):Kp r H H':=fun b o e _=>h b o e
theorem Kp.trans {r:Addr} {H H1 H2:Hp} (a:Kp r H H1) (b:Kp r H1 H2):Kp r H H2:=fun c o h n=>b c o (a c o h n) n
theorem Kp.refl (r:Addr) (H:Hp):Kp r H H:=fun _ _ h _=>h
theorem Kp.set {r:Addr} {H:Hp} {o:HO}:Kp r H (upd H r o):=fun b u e n=>by rw [aQ n];exact e
theorem aF {H:Hp} {p:Addr} {o:HO} (h:H p=none):Same H (upd H p o):=fun b u e=>by rw [aQ (au e h)];exact e
theorem Same.tups {H H':Hp} (e:Same H H'):∀a xs,H a=some (HO.tup xs)->H' a=some (HO.tup xs):=fun a xs h=>e _ _ h
theorem Same.Vw {K:PySem.W.Frag} {H H':Hp} (e:Same H H'):∀a xs,bf K H a xs->bf K H' a xs:=fun a xs h=>e.seq h
theorem Kp.tups {H H':Hp} {r:Addr} {ys:List V} (e:Kp r H H') (hr:H r=some (.lst ys)):∀a xs,H a=some (HO.tup xs)->H' a=some (HO.tup xs):=fun a xs h=>e _ _ h (qz h hr (by intro z;cases z))
end L2
namespace L2
open PySem PySem.Spec PyProof.Rows
section
variable {X:Cx} {K:PySem.W.Frag}
theorem aL (h:X.K=K):GC X (Py K):=by subst h;exact Dz
theorem bA (h:X.K=K):GC X (wk K):=by subst h;exact Jm
theorem Dy (h:X.K=K):GC X (rIx K):=by subst h;exact QC
theorem Hs (h:X.K=K):Vc X (Sg K):=by subst h;exact KJ
theorem C_ (h:X.K=K):Vc X (Sd K):=by subst h;exact Pn
def Ss (K:PySem.W.Frag):List V->Hp->VK->Prop:=fun xs H Q=>∃(p:Addr) (ys:List V),xs=[.ref p]/\(bf K H p ys\/dZ K H p ys)/\Q (.int ys.length) H
theorem aV (h:X.K=K):gq X (.builtin "len") (Ss K):=by subst h;exact wZ
def K6 (K:PySem.W.Frag):List V->Hp->VK->Prop:=fun xs H Q=>∃(p:Addr) (ys:List V),xs=[.ref p]/\(bf K H p ys\/dZ K H p ys) /\ ∀l,H l=none->Q (.ref l) (upd H l (.lst ys))
theorem m6 (h:X.K=K):gq X (.type "list") (K6 K):=by subst h;exact wY
def Sy (K:PySem.W.Frag):List V->Hp->VK->Prop:=fun xs H Q=>∃(p:Addr) (bs:List Bool),xs=[.ref p]/\bf K H p (bs.map V.bl)/\Q (.bl (bs.all id)) H
theorem jY (h:X.K=K) (hc:X.calm=true):gq X (.builtin "all") (Sy K):=by subst h;exact uo hc
theorem LC (h:X.K=K) (hu:X.A.units+64<cLine):nQ X (compareOp .Eq) (Sx false):=by subst h;exact Qd hu
theorem eV {tg l:Expr} {tl:TE} (h:X.K=K) (hl:PE X l tl):PI X tg l (Oq K tl):=by subst h;exact Lk hl
theorem Lj {tg l:Expr} {tl:TE} (h:X.K=K) (hl:PE X l tl):PI X tg l (Tv K tl):=by subst h;exact PK hl
def XQ (K:PySem.W.Frag) (c:Value) (cv:V):List V->Hp->VK->Prop:=fun xs H Q=>∃x t b,xs=[x,cv]/\pA K H x t/\PySem.W.kitOne K t c=some b/\Q (.bl b) H
theorem fH {c:Value} {cv:V} (h:X.K=K) (rc:RelV cv c):gq X (.builtin "isinstance") (XQ K c cv):=by subst h;exact JQ rc
theorem dg {o e:Expr} {to:TE} {t:TA} {apos cpos:Pos} (h:X.K=K) (ho:PE X o to) (ha:PA X [e] t)
 (hbase:attributeBase o "append" X.env (eval o X.env)=eval o X.env:=by rfl)
 (hfew:((backTo cpos (starEach [e] X.env)).all (fun x=> !x.1)&&(backToKw cpos (keywordEach [] X.env)).all (fun x=>x.1.isSome)
   && decide (([e]:List Expr).length+([]:List Keyword).length+(if ([]:List Keyword).isEmpty then 0 else 1)<30))=true:=by rfl)
 (hline:(apos.endLine==cpos.line)=true:=by rfl) (hs:starEach [e] X.env=(false,eval e X.env)::starEach [] X.env:=by rfl) (hplain:(backTo cpos (starEach [] X.env)).any (·.1)=false:=by rfl):
 PE X (.Call (.Attribute o "append" apos) [e] [] cpos) (Xb K "list" Di to t):=by
 subst h;exact Oe PySem.F.plainAttrs_list PySem.F.slot_list_append PySem.F.type_list_append vm ho ha hbase hfew hline hs hplain
end
end L2
namespace L2
open PySem
section
variable {K:PySem.W.Frag} {a D:Addr} {xs:List V} {g:TG} {tc:TT} {te:TE} {Q:VK} {σ0:St} {H1:Hp}
theorem qe (Pv:Nat->St->Hp->Prop) (h0:Pv 0 σ0 (upd H1 D (.lst []))) (hl:∀i σ H,i<=xs.length->Pv i σ H->bf K H a xs)
 (hs:∀i x σ H,xs[i]? = some x->Pv i σ H->g x σ H fun σ2 H2=>tc σ2 H2 fun b H3=>
   if b=true then te σ2 H3 fun y H4=>∃acc,H4 D=some (.lst acc)/\acc.length<sizeLine/\Pv (i+1) σ2 (upd H4 D (.lst (acc++[y]))) else Pv (i+1) σ2 H3)
 (hd:∀σ H,Pv xs.length σ H->Q (.ref D) H):m7 (O5 K a) g tc te Q D σ0 H1:=by
 refine ⟨fun i m σ H=>m=xs.length - i/\i<=xs.length/\Pv i σ H,⟨xs.length,by simp,Nat.zero_le _,h0⟩, ?_⟩;rintro i m σ H ⟨rfl,hi,p⟩;have q:=hl i σ H hi p
 by_cases hlt:i<xs.length
 ·refine .inr ⟨⟨xs,xs[i],q,by simp [hlt]⟩,Pv (i+1),fun σ' H' p'=>⟨xs.length - (i+1),by omega,rfl,hlt,p'⟩,fun x H' y=> ?_⟩
  obtain ⟨e,y⟩:=y;subst e;exact hs i x σ _ (y xs q) p
 ·have e:i=xs.length:=by omega
  subst e;exact .inl ⟨⟨xs,q,Nat.le_refl _⟩,hd σ H p⟩
theorem JL (Pv:Nat->St->Hp->Prop) (h0:Pv 0 σ0 (upd H1 D (.lst []))) (hl:∀i σ H,i<=xs.length->Pv i σ H->dZ K H a xs)
 (hs:∀i x σ H,xs[i]? = some x->Pv i σ H->g x σ H fun σ2 H2=>tc σ2 H2 fun b H3=>
   if b=true then te σ2 H3 fun y H4=>∃acc,H4 D=some (.lst acc)/\acc.length<sizeLine/\Pv (i+1) σ2 (upd H4 D (.lst (acc++[y]))) else Pv (i+1) σ2 H3)
 (hd:∀σ H,Pv xs.length σ H->Q (.ref D) H):m7 (WQ K a) g tc te Q D σ0 H1:=by
 refine ⟨fun i m σ H=>m=xs.length - i/\i<=xs.length/\Pv i σ H,⟨xs.length,by simp,Nat.zero_le _,h0⟩, ?_⟩;rintro i m σ H ⟨rfl,hi,p⟩;have q:=hl i σ H hi p
 by_cases hlt:i<xs.length
 ·refine .inr ⟨⟨xs,xs[i],q,by simp [hlt]⟩,Pv (i+1),fun σ' H' p'=>⟨xs.length - (i+1),by omega,rfl,hlt,p'⟩,fun x H' y=> ?_⟩
  obtain ⟨e,y⟩:=y;subst e;exact hs i x σ _ (y xs q) p
 ·have e:i=xs.length:=by omega
  subst e;exact .inl ⟨⟨xs,q,Nat.le_refl _⟩,hd σ H p⟩
theorem iU {lo:Int} {n:Nat} (Pv:Nat->St->Hp->Prop) (h0:Pv 0 σ0 (upd H1 D (.lst [])))
 (hs:∀i σ H,i<n->Pv i σ H->g (.int (lo+i)) σ H fun σ2 H2=>tc σ2 H2 fun b H3=>
   if b=true then te σ2 H3 fun y H4=>∃acc,H4 D=some (.lst acc)/\acc.length<sizeLine/\Pv (i+1) σ2 (upd H4 D (.lst (acc++[y]))) else Pv (i+1) σ2 H3)
 (hd:∀σ H,Pv n σ H->Q (.ref D) H):m7 (O4 lo n) g tc te Q D σ0 H1:=by
 refine ⟨fun i m σ H=>m=n - i/\i<=n/\Pv i σ H,⟨n,by simp,Nat.zero_le _,h0⟩, ?_⟩;rintro i m σ H ⟨rfl,hi,p⟩
 by_cases hlt:i<n
 ·refine .inr ⟨hlt,Pv (i+1),fun σ' H' p'=>⟨n - (i+1),by omega,rfl,hlt,p'⟩,fun x H' y=> ?_⟩
  obtain ⟨e,y⟩:=y;subst e y;exact hs i σ _ hlt p
 ·have e:i=n:=by omega
  subst e;exact .inl ⟨Nat.le_refl _,hd σ H p⟩
end
end L2
set_option Elab.async false
set_option linter.all false
set_option maxRecDepth 100000
set_option maxHeartbeats 4000000
namespace L2
open PySem PySem.Spec PyProof.Rows
section
variable {α:Type} (f:α->PyData)
theorem um:∀(l:List α),(∀x∈l,(f x).canLay0=true)->PyData.canLayAll0 (l.map f)=true
 | [],_=>rfl
 | a::l,h=>by
   show (PyData.canLay0 (f a)&&PyData.canLayAll0 (l.map f))=true;rw [h a List.mem_cons_self,um l fun x hx=>h x (List.mem_cons_of_mem _ hx)];rfl
theorem oX (k:Nat):∀(l:List α),(∀x∈l,(f x).depth<=k)->PyData.depthAll (l.map f)<=k
 | [],_=>Nat.zero_le _
 | a::l,h=>by
   show max (PyData.depth (f a)) (PyData.depthAll (l.map f))<=k;exact Nat.max_le.mpr ⟨h a List.mem_cons_self,oX k l fun x hx=>h x (List.mem_cons_of_mem _ hx)⟩
theorem qx {l:List α} (k:Nat) (hk:k<64) (h1:∀x∈l,(f x).canLay0=true) (h2:∀x∈l,(f x).depth<=k):SeqAt.shaped (.list (l.map f))=true:=by
 unfold SeqAt.shaped;have e1:PyData.canLay0 (.list (l.map f))=true:=um f l h1
 have e2:PyData.depth (.list (l.map f))<=64:=by
  show PyData.depthAll (l.map f)+1<=64;have:=oX f k l h2;omega
 rw [e1,decide_eq_true e2];rfl
end
theorem fY {H:Hp} {a:Addr} {vs:List V} {ds:List PyData} (h:H a=some (.lst vs)) (d:aJ H vs ds):Dat H (.ref a) (.list ds):=by
 simp only [Dat];exact ⟨a,vs,rfl,h,d⟩
theorem qG (K:PySem.W.Frag):PySem.W.kitOne K (.type "int") (.type "int")=some true:=rfl
theorem oU (K:PySem.W.Frag):PySem.W.kitOne K (.type "int") (.type "bool")=some false:=by kernel_rfl
theorem mZ (K:PySem.W.Frag):PySem.W.kitOne K (.type "list") (.type "list")=some true:=rfl
theorem jW (K:PySem.W.Frag):PySem.W.kitOne K (.type "tuple") (.type "tuple")=some true:=rfl
end L2
namespace L2
open PySem
theorem zB (xs:List V) (k:Nat):j6 xs none (some (k:Int))=xs.take k:=by
 unfold j6;rw [HT.yg,HT.Df,List.drop_zero,Nat.sub_zero]
 by_cases h:k<=xs.length
 ·rw [Nat.min_eq_left h]
 ·rw [Nat.min_eq_right (by omega),List.take_of_length_le (Nat.le_refl _),List.take_of_length_le (by omega)]
theorem JG (xs:List V) (k:Nat):j6 xs (some (k:Int)) none=xs.drop k:=by
 unfold j6;rw [HT.yg,HT.Df]
 by_cases h:k<=xs.length
 ·rw [Nat.min_eq_left h,List.take_of_length_le (by rw [List.length_drop];exact Nat.le_refl _)]
 ·rw [Nat.min_eq_right (by omega),Nat.sub_self,List.take_zero,List.drop_of_length_le (by omega)]
end L2
set_option Elab.async false
set_option linter.all false
set_option maxRecDepth 100000
set_option maxHeartbeats 4000000
namespace PySem.W
open PySem PySem.Spec PySem.Calls PyProof.Rows
section
variable {prog:Program} {w:World} {A:Around} {E:Value->Shared->Prop} {s:Shared} {K:Frag} {x D:Addr} {ox:Obj} {odo:Option Obj} {name:Str}
end
end PySem.W
set_option Elab.async false
set_option linter.all false
set_option maxRecDepth 100000
set_option maxHeartbeats 4000000
namespace L2
open PySem PySem.Spec PyProof.Rows
section
variable {M:Model} {A:Around} {E:Value->Shared->Prop} {s:Shared} {base:Heap} {env:Env} {outer:List Env} {L e:Addr}
end
section
variable {X:Cx} {pins:List (Addr×Obj)} {σ:St} {H:Hp} {s:Shared} {e:Addr}
end
end L2
set_option Elab.async false
set_option linter.all false
set_option maxRecDepth 100000
set_option maxHeartbeats 4000000
namespace L2
open PySem PySem.Spec PyProof.Rows
section
variable {X:Cx} {k:Nat} {x:Str} {ps:List Str} {sp:Sp} {e:Expr} {es:List Expr} {t:TA} {p pos:Pos} {E:St->XK}
end
section
variable {P:Program} {w:World} {K:PySem.W.Frag} {mg:Str->Option Value} {base:Heap}
end
section
variable {X:Cx} {E:St->XK} {x:Str} {C:Addr} {B newId initId:String} {bmB:List Value} {e0:Expr} {rest:List Expr} {ta:TA} {np cpos pos:Pos}
end
section
variable {X:Cx} {pins:List (Addr×Obj)} {σ:St} {H:Hp} {s:Shared}
end
section
variable {M:Model} {A:Around} {Er:Value->Shared->Prop} {s:Shared} {K:PySem.W.Frag} {e C D:Addr}
end
end L2
set_option Elab.async false
set_option linter.all false
set_option maxRecDepth 100000
set_option maxHeartbeats 4000000
namespace L2
open PySem PySem.Spec PyProof.Rows
section
variable {X:Cx} {pins:List (Addr×Obj)} {σ:St} {H:Hp} {s:Shared}
end
section
variable {X:Cx} {body suite:List Stmt} {b0:Stmt} {n cn:Str} {i:Nat} {Dc:Addr} {tb:(St->XK)->TS} {th:TS} {cp hpos pos:Pos}
end
section
variable {X:Cx} {K:PySem.W.Frag}
end
end L2
set_option Elab.async false
set_option linter.all false
set_option maxRecDepth 100000
set_option maxHeartbeats 4000000
namespace L2
open PySem PySem.Spec PyProof.Rows
section
variable {X:Cx} {K:PySem.W.Frag}
end
end L2
namespace L2
open PySem
end L2
set_option Elab.async false
set_option linter.all false
set_option maxRecDepth 100000
set_option maxHeartbeats 4000000
namespace L2
open PySem PySem.Spec PyProof.Rows
section
variable {X:Cx} {pins:List (Addr×Obj)} {σ:St} {H:Hp} {s:Shared} {h':Heap}
theorem Inv.CJ {t':Nat} {fp:List Addr} (I:Inv X pins σ H s) (hf:∀b∈fp,nM X pins H b) (k:∀b o,b∉fp->s.heap.get? b=some o->h'.get? b=some o):Inv X pins σ H {s with heap:=h',toks:=t'}:=by
 have Ql:∀b u,H b=some u->b∉fp:=fun b u e z=>by rw [(hf b z).1] at e;cases e
 refine I.step (g':=s.gens) (d':=s.drawn) (ch:=fp) (fun b hb=> ?_) (fun b o _ _ hc e _=>k b o hc e) (fun b o _ _ hc e _=>⟨o.slots,k b o hc e⟩) (fun _ _ _ _ n=>n)
  (fun b o hc e=>⟨o,k b o hc e⟩) (fun _ _ e=>e) (fun _ _ _ e=>e) (fun b ps e=>⟨#[],by rw [e];simp⟩) (fun m hm=> ?_) (fun b u e=> ?_) I.bare
 ·obtain ⟨f0,f1,f2,f3,f4,f5⟩:=hf b hb
  exact ⟨f3,f1,f4,f5⟩
 ·obtain ⟨o,es,ep,ho,r⟩:=hm
  exact ⟨o,es,ep,k _ o (fun z=>(hf _ z).2.1 rfl) ho,r⟩
 ·refine (I.hok b u e).stay (fun c v hc q=>k c v ?_ q) (fun _ q=>q) fun _ _ q=>q
  rcases hc with z|z
  ·rw [z];exact Ql b u e
  ·exact Ql c _ z
theorem nM.upd {b p:Addr} {o:HO} (h:nM X pins H b) (n:b≠p):nM X pins (upd H p o) b:=by
 obtain ⟨f0,r⟩:=h;exact ⟨by rw [aQ n];exact f0,r⟩
theorem Jw {h:Heap} {o u:Obj} {b:Addr} (ho:o.isFreed=false) (e:(h.push o).get? b=some u):(b=h.objs.size/\u=o)\/h.get? b=some u:=by
 by_cases hb:b=h.objs.size
 ·subst hb
  rw [Heap.get?_push_size _ ho] at e;exact .inl ⟨rfl,(Option.some.inj e).symm⟩
 ·refine .inr ?_
  have lt:=Heap.lt_size e
  have VN:b<h.objs.size:=by
   have:(h.push o).objs.size=h.objs.size+1:=by simp [Heap.push]
   rw [this] at lt;exact Nat.lt_of_le_of_ne (Nat.le_of_lt_succ lt) hb
  have:(h.push o).get? b=h.get? b:=by
   simp only [Heap.get?,Heap.push];rw [Array.getElem?_push_lt VN,Array.getElem?_eq_getElem VN]
  rw [←this];exact e
end
section
variable {X:Cx}
end
def WM (K:PySem.W.Frag) (l1 l2:Addr):It:=
 ⟨fun i H=>∃xs ys x y,bf K H l1 xs/\bf K H l2 ys/\xs[i]? = some x/\ys[i]? = some y,
  fun i H x H'=>∃(p:Addr) (y z:V),x = .ref p/\H p=none/\(∀xs,bf K H l1 xs->xs[i]? = some y)/\(∀ys,bf K H l2 ys->ys[i]? = some z)/\H'=upd H p (.tup [y,z]),
  fun i H=>∃xs ys,bf K H l1 xs/\bf K H l2 ys/\(xs.length<=i\/ys.length<=i)⟩
theorem G6 {P:Program} {w:World} {K:PySem.W.Frag} {elts:List Expr} {x1:Nat} {pos:Pos} (z TI TO i1 i2 l1 l2:Addr) (ap:ZipApart z TI TO i1 i2 l1 l2):Turn P w K (.Tuple elts x1 pos) (WM K l1 l2) [z,TI,TO,i1,i2] z
 (fun i h=>IsZip h z TI TO .none/\IsPair h TI (.ref i1) (.ref i2)/\(∃a b,IsPair h TO a b)/\h.IsListIter i1 l1 i/\h.IsListIter i2 l2 i) where
 mem:=by simp
 obj:=fun i h st b hb=>by
  obtain ⟨hz,hTI,⟨a,c,hTO⟩,⟨o1,h1,c1,d1⟩,⟨o2,h2,c2,d2⟩⟩:=st;have hb':b=z\/b=TI\/b=TO\/b=i1\/b=i2:=by simpa using hb
  rcases hb' with rfl|rfl|rfl|rfl|rfl
  ·exact ⟨_,hz,fun v z=>by cases z⟩
  ·exact ⟨_,hTI,fun v z=>by cases z⟩
  ·exact ⟨_,hTO,fun v z=>by cases z⟩
  ·exact ⟨_,h1,fun v z=>by rw [d1] at z;cases z⟩
  ·exact ⟨_,h2,fun v z=>by rw [d2] at z;cases z⟩
 keep:=fun i h h' st k=>by
  obtain ⟨hz,hTI,⟨a,c,hTO⟩,⟨o1,h1,c1,d1⟩,⟨o2,h2,c2,d2⟩⟩:=st;exact ⟨k z (by simp) _ hz,k TI (by simp) _ hTI,⟨a,c,k TO (by simp) _ hTO⟩,⟨o1,k i1 (by simp) _ h1,c1,d1⟩,⟨o2,k i2 (by simp) _ h2,c2,d2⟩⟩
 item:=by
  intro X hP hw hK hc i pins s σ H E I hf st hg;subst hP hw hK;obtain ⟨xs,ys,x,y,hq1,hq2,hx,hy⟩:=hg;obtain ⟨Tq,Vz,p1,hz1⟩:=I.list hq1;obtain ⟨its2,Vy,p2,hz2⟩:=I.list hq2;obtain ⟨u1,hu1,ru1⟩:=Vz.get hx;obtain ⟨u2,hu2,ru2⟩:=Vy.get hy;obtain ⟨hz,hTI,⟨a,c,hTO⟩,hi1,hi2⟩:=st;have zlt:=Heap.lt_size hz;have acz:=Heap.lt_size hTI;have acy:=Heap.lt_size hTO;have aaD:i1<s.heap.objs.size:=by obtain ⟨o,ho,_⟩:=id hi1;exact Heap.lt_size ho
  have aaC:i2<s.heap.objs.size:=by obtain ⟨o,ho,_⟩:=id hi2;exact Heap.lt_size ho
  refine wpAny_pyNext_zip_item ap hz hTI hTO hi1 hi2 p1.isList p2.isList (x:=u1) (y:=u2) (by simpa using hu1) (by simpa using hu2) fun h' hz' aaL aaJ hi2' hnew hsz hk=> ?_;refine ⟨_,rfl, ?_⟩;refine wpAny_letOwnedTupleGo_zip hz' fun h2 aaE sb=> ?_;have hfr:H s.heap.objs.size=none:=I.hok.fresh (Nat.le_refl _)
  have I0:Inv X pins σ (upd H s.heap.objs.size (.tup [x,y])) {s with heap:=s.heap.push {cls:= .type "tuple",data:= .seq #[u1,u2]}}:=
   I.laid (t':=s.toks) (fun b u e=>Heap.get?_push_of_some _ e) (Nat.le_refl _) ⟨by show 2<=sizeLine;decide,[u1,u2],.cons ru1 (.cons ru2 .nil),⟨_,Heap.get?_push_size _ rfl,rfl,_,rfl⟩⟩
  have hf0:∀b∈[z,TI,TO,i1,i2],nM X pins (upd H s.heap.objs.size (.tup [x,y])) b:=fun b hb=>by
   refine (hf b hb).upd ?_;have hb':b=z\/b=TI\/b=TO\/b=i1\/b=i2:=by simpa using hb
   rcases hb' with rfl|rfl|rfl|rfl|rfl
   ·exact Nat.ne_of_lt zlt
   ·exact Nat.ne_of_lt acz
   ·exact Nat.ne_of_lt acy
   ·exact Nat.ne_of_lt aaD
   ·exact Nat.ne_of_lt aaC
  have I1:=I0.CJ (h':=h2) (t':=s.toks) hf0 (fun b o hb eb=>by
   have b1:b≠z:=fun e=>hb (by simp [e]);have b2:b≠TO:=fun e=>hb (by simp [e]);have b3:b≠i1:=fun e=>hb (by simp [e]);have b4:b≠i2:=fun e=>hb (by simp [e]);rw [sb.2 b b1];rcases Jw rfl eb with ⟨rfl,rfl⟩|eb
   ·exact hnew
   ·exact hk b o b1 b2 b3 b4 eb)
  refine ⟨.ref s.heap.objs.size,_,I1,rfl,⟨s.heap.objs.size,x,y,rfl,hfr,fun ys hy=>by rw [I.tL hy hq1];exact hx,fun ys' hy'=>by rw [I.tL hy' hq2];exact hy,rfl⟩, ?_,fun b hb=>(hf0 b hb).1⟩;obtain ⟨o1,ho1,c1,d1⟩:=aaJ;obtain ⟨o2,ho2,c2,d2⟩:=hi2';exact ⟨aaE,(sb.2 TI ap.TIz).trans (hk TI _ ap.TIz ap.TITO ap.TIi1 ap.TIi2 hTI),⟨_,_,(sb.2 TO ap.TOz).trans aaL⟩,⟨o1,(sb.2 i1 ap.i1z).trans ho1,c1,d1⟩,⟨o2,(sb.2 i2 ap.i2z).trans ho2,c2,d2⟩⟩
 done:=by
  intro X hP hw hK hc i pins s σ H E I hf st hg;subst hP hw hK;obtain ⟨xs,ys,hq1,hq2,hx⟩:=hg;obtain ⟨Tq,Vz,p1,hz1⟩:=I.list hq1;obtain ⟨its2,Vy,p2,hz2⟩:=I.list hq2;obtain ⟨hz,hTI,⟨a,c,hTO⟩,hi1,hi2⟩:=st;have hl1:=Vz.length;have hl2:=Vy.length;refine wpAny_pyNext_zip_end (I.ok.hd hc) ap hz hTI hTO hi1 hi2 p1.isList p2.isList ?_ fun h' eb=>⟨rfl,I.CJ (t':=s.toks) hf (fun b o hb e=>eb b o (fun z=>hb (by simp [z])) (fun z=>hb (by simp [z])) (fun z=>hb (by simp [z])) (fun z=>hb (by simp [z])) e)⟩;rcases hx with hx|hx
  ·exact .inl (by simp;omega)
  ·exact .inr (by simp;omega)
 self:=fun _ _ _ _ _ st h=>wpAny_pyIter_zip st.1 h
section
variable {X:Cx}
def aaB (K:PySem.W.Frag) (ta:TA):TI:=fun σ H R=>ta σ H fun vs H1=>∃l1 l2 xs ys,vs=[.ref l1,.ref l2]/\bf K H1 l1 xs/\bf K H1 l2 ys/\R (WM K l1 l2) H1
theorem Li {K:PySem.W.Frag} {a b:Expr} {ta:TA} {p pos:Pos} {elts:List Expr} {x1:Nat} {tpos:Pos} (hK:X.K=K) (hg:Gl X "zip") (hm:X.mg "zip" = none) (ha:PA X [a,b] ta) (hs:starEach [a,b] X.env=[(false,eval a X.env),(false,eval b X.env)]:=by rfl) (hs2:starEach [b] X.env=[(false,eval b X.env)]:=by rfl):PI X (.Tuple elts x1 tpos) (.Call (.Name "zip" p) [a,b] [] pos) (aaB K ta):=by
 subst hK;intro pins s σ H R I h;refine Call_ (pW I hg hm boot_zip (PyProof.Rows.callWith_type1 (cU (ha pos pins s σ H _ I h) fun us s1 ⟨vs,H1,I1,r1,q1⟩=> ?_) (by rw [hs,hs2]) (by rw [hs2];rfl)));obtain ⟨l1,l2,xs,ys,e,hq1,hq2,q⟩:=q1;subst e;cases r1 with
 | cons r rr=>
   cases rr with
   | cons r' rr=>
     cases rr;cases r;cases r';obtain ⟨Tq,Vz,oM,hz1⟩:=I1.list hq1;obtain ⟨its2,Vy,pl2,hz2⟩:=I1.list hq2;have lt1:l1<s1.heap.objs.size:=by obtain ⟨o,ho,_⟩:=oM.isList;exact Heap.lt_size ho
     have VN:l2<s1.heap.objs.size:=by obtain ⟨o,ho,_⟩:=pl2.isList;exact Heap.lt_size ho
     refine call_zip_2 oM.isList pl2.isList fun h' hZ hTI hTO hi1 hi2 hsz hk=> ?_;refine wpAny_pyIter_zip hZ ?_;have I2:Inv X pins σ H1 {s1 with heap:=h'}:=I1.kept (t':=s1.toks) hk;refine ⟨s1.heap.objs.size+4,[s1.heap.objs.size+4,s1.heap.objs.size+2,s1.heap.objs.size+3,s1.heap.objs.size,s1.heap.objs.size+1],_,_,H1,rfl,I2,G6 _ _ _ _ _ l1 l2 (zipApart_new lt1 VN),⟨hZ,hTI,⟨_,_,hTO⟩,hi1,hi2⟩,fun b hb=> ?_,q⟩
     have hb':s1.heap.objs.size<=b:=by
      have:b=s1.heap.objs.size+4\/b=s1.heap.objs.size+2\/b=s1.heap.objs.size+3\/b=s1.heap.objs.size\/b=s1.heap.objs.size+1:=by simpa using hb
      rcases this with rfl|rfl|rfl|rfl|rfl
      ·exact Nat.le_add_right _ _
      ·exact Nat.le_add_right _ _
      ·exact Nat.le_add_right _ _
      ·exact Nat.le_refl _
      ·exact Nat.le_add_right _ _
     exact I1.zf hb' (I1.hok.fresh hb')
end
end L2
set_option Elab.async false
set_option linter.all false
set_option maxRecDepth 100000
set_option maxHeartbeats 4000000
namespace L2
open PySem PySem.Spec PyProof.Rows
section
variable {K:PySem.W.Frag} {a l1 l2 D:Addr} {xs ys:List V} {g:TG} {tc:TT} {te:TE} {Q:VK} {σ0:St} {H1:Hp}
theorem JK {n:Nat} (hn1:xs.length=n) (hn2:ys.length=n) (Pv:Nat->St->Hp->Prop) (h0:Pv 0 σ0 (upd H1 D (.lst []))) (hl:∀i σ H,i<=n->Pv i σ H->bf K H l1 xs/\bf K H l2 ys)
 (hs:∀i x y σ H p,xs[i]? = some x->ys[i]? = some y->Pv i σ H->H p=none->g (.ref p) σ (upd H p (.tup [x,y])) fun σ2 H2=>tc σ2 H2 fun b H3=>
   if b=true then te σ2 H3 fun y H4=>∃acc,H4 D=some (.lst acc)/\acc.length<sizeLine/\Pv (i+1) σ2 (upd H4 D (.lst (acc++[y]))) else Pv (i+1) σ2 H3)
 (hd:∀σ H,Pv n σ H->Q (.ref D) H):m7 (WM K l1 l2) g tc te Q D σ0 H1:=by
 refine ⟨fun i m σ H=>m=n - i/\i<=n/\Pv i σ H,⟨n,by simp,Nat.zero_le _,h0⟩, ?_⟩;rintro i m σ H ⟨rfl,hi,p⟩;obtain ⟨q1,q2⟩:=hl i σ H hi p
 by_cases hlt:i<n
 ·refine .inr ⟨⟨xs,ys,xs[i],ys[i],q1,q2,by simp [hn1,hlt],by simp [hn2,hlt]⟩,Pv (i+1),fun σ' H' p'=>⟨n - (i+1),by omega,rfl,hlt,p'⟩,fun x H' y=> ?_⟩
  obtain ⟨t,z,u,rfl,ht,hz,hu,rfl⟩:=y;exact hs i z u σ _ t (hz xs q1) (hu ys q2) p ht
 ·have e:i=n:=by omega
  subst e;exact .inl ⟨⟨xs,ys,q1,q2,.inl (by omega)⟩,hd σ H p⟩
end
section
variable {K:PySem.W.Frag} {a l1 l2:Addr} {xs ys:List V} {g:TG} {tb:TS} {D:Ends} {σ:St} {H:Hp}
end
section
variable {X:Cx}
theorem kO {K:PySem.W.Frag} {T name id:String} {r:V->List V->Hp->VK->Prop} {o e:Expr} {es:List Expr} {to:TE} {t:TA} {apos cpos:Pos} (h:X.K=K) (pa:PlainAttrs T) (slot:Slot T name id) (hty:typeOf (.builtin id)=pure (.type "method_descriptor")) (hm:Vn X id r) (ho:PE X o to) (ha:PA X (e::es) t)
 (hbase:attributeBase o name X.env (eval o X.env)=eval o X.env:=by rfl)
 (hfew:((backTo cpos (starEach (e::es) X.env)).all (fun x=> !x.1)&&(backToKw cpos (keywordEach [] X.env)).all (fun x=>x.1.isSome)
   && decide ((e::es).length+([]:List Keyword).length+(if ([]:List Keyword).isEmpty then 0 else 1)<30))=true:=by rfl)
 (hline:(apos.endLine==cpos.line)=true:=by rfl) (hs:starEach (e::es) X.env=(false,eval e X.env)::starEach es X.env:=by rfl) (hplain:(backTo cpos (starEach es X.env)).any (·.1)=false:=by rfl):
 PE X (.Call (.Attribute o name apos) (e::es) [] cpos) (Xb K T r to t):=by
 subst h;exact Oe pa slot hty hm ho ha hbase hfew hline hs hplain
theorem lQ {K:PySem.W.Frag} {es:List Expr} {k:Nat} {t:O2} {n:Nat} {pos:Pos} (hK:X.K=K) (hc:X.calm=true) (h:Vk X es t)
 (hn:(assignEach es X.env).length=n:=by rfl) (hst:(assignEach es X.env).findIdx? (·.1)=none:=by rfl):PG X (.Tuple es k pos) (QM K n t):=by subst hK;exact PL hc h hn hst
end
end L2
set_option Elab.async false
set_option linter.all false
set_option maxRecDepth 100000
set_option maxHeartbeats 4000000
namespace L2
open PySem
section
variable {K:PySem.W.Frag} {a D:Addr} {xs:List V} {tc:TT} {te:TE} {Q:VK} {rest:St} {H1:Hp}
theorem eZ {α:Type} (f:Nat->Option α) (n:Nat):(List.range (n+1)).filterMap f=(List.range n).filterMap f++(f n).toList:=by
 rw [List.range_succ,List.filterMap_append];cases h:f n<;>simp [h]
theorem tZ {α:Type} (f:Nat->Option α) (n:Nat):((List.range n).filterMap f).length<=n:=by
 have:=List.length_filterMap_le f (List.range n);simpa using this
theorem Same.newly {H H1:Hp} {D:Addr} {o:HO} (h:Same H H1) (n:H D=none):Same H (upd H1 D o):=fun b u e=>by rw [aQ (au e n)];exact h b u e
theorem uf (f:Nat->Option V) (hD:H1 D=none) (hq:bf K H1 a xs) (hx:xs.length<=100000)
 (hs:∀i x H (G:Hp->Prop) (F:VK),xs[i]? = some x->Same H1 H->(∀H',Same H H'->f i=none->G H')->(∀y H',Same H H'->f i=some y->F y H')->tc (some x::rest) H fun b H3=>if b=true then te (some x::rest) H3 F else G H3)
 (hd:∀H,Same H1 H->H D=some (.lst ((List.range xs.length).filterMap f))->Q (.ref D) H):m7 (O5 K a) (gk 0) tc te Q D (none::rest) H1:=by
 refine qe (K:=K) (xs:=xs) (fun i σ H=>(∃v,σ=v::rest)/\Same H1 H/\H D=some (.lst ((List.range i).filterMap f))) ⟨⟨none,rfl⟩,aF hD,ao⟩ (fun i σ H _ ⟨_,sm,_⟩=>sm.Vw _ _ hq) ?_ (fun σ H ⟨_,sm,e⟩=>hd H sm e);rintro i x σ H hi ⟨⟨v,rfl⟩,sm,e⟩;have hil:i<xs.length:=(List.getElem?_eq_some_iff.mp hi).1;refine hs i x H _ _ hi sm (fun H3 s3 ef=>⟨⟨_,rfl⟩,sm.trans s3,by rw [s3 _ _ e,eZ,ef];simp⟩) (fun y H4 s4 ef=> ?_);refine ⟨_,s4 _ _ e, ?_,⟨_,rfl⟩,(sm.trans s4).newly hD, ?_⟩
 ·have:=tZ f i
  rw [sizeLine_eq];omega
 ·rw [ao,eZ,ef];rfl
theorem Gh (f:Nat->Option V) (hD:H1 D=none) (hq:H1 a=some (.tup xs)) (hx:xs.length<=100000)
 (hs:∀i x H (G:Hp->Prop) (F:VK),xs[i]? = some x->Same H1 H->(∀H',Same H H'->f i=none->G H')->(∀y H',Same H H'->f i=some y->F y H')->tc (some x::rest) H fun b H3=>if b=true then te (some x::rest) H3 F else G H3)
 (hd:∀H,Same H1 H->H D=some (.lst ((List.range xs.length).filterMap f))->Q (.ref D) H):m7 (WQ K a) (gk 0) tc te Q D (none::rest) H1:=by
 refine JL (K:=K) (xs:=xs) (fun i σ H=>(∃v,σ=v::rest)/\Same H1 H/\H D=some (.lst ((List.range i).filterMap f))) ⟨⟨none,rfl⟩,aF hD,ao⟩ (fun i σ H _ ⟨_,sm,_⟩=>dZ.of (sm.tups _ _ hq)) ?_ (fun σ H ⟨_,sm,e⟩=>hd H sm e);rintro i x σ H hi ⟨⟨v,rfl⟩,sm,e⟩;have hil:i<xs.length:=(List.getElem?_eq_some_iff.mp hi).1;refine hs i x H _ _ hi sm (fun H3 s3 ef=>⟨⟨_,rfl⟩,sm.trans s3,by rw [s3 _ _ e,eZ,ef];simp⟩) (fun y H4 s4 ef=> ?_);refine ⟨_,s4 _ _ e, ?_,⟨_,rfl⟩,(sm.trans s4).newly hD, ?_⟩
 ·have:=tZ f i
  rw [sizeLine_eq];omega
 ·rw [ao,eZ,ef];rfl
theorem p8 {n:Nat} (f:Nat->Option V) (hD:H1 D=none) (hx:n<=100000)
 (hs:∀i H (G:Hp->Prop) (F:VK),i<n->Same H1 H->(∀H',Same H H'->f i=none->G H')->(∀y H',Same H H'->f i=some y->F y H')->tc (some (.int (0+i))::rest) H fun b H3=>if b=true then te (some (.int (0+i))::rest) H3 F else G H3)
 (hd:∀H,Same H1 H->H D=some (.lst ((List.range n).filterMap f))->Q (.ref D) H):m7 (O4 0 n) (gk 0) tc te Q D (none::rest) H1:=by
 refine iU (lo:=0) (n:=n) (fun i σ H=>(∃v,σ=v::rest)/\Same H1 H/\H D=some (.lst ((List.range i).filterMap f))) ⟨⟨none,rfl⟩,aF hD,ao⟩ ?_ (fun σ H ⟨_,sm,e⟩=>hd H sm e);rintro i σ H hi ⟨⟨v,rfl⟩,sm,e⟩;refine hs i H _ _ hi sm (fun H3 s3 ef=>⟨⟨_,rfl⟩,sm.trans s3,by rw [s3 _ _ e,eZ,ef];simp⟩) (fun y H4 s4 ef=> ?_);refine ⟨_,s4 _ _ e, ?_,⟨_,rfl⟩,(sm.trans s4).newly hD, ?_⟩
 ·have:=tZ f i
  rw [sizeLine_eq];omega
 ·rw [ao,eZ,ef];rfl
theorem Gg {l1 l2:Addr} {ys:List V} {n:Nat} (hn1:xs.length=n) (hn2:ys.length=n) (f:Nat->Option V) (hD:H1 D=none) (hq1:bf K H1 l1 xs) (hq2:bf K H1 l2 ys) (hx:n<=100000)
 (hs:∀i x y H (G:Hp->Prop) (F:VK),xs[i]? = some x->ys[i]? = some y->Same H1 H->(∀H',Same H H'->f i=none->G H')->(∀y H',Same H H'->f i=some y->F y H')->tc (some x::some y::rest) H fun b H3=>if b=true then te (some x::some y::rest) H3 F else G H3)
 (hd:∀H,Same H1 H->H D=some (.lst ((List.range n).filterMap f))->Q (.ref D) H):m7 (WM K l1 l2) (QM K 2 (Jz (gk 0) (Jz (gk 1) TV))) tc te Q D (none::none::rest) H1:=by
 refine JK (K:=K) (xs:=xs) (ys:=ys) hn1 hn2 (fun i σ H=>(∃u v,σ=u::v::rest)/\Same H1 H/\H D=some (.lst ((List.range i).filterMap f))) ⟨⟨none,none,rfl⟩,aF hD,ao⟩ (fun i σ H _ ⟨_,sm,_⟩=>⟨sm.Vw _ _ hq1,sm.Vw _ _ hq2⟩) ?_ (fun σ H ⟨_,sm,e⟩=>hd H sm e);rintro i x y σ H p hix hiy ⟨⟨u,v,rfl⟩,sm,e⟩ hp;have sp:=aF (o:=HO.tup [x,y]) hp;refine ⟨p,[x,y],rfl,dZ.of ao,rfl,_,_,rfl,_,_,rfl,rfl, ?_⟩;have hil:i<xs.length:=(List.getElem?_eq_some_iff.mp hix).1;refine hs i x y _ _ _ hix hiy (sm.trans sp) (fun H3 s3 ef=>⟨⟨_,_,rfl⟩,(sm.trans sp).trans s3,by rw [s3 _ _ (sp _ _ e),eZ,ef];simp⟩) (fun y H4 s4 ef=> ?_);refine ⟨_,s4 _ _ (sp _ _ e), ?_,⟨_,_,rfl⟩,((sm.trans sp).trans s4).newly hD, ?_⟩
 ·have:=tZ f i
  rw [sizeLine_eq];omega
 ·rw [ao,eZ,ef];rfl
theorem zj {α β:Type} {f g:α->Option β}:∀(l:List α) (_:True) (h:∀x∈l,f x=g x),l.filterMap f=l.filterMap g
 | [],_,_=>rfl
 | x::l,_,h=>by
   rw [List.filterMap_cons,List.filterMap_cons,h x (by simp),zj l trivial fun y hy=>h y (by simp [hy])]
theorem snocInd {α:Type} {P:List α->Prop} (h0:P []) (hs:∀xs x,P xs->P (xs++[x])) (xs:List α):P xs:=by
 rw [←List.reverse_reverse xs]
 induction xs.reverse with
 | nil=>exact h0
 | cons x l ih=>rw [List.reverse_cons];exact hs _ _ ih
theorem DR {α β:Type} (xs:List α) (g:α->β):(List.range xs.length).filterMap (fun i=>(xs[i]?).map g)=xs.map g:=by
 refine snocInd (P:=fun xs=>(List.range xs.length).filterMap (fun i=>(xs[i]?).map g)=xs.map g) rfl (fun xs x ih=> ?_) xs
 ·show (List.range (xs++[x]).length).filterMap (fun i=>((xs++[x])[i]?).map g)=(xs++[x]).map g
  rw [List.length_append,List.length_singleton,eZ,List.map_append];congr 1
  ·rw [←ih]
   refine zj _ trivial fun i hi=> ?_;have:i<xs.length:=by simpa using hi
   rw [List.getElem?_append_left this]
  ·simp
end
end L2
namespace L2
open PySem
section
variable {X:Cx} {K:PySem.W.Frag}
theorem Io (h:X.K=K):nQ X (binaryOp .Add) (Oc K):=by subst h;exact LK
end
end L2
namespace L2
open PySem
theorem lJ {a b:TS} {D:Ends} {σ:St} {H:Hp} (P:St->Hp->Prop) (h1:∀D':Ends,(∀σ' H',P σ' H'->D'.nx σ' H')->D'.rt=D.rt->a D' σ H) (h2:∀σ' H',P σ' H'->b D σ' H'):O9 a b D σ H:=h1 _ h2 rfl
end L2
namespace L2
open PySem PySem.Spec PyProof.Rows
section
variable {X:Cx} {K:PySem.W.Frag} {a:Expr} {ta:TE} {pos:Pos}
def W6 (K:PySem.W.Frag) (ta:TE):TT:=fun σ H Q=>ta σ H fun x H'=>∃k,Ra K x H' k/\Q k H'
theorem Ez (h:X.K=K) (ha:PE X a ta) (he:∀whole,isTrue a X.env whole=(do let v ←whole;standAt a.pos;holding [v] (truthy v)):=by intro _;rfl):PT X a (W6 K ta):=by
 subst h;exact HW ha he
end
end L2
set_option Elab.async false
set_option linter.all false
set_option maxRecDepth 100000
set_option maxHeartbeats 4000000
namespace L2
open PySem PySem.Spec PyProof.Rows
section
variable {X:Cx} {K:PySem.W.Frag}
theorem Ly {T name id:String} {r:V->List V->Hp->VK->Prop} {o:Expr} {to:TE} {apos cpos:Pos} (h:X.K=K) (pa:PlainAttrs T) (slot:Slot T name id) (hty:typeOf (.builtin id)=pure (.type "method_descriptor")) (hm:Vn X id r) (ho:PE X o to)
 (hbase:attributeBase o name X.env (eval o X.env)=eval o X.env:=by rfl) (hline:(apos.endLine==cpos.line)=true:=by rfl):PE X (.Call (.Attribute o name apos) [] [] cpos) (RV K T r to):=by
 subst h;exact P0 pa slot hty hm ho hbase hline
end
section
variable {K:PySem.W.Frag} {a D:Addr} {xs:List V} {te:TE} {Q:VK} {rest:St} {H1:Hp}
theorem Ga {H:Hp} {vs:List V} {ds:List PyData} {v:V} {d:PyData} (h:aJ H vs ds) (hd:Dat H v d):aJ H (vs++[v]) (ds++[d]):=aJ.append h (by simp only [aJ,and_true];exact hd)
end
end L2
set_option Elab.async false
set_option linter.all false
namespace L2
open PySem
def Gv (mg:Str->Option Value) (x:Str) (v:V):Prop:=∃u,mg x=some u/\RelV v u
end L2
set_option Elab.async false
set_option linter.all false
set_option maxRecDepth 100000
set_option maxHeartbeats 4000000
namespace L2
open PySem PySem.Spec PyProof.Rows
section
variable {prog:Program} {w:World} {K:Type} [DecidableEq K] {knd:HeapKind prog w K}
end
section
variable {X:Cx} {o e f:Expr} {td ty tx:TE} {apos cpos:Pos}
end
end L2
namespace L2
open PySem PySem.Spec PyProof.Rows
section
variable {X:Cx} {K:PySem.W.Frag}
end
end L2
namespace L2
open PySem
end L2
set_option Elab.async false
set_option linter.all false
set_option maxRecDepth 100000
set_option maxHeartbeats 4000000
namespace L2
open PySem PySem.Spec PyProof.Rows
section
variable {X:Cx} {K:PySem.W.Frag}
theorem xU:∀{ys:List Str} {us:List Value},Vals (ys.map V.str) us->StrsAre us ys
 | [],us,r=>by cases r;exact .nil
 | y::ys,us,r=>by
   cases r with
   | cons r rs=>
     obtain ⟨t,rfl⟩:=r;exact .cons y t (xU rs)
def rJoin (K:PySem.W.Frag):V->List V->Hp->VK->Prop:=fun x vs H Q=>∃(sep:Str) (l:Addr) (ys:List Str),x = .str sep/\vs=[.ref l]/\bf K H l (ys.map V.str)/\(ys.map (·.length)).sum+ys.length*sep.length<=16777216/\Q (.str (Txt.join sep ys)) H
theorem oR (h:X.K=K):Vn X "str.join" (rJoin K):=by
 subst h;intro pins s σ H x vs v us Q I rx rv h;obtain ⟨sep,l,ys,rfl,rfl,hq,hz,q⟩:=h;obtain ⟨t,rfl⟩:=rx;obtain ⟨u,rfl,ru⟩:=rv.one;cases ru;obtain ⟨its,r',pl,hz'⟩:=I.list hq;exact join_list pl.isList (by simpa using xU r') hz fun t' k=>⟨.str _,H,I.tok _,⟨_,rfl⟩,q⟩
end
def cat:List Str->Str
 | []=>Str.empty
 | x::xs=>x++cat xs
theorem cT (a:Str):a++Str.empty=a:=by
 cases a;show (⟨_ ++ #[]⟩:Str)=_;simp
theorem glued_cons (sep x:Str) (xs:List Str):Txt.join sep (x::xs)=x++cat (xs.map (sep ++ ·)):=by
 have key:∀(xs:List Str) (a:Str),(⟨xs.foldl (fun acc p=>acc++sep.cps++p.cps) a.cps⟩:Str)=a++cat (xs.map (sep ++ ·)):=by
  intro xs
  induction xs with
  | nil=>intro a;exact (cT a).symm
  | cons y ys ih=>
    intro a;have:=ih ⟨a.cps++sep.cps++y.cps⟩;rw [List.foldl_cons,this,List.map_cons,cat,←Str.append_assoc,←Str.append_assoc];rfl
 exact key xs x
theorem Mj:∀n:Fin 1001,(Str.ofString (toString (n.val:Int))).length<=4:=by decide +kernel
theorem cg {i:Int} (h0:0<=i) (h1:i<=1000):(Str.ofString (toString i)).length<=4:=by
 have:=Mj ⟨i.toNat,by omega⟩;simp only at this;rwa [show ((i.toNat:Nat):Int)=i by omega] at this
theorem jO {i:Int} (h0:0<=i) (h1:i<=1000):i.natAbs.log2<1920:=by
 have:i.natAbs.log2<=i.natAbs:=Nat.log2_le_self _;omega
end L2
set_option Elab.async false
set_option linter.all false
set_option maxRecDepth 100000
set_option maxHeartbeats 4000000
namespace L2
open PySem PySem.Spec PyProof.Rows
section
variable {X:Cx} {body suite:List Stmt} {b0:Stmt} {cn:Str} {Dc:Addr} {tb:(St->XK)->TS} {th:TS} {cp hpos pos:Pos}
end
end L2
namespace L2
open PySem PySem.Spec PyProof.Rows
section
variable {X:Cx}
def Vr (i j:Int):Prop:=0<j/\j<1329227995784915872903807060280344576
theorem Im:nQ X (binaryOp .FloorDiv) (rI Vr fun i j=> .int (i / j)):=S5 fun i j _ _ _ _ _ hc q=>by
 have h1:(0:Int)<j:=hc.1;have h2:j<1329227995784915872903807060280344576:=hc.2;refine floordiv_int (by omega) (by rw [Int.fdiv_eq_ediv_of_nonneg i (by omega)];exact q) (.inl ?_);unfold Builtin.divisionGoesByPylong;have hn:j.natAbs<2 ^ 120:=by omega
 have hl:j.natAbs.log2<120:=(Nat.log2_lt (by omega)).mpr hn
 have hz:(j==0)=false:=by
  rw [beq_eq_false_iff_ne];omega
 simp only [hz,Bool.false_eq_true,if_false];have:¬j.natAbs.log2 / 30+1>300:=by omega
 rw [decide_eq_false this,Bool.false_and]
end
end L2
set_option Elab.async false
set_option linter.all false
set_option maxRecDepth 100000
set_option maxHeartbeats 4000000
namespace L2
open PySem PySem.Spec PyProof.Rows
section
variable {X:Cx} {pins:List (Addr×Obj)} {σ:St} {H:Hp} {s:Shared} {d:Addr} {u u':HO}
theorem Inv.Oa (I:Inv X pins σ H s) (e:H d=some u) (h1:∀xs,u ≠ .tup xs) (h2:∀a,u ≠ .own a) (h3:∀ps,u ≠ .NZ ps) (hz:∀o v,X.H₀ d≠some (.mz o v)) (ok:cH X.prog X.w (upd H d u') s.heap d u'):Inv X pins σ (upd H d u') s:=by
 have nd:∀{b:Addr},H b=none->b≠d:=fun q z=>by rw [z,e] at q;cases q
 have ht:∀b xs,H b=some (HO.tup xs)->(upd H d u') b=some (HO.tup xs):=fun b xs q=>by
  have:b≠d:=fun z=>by rw [z,e] at q;exact h1 xs (Option.some.inj q)
  rw [aQ this];exact q
 refine ⟨I.ok,I.os,I.bare,⟨I.base.keep,I.base.slot,fun b o q n hx=> ?_,I.base.there,fun b xs q=>ht b xs (I.base.tups b xs q),fun b o v q=> ?_,fun b ps q=> ?_⟩,I.loc,I.cell, ?_,fun x c q=> ?_,fun p hp=> ?_,fun b v q=> ?_,I.len⟩
 ·have:=I.base.free b o q n hx
  rw [aQ (nd this)];exact this
 ·have:=I.base.qU b o v q
  have nb:b≠d:=fun z=>by rw [z] at q;exact hz o v q
  rw [aQ nb];exact this
 ·obtain ⟨more,r⟩:=I.base.uL b ps q
  have nb:b≠d:=fun z=>by rw [z,e] at r;exact h3 _ (Option.some.inj r)
  exact ⟨more,by rw [aQ nb];exact r⟩
 ·rw [aQ (nd I.free)];exact I.free
 ·rw [aQ (nd (I.jX x c q))];exact I.jX x c q
 ·obtain ⟨q1,q2,q3⟩:=I.pin p hp
  exact ⟨q1,by rw [aQ (nd q2)];exact q2,q3⟩
 ·by_cases hb:b=d
  ·subst hb
   rw [ao] at q;cases q;exact ok
  ·rw [aQ hb] at q
   refine (I.hok b v q).stay (fun _ _ _ r=>r) (fun c r=> ?_) ht;have:c≠d:=fun z=>by rw [z,e] at r;exact h2 _ (Option.some.inj r)
   rw [aQ this];exact r
theorem Inv.Oi {kvs:List (Key×V)} (I:Inv X pins σ H s) (e:H d=some (.dK kvs)):∀o v,X.H₀ d≠some (.mz o v):=fun o v q=>by
 have:=I.base.qU d o v q;rw [e] at this;cases this
theorem Inv.freeze {kvs:List (Key×V)} {o:Obj} (I:Inv X pins σ H s) (e:H d=some (.dK kvs)) (ho:s.heap.get? d=some o):Inv X pins σ (upd H d (.mz o (.dK kvs))) s:=by
 refine I.Oa e (fun _ z=>by cases z) (fun _ z=>by cases z) (fun _ z=>by cases z) (I.Oi e) ⟨ho, ?_⟩;obtain ⟨z,y,vs,r,dd⟩:=(show cH X.prog X.w H s.heap d (.dK kvs) from I.hok d _ e);exact ⟨z,y,vs,r,dd⟩
theorem Inv.W3 {kvs:List (Key×V)} {o:Obj} (I:Inv X pins σ H s) (e:H d=some (.mz o (.dK kvs))) (hz:∀o v,X.H₀ d≠some (.mz o v)):Inv X pins σ (upd H d (.dK kvs)) s:=by
 refine I.Oa e (fun _ z=>by cases z) (fun _ z=>by cases z) (fun _ z=>by cases z) hz ?_;obtain ⟨_,z,y,vs,r,dd⟩:=(show cH X.prog X.w H s.heap d (.mz o (.dK kvs)) from I.hok d _ e);exact ⟨z,y,vs,r,dd⟩
end
def Vq (d:Addr) (o:Obj) (kvs:List (Key×V)):It:=
 ⟨fun i H=>i<kvs.length/\H d=some (.mz o (.dK kvs)),fun i H x H'=>H'=H /\ ∃k v,kvs[i]? = some (k,v)/\x=kV k,fun i H=>kvs.length<=i/\H d=some (.mz o (.dK kvs))⟩
theorem Qt {kvs:List (Key×V)} {vs:List (Key×Value)} (r:KV kvs vs):∀(i:Nat) (k:Key) (v:V),kvs[i]? = some (k,v) -> ∃u,vs[i]? = some (k,u):=by
 induction r with
 | nil=>intro i k v h;cases h
 | cons h r ih=>
   intro i k v e;cases i with
   | zero=>
     have e':=Option.some.inj e;rename_i p q _ _;obtain ⟨h1,h2⟩:=h;obtain ⟨q1,q2⟩:=q;refine ⟨q2, ?_⟩;have:q1=k:=by rw [e'] at h1;exact h1.symm
     subst this;rfl
   | succ i=>exact ih i k v (by simpa using e)
theorem Eo {P:Program} {w:World} {K:PySem.W.Frag} {tg:Expr} (d it:Addr) (o:Obj) (kvs:List (Key×V)) (es:Array DictEntry) (ep:Nat) (hd:o.data = .dict es ep):Turn P w K tg (Vq d o kvs) [it] it (fun i h=>h.IsKeyIter it d i kvs.length ep) where
 mem:=by simp
 obj:=fun i h st b hb=>by
  have e:b=it:=by simpa using hb
  subst e;obtain ⟨o,e,c,d⟩:=st;exact ⟨o,e,fun v z=>by rw [d] at z;cases z⟩
 keep:=fun i h h' st k=>by
  obtain ⟨o,e,c,d⟩:=st;exact ⟨o,k it (by simp) o e,c,d⟩
 item:=by
  intro X hP hw hK hc i pins s σ H E I hf st hg;subst hP hw hK;obtain ⟨hi,hH⟩:=hg;obtain ⟨ho,z,y,vs,r,o',es',ep',q1,q2,q3,q4,q5,q6⟩:=(show cH X.prog X.w H s.heap d (.mz o (.dK kvs)) from I.hok d _ hH);rw [ho] at q1;cases q1;rw [hd] at q3;cases q3;have hl:kvs.length=vs.length:=r.length;obtain ⟨k,v,ekv⟩:∃k v,kvs[i]? = some (k,v):=⟨kvs[i].1,kvs[i].2,by simp [hi]⟩;obtain ⟨u,eu⟩:=Qt r i k v ekv;obtain ⟨f0,f1,f2,f3,f4,f5⟩:=hf it (by simp);refine wpAny_pyNext_dict_item (knd:=b_ X.prog X.w) (by rw [←hl];exact st) ⟨o,es,ho,q2,hd,q4,q5,q6⟩ eu fun key h' hk st' sb=> ?_;have I1:Inv X pins σ H {s with heap:=h'}:=I.turned (t':=s.toks) (fun b o hb e=>(sb.2 b hb).trans e) f0 f1 f3 f4 f5;obtain ⟨ob,e,c,dd⟩:=id st'
  have rk:RelV (kV k) key:=by
   rw [Br] at hk;rcases cQ hk with ⟨j,t,e1,e2⟩|⟨x,t,e1,e2⟩
   ·subst e1;subst e2;exact ⟨t,rfl⟩
   ·subst e1;subst e2;exact ⟨t,rfl⟩
  exact ⟨key,rfl,za (s:={s with heap:=h'}) e c dd (by decide) ⟨kV k,H,I1,rk,⟨rfl,k,v,ekv,rfl⟩,by rw [hl];exact st',fun b hb=>(hf b hb).1⟩⟩
 done:=by
  intro X hP hw hK hc i pins s σ H E I hf st hg;subst hP hw hK;obtain ⟨hi,hH⟩:=hg;obtain ⟨ho,z,y,vs,r,o',es',ep',q1,q2,q3,q4,q5,q6⟩:=(show cH X.prog X.w H s.heap d (.mz o (.dK kvs)) from I.hok d _ hH);rw [ho] at q1;cases q1;rw [hd] at q3;cases q3;have hl:kvs.length=vs.length:=r.length;obtain ⟨f0,f1,f2,f3,f4,f5⟩:=hf it (by simp);exact wpAny_pyNext_dict_end (knd:=b_ X.prog X.w) (I.ok.hd hc) (by rw [←hl];exact st) ⟨o,es,ho,q2,hd,q4,q5,q6⟩ (by simp;omega) fun h' eb=>⟨rfl,I.turned (t':=s.toks) (fun b o hb e=>eb b o hb e) f0 f1 f3 f4 f5⟩
 self:=fun _ _ _ _ _ st h=>wpAny_pyIter_keyiter st h
section
variable {X:Cx} {tg:Expr}
def Tz (tl:TE):TI:=fun σ H R=>tl σ H fun x H1=>∃d kvs,x = .ref d/\H1 d=some (.dK kvs) /\ ∀o,R (Vq d o kvs) (upd H1 d (.mz o (.dK kvs)))
theorem Ln {l:Expr} {tl:TE} (hl:PE X l tl):PI X tg l (Tz tl):=by
 intro pins s σ H R I h;refine cU (hl pins s σ H _ I h) fun v s1 ⟨x,H1,I1,r1,q1⟩=> ?_;obtain ⟨d,kvs,e,hH,q⟩:=q1;subst e;cases r1;obtain ⟨z,hd,vs,r,o,es,ep,ho,q2,q3,q4,q5,q6⟩:=JC I1.hok hH;refine wpAny_pyIter_dict (knd:=b_ X.prog X.w) hd ⟨o,es,ho,q2,q3,q4,q5,q6⟩ ?_;have If:=I1.freeze hH ho;have hl:kvs.length=vs.length:=r.length
 have Ql:(upd H1 d (HO.mz o (.dK kvs))) s1.heap.objs.size=none:=by
  rw [aQ (Ne.symm (Nat.ne_of_lt (Heap.lt_size ho)))];exact I1.hok.fresh (Nat.le_refl _)
 refine ⟨s1.heap.objs.size,[s1.heap.objs.size],_,_,upd H1 d (.mz o (.dK kvs)),rfl,If.kept (t':=s1.toks) fun b o e=>Heap.get?_push_of_some _ e,Eo d _ o kvs es ep q3,⟨_,Heap.get?_push_size _ rfl,rfl,by rw [hl];rfl⟩,fun b hb=> ?_,q o⟩;have e:b=s1.heap.objs.size:=by simpa using hb
 subst e;exact If.zf (Nat.le_refl _) Ql
end
section
variable {d D:Addr} {o:Obj} {kvs:List (Key×V)} {tc:TT} {te:TE} {Q:VK} {rest:St} {H1:Hp}
end
def acw (H H' WW:Hp):Prop:=∃d Ti o kvs,H d=some (.dK Ti)/\H' d=some (.mz o (.dK kvs))/\WW=upd H' d (.dK kvs)
def RZ (t:TS):TS:=fun D σ H=>t {D with nx:=fun σ' H'=>∃WW,acw H H' WW/\D.nx σ' WW} σ H
theorem K_ {X:Cx} {st:Stmt} {t:TS} (h:PS X st t):PS X st (RZ t):=by
 intro pins s σ H D I q;refine wpAny_mono (h pins s σ H _ I q) (fun f s1 q1=> ?_) fun _ _ z=>z;cases f with
 | next=>
   obtain ⟨σ1,H1,I1,H2,⟨d,Ti,o,kvs,e1,e2,rfl⟩,q2⟩:=q1;exact ⟨σ1,_,I1.W3 e2 (I.Oi e1),q2⟩
 | brk=>exact q1
 | cont=>exact q1
 | ret u=>exact q1
end L2
set_option Elab.async false
set_option linter.all false
set_option maxRecDepth 100000
set_option maxHeartbeats 4000000
namespace L2
open PySem PySem.Spec PyProof.Rows
theorem JB {d:Addr} {o:Obj} {kvs:List (Key×V)} {g:TG} {tb:TS} {D:Ends} {σ:St} {H:Hp} (Pv:Nat->St->Hp->Prop) (h0:Pv 0 σ H) (hl:∀i σ H,i<=kvs.length->Pv i σ H->H d=some (.mz o (.dK kvs)))
 (hs:∀i k v σ H,kvs[i]? = some (k,v)->Pv i σ H->g (kV k) σ H fun σ2 H2=>tb {D with nx:=Pv (i+1),ct:=Pv (i+1),bk:=D.nx} σ2 H2) (hd:∀σ H,Pv kvs.length σ H->D.nx σ H):
 ∃W:Nat->Nat->St->Hp->Prop,(∃m,W 0 m σ H) /\ ∀i m σ H,W i m σ H ->
  ((Vq d o kvs).stop i H/\D.nx σ H)\/((Vq d o kvs).go i H /\ ∃N:St->Hp->Prop,(∀σ' H',N σ' H' -> ∃m',m'<m/\W (i+1) m' σ' H') /\ ∀x H',(Vq d o kvs).O6 i H x H'->g x σ H' fun σ2 H2=>tb {D with nx:=N,ct:=N,bk:=D.nx} σ2 H2):=by
 refine ⟨fun i m σ H=>m=kvs.length - i/\i<=kvs.length/\Pv i σ H,⟨kvs.length,by simp,Nat.zero_le _,h0⟩, ?_⟩;rintro i m σ H ⟨rfl,hi,p⟩;have q:=hl i σ H hi p
 by_cases hlt:i<kvs.length
 ·refine .inr ⟨⟨hlt,q⟩,Pv (i+1),fun σ' H' p'=>⟨kvs.length - (i+1),by omega,rfl,hlt,p'⟩,fun x H' y=> ?_⟩
  obtain ⟨rfl,k,v,e,rfl⟩:=y;exact hs i k v σ _ e p
 ·have e:i=kvs.length:=by omega
  subst e;exact .inl ⟨⟨Nat.le_refl _,q⟩,hd σ H p⟩
def uR (hs:List Int) (g:Int->Int):List (Key×V):=hs.map fun h=>(Sum.inl h,V.int (g h))
theorem wK {hs:List Int} {g:Int->Int}:∀(h:Int),nY (uR hs g) (Sum.inl h)=if h∈hs then some (V.int (g h)) else none:=by
 intro h
 induction hs with
 | nil=>rfl
 | cons x hs ih=>
   show nY ((Sum.inl x,V.int (g x))::uR hs g) _=_
   by_cases e:x=h
   ·subst e
    rw [nU rfl,if_pos (List.mem_cons_self ..)]
   ·rw [nW (fun z=>e (Sum.inl.inj z)),ih]
    by_cases m:h∈hs
    ·rw [if_pos m,if_pos (List.mem_cons_of_mem _ m)]
    ·rw [if_neg m,if_neg (fun z=>(List.mem_cons.mp z).elim (fun z=>e z.symm) m)]
def zc (g:Int->Int) (h v:Int):Int->Int:=fun x=>if x=h then v else g x
def hAdd (hs:List Int) (h:Int):List Int:=if h∈hs then hs else hs++[h]
theorem Mu {hs:List Int} {g:Int->Int} (h v:Int):putK (uR hs g) (Sum.inl h) (V.int v)=uR (hAdd hs h) (zc g h v):=by
 unfold putK hAdd;rw [rR,wK]
 by_cases m:h∈hs
 ·rw [if_pos m,Option.isSome_some,if_pos rfl,if_pos m]
  unfold uR;rw [List.map_map];refine List.map_congr_left fun x _=> ?_;simp only [Function.comp,zc]
  by_cases e:x=h
  ·subst e;simp
  ·rw [if_neg (fun z=>e (Sum.inl.inj z)),if_neg e]
 ·rw [if_neg m,if_neg (by simp),if_neg m]
  unfold uR;rw [List.map_append];congr 1
  ·refine List.map_congr_left fun x hx=> ?_
   have:x≠h:=fun z=>m (z▸hx);simp only [zc,if_neg this]
  ·simp [zc]
theorem tG:∀(n:Nat) (hs:List Int),hs.Nodup->(∀h∈hs,0<=h/\h<(n:Int))->hs.length<=n
 | 0,hs,_,hr=>by
   cases hs with
   | nil=>exact Nat.le_refl _
   | cons x hs=>have:=hr x (List.mem_cons_self ..);omega
 | n+1,hs,nd,hr=>by
   have ih:=tG n (hs.erase (n:Int)) (nd.erase _) fun h hh=>by
    have h1:=(nd.mem_erase_iff).mp hh;have h2:=hr h h1.2;have:=h1.1;omega
   by_cases m:(n:Int)∈hs
   ·rw [List.length_erase_of_mem m] at ih;omega
   ·rw [List.erase_of_not_mem m] at ih;omega
theorem M5 {hs:List Int} {h:Int} (nd:hs.Nodup):(hAdd hs h).Nodup:=by
 unfold hAdd
 by_cases m:h∈hs
 ·rw [if_pos m];exact nd
 ·rw [if_neg m]
  rw [List.nodup_append];exact ⟨nd,by simp,fun a ha b hb e=>by simp at hb;subst hb;subst e;exact m ha⟩
theorem tU {hs:List Int} {h x:Int}:x∈hAdd hs h↔x∈hs\/x=h:=by
 unfold hAdd
 by_cases m:h∈hs
 ·rw [if_pos m]
  exact ⟨.inl,fun z=>z.elim id fun e=>e▸m⟩
 ·rw [if_neg m];simp
structure iw (H:Hp) (d:Addr) (g:Int->Int):Prop where
 ex:∃hs:List Int,H d=some (.dK (uR hs g))/\hs.Nodup/\(∀h∈hs,0<=h/\h<8) /\ ∀h,h∉hs->g h=0
 nn:∀h,0<=g h
theorem iw.get {H:Hp} {d:Addr} {g:Int->Int} (k:iw H d g):∃kvs,H d=some (.dK kvs)/\kvs.length<=8 /\ ∀h:Int,(nY kvs (Sum.inl h)).getD (.int 0) = .int (g h):=by
 obtain ⟨hs,e,nd,r,z⟩:=k.ex;refine ⟨_,e,by rw [uR,List.length_map];exact tG 8 hs nd r,fun h=> ?_⟩;rw [wK]
 by_cases m:h∈hs
 ·rw [if_pos m];rfl
 ·rw [if_neg m,z h m];rfl
theorem iw.put {H:Hp} {d:Addr} {g:Int->Int} {h v:Int} (k:iw H d g) (h0:0<=h) (h1:h<8) (v0:0<=v):∃kvs,H d=some (.dK kvs)/\kvs.length<sizeLine /\ ∀H',H' d=some (.dK (putK kvs (Sum.inl h) (.int v)))->iw H' d (zc g h v):=by
 obtain ⟨hs,e,nd,r,z⟩:=k.ex;refine ⟨_,e, ?_,fun H' e'=>⟨⟨hAdd hs h,by rw [e',Mu],M5 nd,fun x hx=> ?_,fun x hx=> ?_⟩,fun x=> ?_⟩⟩
 ·have:=tG 8 hs nd r
  rw [uR,List.length_map,sizeLine_eq];omega
 ·rcases tU.mp hx with hx|rfl
  ·exact r x hx
  ·exact ⟨h0,h1⟩
 ·have n1:x∉hs:=fun z=>hx (tU.mpr (.inl z))
  have n2:x≠h:=fun z=>hx (tU.mpr (.inr z));unfold zc;rw [if_neg n2];exact z x n1
 ·unfold zc
  split
  ·exact v0
  ·exact k.nn x
theorem iw.kp {H H':Hp} {d r:Addr} {g:Int->Int} (k:iw H d g) (kp:Kp r H H') (n:d≠r):iw H' d g:=by
 obtain ⟨hs,e,q⟩:=k.ex;exact ⟨⟨hs,kp _ _ e n,q⟩,k.nn⟩
theorem iw.same {H H':Hp} {d:Addr} {g:Int->Int} (k:iw H d g) (s:Same H H'):iw H' d g:=by
 obtain ⟨hs,e,q⟩:=k.ex;exact ⟨⟨hs,s _ _ e,q⟩,k.nn⟩
theorem iw.ext {H:Hp} {d:Addr} {g g':Int->Int} (k:iw H d g) (e:∀h,g h=g' h):iw H d g':=by
 have:g=g':=funext e;rw [←this];exact k
end L2
set_option Elab.async false
set_option linter.all false
set_option maxRecDepth 100000
set_option maxHeartbeats 4000000
namespace L2
open PySem PySem.Spec PyProof.Rows
def J_ (hi:Int) (n:Nat):It:=⟨fun i _=>i<n,fun i H x H'=>H'=H/\x = .int (hi - i),fun i _=>n<=i⟩
theorem xV {P:Program} {w:World} {K:PySem.W.Frag} {tg:Expr} (it:Addr) (hi:Int) (n:Nat):Turn P w K tg (J_ hi n) [it] it (fun i h=>IsRangeIter h it (hi+(i:Nat)*(-1)) ((n:Int) - (i:Nat)) (-1)) where
 mem:=by simp
 obj:=fun i h st b hb=>by
  have e:b=it:=by simpa using hb
  subst e
  exact ⟨_,st,fun v z=>by
   have z':Data.fields _=Data.cell v:=z;cases z'⟩
 keep:=fun i h h' st k=>k it (by simp) _ st
 item:=by
  intro X hP hw hK hc i pins s σ H E I hf st hg;subst hP hw hK;obtain ⟨f0,f1,f2,f3,f4,f5⟩:=hf it (by simp);have W:=Walks.range (prog:=X.prog) (w:=X.w) (I.ok.hd hc) it hi (-1) n;refine W.item i s _ _ hg st fun v h' tk hv st' kk=> ?_;obtain ⟨t,rfl⟩:=hv;have I1:Inv X pins σ H {s with heap:=h',toks:=tk}:=I.turned (fun b o hb e=>kk b o (by simpa using hb) e) f0 f1 f3 f4 f5;refine ⟨_,rfl,za (s:={s with heap:=h',toks:=tk}) (n:= "range_iterator") st' rfl rfl (by decide) ⟨.int (hi - i),H,I1,⟨t, ?_⟩,⟨rfl,rfl⟩,st',fun b hb=>(hf b hb).1⟩⟩;congr 1;omega
 done:=by
  intro X hP hw hK hc i pins s σ H E I hf st hg;subst hP hw hK;obtain ⟨f0,f1,f2,f3,f4,f5⟩:=hf it (by simp);exact wpAny_pyNext_range_end (I.ok.hd hc) st (by have:n<=i:=hg;omega) fun h' eb=>⟨rfl,I.turned (t':=s.toks) (fun b o hb e=>eb b o hb e) f0 f1 f3 f4 f5⟩
 self:=fun _ _ _ _ _ st h=>wpAny_pyIter_rangeiter st h
section
variable {X:Cx} {tg:Expr}
theorem N_ (a b:Int):Builtin.Range.rangeSize a b (-1)=if a>b then a - b else 0:=by
 unfold Builtin.Range.rangeSize;rw [if_neg (by decide)];split
 ·simp
 ·rfl
theorem Et {a b:Int} (h1: -(2 ^ 61)<=a) (h2:a<2 ^ 61) (h3: -(2 ^ 61)<=b) (h4:b<2 ^ 61):Builtin.Range.small a b (-1)=true:=by
 unfold Builtin.Range.small;rw [N_]
 have fits:∀z:Int, -(2 ^ 63)<=z->z<2 ^ 63->Builtin.Range.rangeFitsLong z=true:=fun z l1 l2=>by
  unfold Builtin.Range.rangeFitsLong;rw [decide_eq_true l1,decide_eq_true l2];rfl
 have f1:=fits (if a>b then a - b else 0) (by split<;>omega) (by split<;>omega);have f2:=fits (b+(-1+1)) (by omega) (by omega);simp only [fits a (by omega) (by omega),fits b (by omega) (by omega),fits (-1) (by decide) (by decide),f1,f2,Bool.and_self,Bool.true_and,show ¬((-1:Int)>0) by decide,if_false,Bool.or_true]
def Tw (ta:TA):TI:=fun σ H R=>ta σ H fun vs H1=>∃i j:Int,vs=[.int i,.int j,.int (-1)]/\(-(2 ^ 61)<=i/\i<2 ^ 61 /\ -(2 ^ 61)<=j/\j<2 ^ 61)/\R (J_ i (i - j).toNat) H1
theorem vf {a b c:Expr} {ta:TA} {p pos:Pos} (hg:Gl X "range") (hm:X.mg "range" = none) (ha:PA X [a,b,c] ta) (hs:starEach [a,b,c] X.env=[(false,eval a X.env),(false,eval b X.env),(false,eval c X.env)]:=by rfl) (hs2:starEach [b,c] X.env=[(false,eval b X.env),(false,eval c X.env)]:=by rfl):
 PI X tg (.Call (.Name "range" p) [a,b,c] [] pos) (Tw ta):=by
 intro pins s σ H R I h;refine Call_ (pW I hg hm boot_range (PyProof.Rows.callWith_type1 (cU (ha pos pins s σ H _ I h) fun us s1 ⟨vs,H1,I1,r1,q1⟩=> ?_) (by rw [hs,hs2]) (by rw [hs2];rfl)));obtain ⟨i,j,e,⟨q1,q2,q3,q4⟩,q⟩:=q1;subst e;cases r1 with
 | cons r rr=>
   cases rr with
   | cons r' rr=>
     cases rr with
     | cons r'' rr=>
       cases rr;obtain ⟨t,rfl⟩:=r;obtain ⟨t',rfl⟩:=r';obtain ⟨t'',rfl⟩:=r'';refine call_range_3 (by decide) ?_ (.inl (PyProof.noPylong_small (by decide)));refine wpAny_pyIter_range (IsRange.new ..) (Et q1 q2 q3 q4) ?_;have I2:Inv X pins σ H1 {s1 with heap:=s1.heap.push {cls:= .type "range",data:= .fields #[.int i t,.int j t',.int (-1) t'']}}:=I1.kept (t':=s1.toks) fun b o e=>Heap.get?_push_of_some _ e
       refine ⟨(s1.heap.push {cls:= .type "range",data:= .fields #[.int i t,.int j t',.int (-1) t'']}).objs.size,[(s1.heap.push {cls:= .type "range",data:= .fields #[.int i t,.int j t',.int (-1) t'']}).objs.size],_,_,H1,rfl,
        I2.kept (t':=s1.toks) fun b o e=>Heap.get?_push_of_some _ e,xV _ i (i - j).toNat, ?_,fun b hb=> ?_,q⟩
       ·have e1:i+((0:Nat):Int)*(-1)=i:=by simp
        have e2:(((i - j).toNat:Nat):Int) - ((0:Nat):Int)=Builtin.Range.rangeSize i j (-1):=by rw [N_];split<;>omega
        show IsRangeIter _ _ (i+((0:Nat):Int)*(-1)) ((((i - j).toNat:Nat):Int) - ((0:Nat):Int)) (-1);rw [e1,e2];exact Heap.get?_push_size _ rfl
       ·have e:b=(s1.heap.push {cls:= .type "range",data:= .fields #[.int i t,.int j t',.int (-1) t'']}).objs.size:=by simpa using hb
        subst e;exact I2.zf (Nat.le_refl _) (I2.hok.fresh (Nat.le_refl _))
theorem tX {hi:Int} {n:Nat} {g:TG} {tb:TS} {D:Ends} {σ:St} {H:Hp} (Pv:Nat->St->Hp->Prop) (h0:Pv 0 σ H)
 (hs:∀i σ H,i<n->Pv i σ H->g (.int (hi - i)) σ H fun σ2 H2=>tb {D with nx:=Pv (i+1),ct:=Pv (i+1),bk:=D.nx} σ2 H2) (hd:∀σ H,Pv n σ H->D.nx σ H):
 ∃W:Nat->Nat->St->Hp->Prop,(∃m,W 0 m σ H) /\ ∀i m σ H,W i m σ H ->
  ((J_ hi n).stop i H/\D.nx σ H)\/((J_ hi n).go i H /\ ∃N:St->Hp->Prop,(∀σ' H',N σ' H' -> ∃m',m'<m/\W (i+1) m' σ' H') /\ ∀x H',(J_ hi n).O6 i H x H'->g x σ H' fun σ2 H2=>tb {D with nx:=N,ct:=N,bk:=D.nx} σ2 H2):=by
 refine ⟨fun i m σ H=>m=n - i/\i<=n/\Pv i σ H,⟨n,by simp,Nat.zero_le _,h0⟩, ?_⟩;rintro i m σ H ⟨rfl,hi',p⟩
 by_cases hlt:i<n
 ·refine .inr ⟨hlt,Pv (i+1),fun σ' H' p'=>⟨n - (i+1),by omega,rfl,hlt,p'⟩,fun x H' y=> ?_⟩
  obtain ⟨e,y⟩:=y;subst e y;exact hs i σ _ hlt p
 ·have e:i=n:=by omega
  subst e;exact .inl ⟨Nat.le_refl _,hd σ H p⟩
end
end L2
set_option Elab.async false
set_option linter.all false
set_option maxRecDepth 100000
set_option maxHeartbeats 4000000
namespace L2
open PySem PySem.Spec PyProof.Rows
section
variable {X:Cx} {tg:Expr}
end
end L2
set_option Elab.async false
set_option linter.all false
set_option maxRecDepth 100000
set_option maxHeartbeats 4000000
namespace L2
open PySem PySem.Spec PyProof.Rows
section
variable {X:Cx}
end
end L2
set_option Elab.async false
set_option linter.all false
set_option maxRecDepth 100000
set_option maxHeartbeats 4000000
namespace L2
open PySem PySem.Spec PyProof.Rows
section
variable {H H':Hp}
mutual
theorem Dat.same (k:Same H H'):∀(d:PyData) {v:V},Dat H v d->Dat H' v d
 | .none,_,h=>by simp only [Dat] at h ⊢;exact h
 | .bool _,_,h=>by simp only [Dat] at h ⊢;exact h
 | .int _,_,h=>by simp only [Dat] at h ⊢;exact h
 | .str _,_,h=>by simp only [Dat] at h ⊢;exact h
 | .list ds,_,h=>by simp only [Dat] at h ⊢;obtain ⟨a,vs,e,q,r⟩:=h;exact ⟨a,vs,e,k _ _ q,aJ.same k ds r⟩
 | .tuple ds,_,h=>by simp only [Dat] at h ⊢;obtain ⟨a,vs,e,q,r⟩:=h;exact ⟨a,vs,e,k _ _ q,aJ.same k ds r⟩
 | .dict _,_,h=>by simp only [Dat] at h
theorem aJ.same (k:Same H H'):∀(ds:List PyData) {vs:List V},aJ H vs ds->aJ H' vs ds
 | [],[],_=>by simp only [aJ]
 | d::ds,v::vs,h=>by simp only [aJ] at h ⊢;exact ⟨Dat.same k d h.1,aJ.same k ds h.2⟩
 | _::_,[],h=>by simp only [aJ] at h
 | [],_::_,h=>by simp only [aJ] at h
end
end
section
variable {X:Cx} {K:PySem.W.Frag}
inductive WD (H:Hp):V->Value->Prop where
 | int (i:Int):WD H (.int i) (.type "int")
 | lst {a:Addr} {xs:List V} (e:H a=some (.lst xs)):WD H (.ref a) (.type "list")
 | tup {a:Addr} {xs:List V} (e:H a=some (.tup xs)):WD H (.ref a) (.type "tuple")
def Sw (K:PySem.W.Frag):List V->Hp->VK->Prop:=fun xs H Q=>∃(x:V) (t:Value) (p:Addr) (ns:List String) (b:Bool),xs=[x,.ref p]/\WD H x t/\H p=some (.tup (ns.map V.ty))/\PySem.W.kitAny K t (ns.map Value.type)=some b/\Q (.bl b) H
theorem z9 {ns:List String}:∀{us:List Value},Vals (ns.map V.ty) us->us=ns.map Value.type:=by
 induction ns with
 | nil=>intro us r;cases r;rfl
 | cons c cs ih=>
   intro us r;cases r with
   | cons r rs=>cases (show _=Value.type c from r);rw [ih rs];rfl
theorem Cg (hk:X.K=K):gq X (.builtin "isinstance") (Sw K):=by
 subst hk;intro pins s σ H xs us Q I r h;obtain ⟨x,t,p,ns,b,rfl,ty,hp,e,q⟩:=h;obtain ⟨u,w',rfl,r1,r2⟩:=vals2 r;cases (show w'=Value.ref p from r2);obtain ⟨its,rv,⟨o,ho,hc,m,hd⟩,hz⟩:=I.tuple (dZ.of hp);have ei:=z9 rv;subst ei;obtain ⟨c0,d0,dt,sl⟩:=o;simp only at hc hd;subst hc hd;cases ty with
 | int i=>obtain ⟨t,q1⟩:=(show ∃t,u=Value.int i t from r1);cases q1;exact PySem.W.kia_tup PySem.W.kitx_int I.nj True.intro ho e (fun z=>nomatch z) fun tk=>⟨.bl b,H,I.tok _,rfl,q⟩
 | @lst a xs ea=>
   cases (show u=Value.ref a from r1);obtain ⟨_,_,n,_,h1⟩:=(show cH X.prog X.w H s.heap a (.lst xs) from I.hok a _ ea);exact PySem.W.kia_tup PySem.W.kitx_list I.nj ⟨_,h1,rfl⟩ ho e (fun z=>nomatch z) fun tk=>⟨.bl b,H,I.tok _,rfl,q⟩
 | @tup a xs ea=>
   cases (show u=Value.ref a from r1);obtain ⟨_,_,_,p⟩:=(show cH X.prog X.w H s.heap a (.tup xs) from I.hok a _ ea);obtain ⟨o,h1,h2,_⟩:=p;exact PySem.W.kia_tup PySem.W.kitx_tuple I.nj ⟨o,h1,h2⟩ ho e (fun z=>nomatch z) fun tk=>⟨.bl b,H,I.tok _,rfl,q⟩
theorem zO (K:PySem.W.Frag):PySem.W.kitAny K (.type "list") (["list","tuple"].map Value.type)=some true:=by kernel_rfl
theorem xq (K:PySem.W.Frag):PySem.W.kitAny K (.type "tuple") (["list","tuple"].map Value.type)=some true:=by kernel_rfl
theorem Ck (K:PySem.W.Frag):PySem.W.kitAny K (.type "int") (["list","tuple"].map Value.type)=some false:=by kernel_rfl
theorem kZ (K:PySem.W.Frag):PySem.W.kitOne K (.type "tuple") (.type "list")=some false:=by kernel_rfl
theorem k_ (K:PySem.W.Frag):PySem.W.kitOne K (.type "list") (.type "tuple")=some false:=by kernel_rfl
end
section
variable {K:PySem.W.Frag} {a D:Addr} {xs:List V} {tc:TT} {te:TE} {Q:VK} {rest:St} {H1:Hp}
theorem wN {f:Nat->Option PyData} (hf:∀i d,f i=some d->Kq d=true):∀l:List Nat,uT (l.filterMap f)=true
 | []=>rfl
 | i::l=>by
   rw [List.filterMap_cons];cases e:f i with
   | none=>exact wN hf l
   | some d=>simp only [uT,hf i d e,wN hf l,Bool.and_self]
theorem Gi (f:Nat->Option PyData) (hf:∀i d,f i=some d->Kq d=true) (hD:H1 D=none) (hq:bf K H1 a xs) (hx:xs.length<=100000)
 (hs:∀i x H (G:Hp->Prop) (F:VK),xs[i]? = some x->Same H1 H->(∀H',Same H H'->f i=none->G H')->(∀y d H',Same H H'->f i=some d->Dat H' y d->F y H')->tc (some x::rest) H fun b H3=>if b=true then te (some x::rest) H3 F else G H3)
 (hd:∀H vs,Same H1 H->H D=some (.lst vs)->aJ H vs ((List.range xs.length).filterMap f)->Q (.ref D) H):m7 (O5 K a) (gk 0) tc te Q D (none::rest) H1:=by
 refine qe (K:=K) (xs:=xs) (fun i σ H=>(∃v,σ=v::rest)/\Same H1 H /\ ∃vs,H D=some (.lst vs)/\aJ H vs ((List.range i).filterMap f)) ⟨⟨none,rfl⟩,aF hD,[],ao,by simp [aJ]⟩ (fun i σ H _ ⟨_,sm,_⟩=>sm.Vw _ _ hq) ?_ (fun σ H ⟨_,sm,vs,e,d⟩=>hd H vs sm e d);rintro i x σ H hi ⟨⟨v,rfl⟩,sm,vs,e,d⟩;have hil:i<xs.length:=(List.getElem?_eq_some_iff.mp hi).1;have im:=wN hf (List.range i);refine hs i x H _ _ hi sm (fun H3 s3 ef=>⟨⟨_,rfl⟩,sm.trans s3,vs,s3 _ _ e, ?_⟩) (fun y dd H4 s4 ef dy=> ?_)
 ·rw [eZ,ef]
  simpa using aJ.keep s3.tups _ im d
 ·have hl:vs.length<=i:=by rw [d.length];exact tZ f i
  have kp:Kp D H4 (upd H4 D (.lst (vs++[y]))):=Kp.set;have tp:=kp.tups (s4 _ _ e);refine ⟨vs,s4 _ _ e, ?_,⟨_,rfl⟩,(sm.trans s4).newly hD,vs++[y],ao, ?_⟩
  ·rw [sizeLine_eq];omega
  ·rw [eZ,ef]
   exact Ga (aJ.keep (fun a xs h=>tp _ _ (s4.tups _ _ h)) _ im d) (Dat.keep tp _ (hf i dd ef) dy)
end
section
variable {X:Cx}
end
end L2
set_option Elab.async false
set_option linter.all false
set_option maxRecDepth 100000
set_option maxHeartbeats 4000000
namespace L2
open PySem
section
variable {K:PySem.W.Frag} {a D:Addr} {xs:List V} {tc:TT} {te:TE} {Q:VK} {rest:St} {H1:Hp}
end
end L2
set_option Elab.async false
set_option linter.all false
set_option maxRecDepth 100000
set_option maxHeartbeats 4000000
namespace L2
open PySem PySem.Spec PyProof.Rows
section
variable {X:Cx} {K:PySem.W.Frag} {e st:Expr} {te tk:TE} {pos p2:Pos}
end
end L2
set_option Elab.async false
set_option linter.all false
set_option maxRecDepth 100000
set_option maxHeartbeats 4000000
namespace L2
open PySem PySem.Spec PyProof.Rows
section
variable {H:Hp}
mutual
theorem Dat.fn:∀(d e:PyData) {v:V},Dat H v d->Dat H v e->d=e
 | .none,e,v,h,g=>by cases e<;>simp only [Dat] at h g<;>first |rfl|(subst h;first |(obtain ⟨_,_,z,_⟩:=g;cases z;done)|(cases g;done))
 | .bool _,e,v,h,g=>by cases e<;>simp only [Dat] at h g<;>first |(subst h;first |(injection g with g;rw [g];done)|(obtain ⟨_,_,z,_⟩:=g;cases z;done)|(cases g;done))
 | .int _,e,v,h,g=>by cases e<;>simp only [Dat] at h g<;>first |(subst h;first |(injection g with g;rw [g];done)|(obtain ⟨_,_,z,_⟩:=g;cases z;done)|(cases g;done))
 | .str _,e,v,h,g=>by cases e<;>simp only [Dat] at h g<;>first |(subst h;first |(injection g with g;rw [g];done)|(obtain ⟨_,_,z,_⟩:=g;cases z;done)|(cases g;done))
 | .list ds,.list es,v,h,g=>by
   simp only [Dat] at h g;obtain ⟨a,vs,rfl,ha,da⟩:=h;obtain ⟨b,ws,e,hb,db⟩:=g;injection e with e
   subst e;rw [ha] at hb;injection hb with hb
   injection hb with hb
   subst hb;rw [aJ.fn ds es da db]
 | .tuple ds,.tuple es,v,h,g=>by
   simp only [Dat] at h g;obtain ⟨a,vs,rfl,ha,da⟩:=h;obtain ⟨b,ws,e,hb,db⟩:=g;injection e with e
   subst e;rw [ha] at hb;injection hb with hb
   injection hb with hb
   subst hb;rw [aJ.fn ds es da db]
 | .list ds,.tuple es,v,h,g=>by
   simp only [Dat] at h g;obtain ⟨a,vs,rfl,ha,da⟩:=h;obtain ⟨b,ws,e,hb,db⟩:=g;injection e with e
   subst e;rw [ha] at hb;injection hb with hb
   cases hb
 | .tuple ds,.list es,v,h,g=>by
   simp only [Dat] at h g;obtain ⟨a,vs,rfl,ha,da⟩:=h;obtain ⟨b,ws,e,hb,db⟩:=g;injection e with e
   subst e;rw [ha] at hb;injection hb with hb
   cases hb
 | .list ds,.none,v,h,g=>by simp only [Dat] at h g;obtain ⟨a,vs,rfl,_⟩:=h;cases g
 | .list ds,.bool _,v,h,g=>by simp only [Dat] at h g;obtain ⟨a,vs,rfl,_⟩:=h;cases g
 | .list ds,.int _,v,h,g=>by simp only [Dat] at h g;obtain ⟨a,vs,rfl,_⟩:=h;cases g
 | .list ds,.str _,v,h,g=>by simp only [Dat] at h g;obtain ⟨a,vs,rfl,_⟩:=h;cases g
 | .tuple ds,.none,v,h,g=>by simp only [Dat] at h g;obtain ⟨a,vs,rfl,_⟩:=h;cases g
 | .tuple ds,.bool _,v,h,g=>by simp only [Dat] at h g;obtain ⟨a,vs,rfl,_⟩:=h;cases g
 | .tuple ds,.int _,v,h,g=>by simp only [Dat] at h g;obtain ⟨a,vs,rfl,_⟩:=h;cases g
 | .tuple ds,.str _,v,h,g=>by simp only [Dat] at h g;obtain ⟨a,vs,rfl,_⟩:=h;cases g
 | .list ds,.dict _,v,h,g=>by simp only [Dat] at g
 | .tuple ds,.dict _,v,h,g=>by simp only [Dat] at g
 | .dict _,_,v,h,g=>by simp only [Dat] at h
theorem aJ.fn:∀(ds es:List PyData) {vs:List V},aJ H vs ds->aJ H vs es->ds=es
 | [],[],_,_,_=>rfl
 | d::ds,e::es,v::vs,h,g=>by
   simp only [aJ] at h g;rw [Dat.fn d e h.1 g.1,aJ.fn ds es h.2 g.2]
 | [],_::_,[],_,g=>by simp only [aJ] at g
 | [],_::_,_::_,h,_=>by simp only [aJ] at h
 | _::_,[],[],h,_=>by simp only [aJ] at h
 | _::_,[],_::_,_,g=>by simp only [aJ] at g
 | _::_,_::_,[],h,_=>by simp only [aJ] at h
end
end
section
variable {X:Cx}
end
end L2
set_option Elab.async false
set_option linter.all false
set_option maxRecDepth 100000
set_option maxHeartbeats 4000000
namespace L2
open PySem PySem.Spec PyProof.Rows
section
variable {X:Cx} {K:PySem.W.Frag} {e e1 e2 l:Expr} {te t1 t2 tl:TE} {pos:Pos} {tg:Expr}
end
section
variable {X:Cx}
def Pu:List V->Hp->VK->Prop:=fun xs H Q=>(∃i:Int,xs=[.int i]/\i.natAbs.log2<1920/\Q (.str (toString i)) H) \/ ∃x:Str,xs=[.str x]/\Q (.str x) H
theorem Cd:gq X (.type "str") Pu:=by
 intro pins s σ H xs us Q I r h;rcases h with h|h
 ·exact cY pins s σ H xs us Q I r h
 ·obtain ⟨x,rfl,q⟩:=h
  obtain ⟨u,rfl,t,rfl⟩:=vals1 r;exact PySem.P.str_of_str ⟨.str _,H,I,⟨_,rfl⟩,q⟩
end
end L2
set_option Elab.async false
set_option linter.all false
set_option maxRecDepth 100000
set_option maxHeartbeats 4000000
namespace L2
open PySem PySem.Spec PyProof.Rows PySem.Builtin PySem.Builtin.Str
section
variable {X:Cx} {K:PySem.W.Frag}
end
section
variable {K:PySem.W.Frag} {D:Addr} {tc:TT} {te:TE} {Q:VK} {rest:St} {H1:Hp}
end
section
variable {X:Cx}
end
end L2
set_option Elab.async false
set_option linter.all false
set_option maxRecDepth 100000
set_option maxHeartbeats 4000000
namespace L2
open PySem PySem.Spec PyProof.Rows PySem.Builtin PySem.Builtin.Str
end L2
set_option Elab.async false
set_option linter.all false
set_option maxRecDepth 100000
set_option maxHeartbeats 4000000
namespace L2
open PySem PySem.Spec PyProof.Rows
section
variable (P:Program) (w:World) (K:PySem.W.Frag) (mg:Str->Option Value) (base:Heap)
def MethAt (k:Nat) (C:Addr) (m:Str) (ps:List Str) (sp:Sp):Prop:=∃f fd,cJ P w K mg base jf k f fd ps sp/\Meth K C m f/\Binds K fd ps []
def Cr (k:Nat) (C:Addr) (x:Str) (ps:List Str) (nP:List V) (sp:Sp):Prop:=∃f fd ds,cJ P w K mg base jf k f fd ps sp/\Mk K C f/\mg x=some (.ref C)/\Binds K fd ps ds/\Vals nP ds
end
section
variable {P:Program} {w:World} {K:PySem.W.Frag} {mg:Str->Option Value} {base:Heap} {k:Nat} {C:Addr} {m x:Str} {ps:List Str} {sp:Sp} {nP:List V}
end
section
variable {X:Cx} {k:Nat} {C:Addr} {x m:Str} {ps:List Str} {sp:Sp} {nP:List V} {e o:Expr} {es:List Expr} {ta:TE} {t:TA} {p pos apos:Pos} {E:St->XK}
theorem sY {pl:Sem Bool} (M:MethAt X.prog X.w X.K X.mg X.base k C m ps sp) (c:Cls X.K C) (hr:dj k X.A) (he:PE X o ta) (ha:PA X (e::es) t)
 (hst:starEach (e::es) X.env=(false,eval e X.env)::starEach es X.env:=by rfl) (hpl:(backTo pos (starEach es X.env)).any (·.1)=false:=by rfl)
 (ht:eval (.Call (.Attribute o m apos) (e::es) [] pos) X.env=(do
   let ov ←eval o X.env
   standAt apos.atName
   let (f,first) ←holding [ov] (getMethod ov m pl)
   callWith pos f first (backTo pos (starEach (e::es) X.env)) (backToKw pos (keywordEach [] X.env))):=by rfl):
 PE X (.Call (.Attribute o m apos) (e::es) [] pos) (CP C m sp [] E0 ta t):=by
 obtain ⟨f,fd,G,hm,hb⟩:=M;exact Lp he c hm G hr hb .nil Dq ha hst hpl ht
theorem lR {pl:Sem Bool} (M:MethAt X.prog X.w X.K X.mg X.base k C m ps sp) (c:Cls X.K C) (hr:dj k X.A) (he:PE X o ta)
 (ht:eval (.Call (.Attribute o m apos) [] [] pos) X.env=(do
   let ov ←eval o X.env
   standAt apos.atName
   let (f,first) ←holding [ov] (getMethod ov m pl)
   callWith pos f first (backTo pos (starEach [] X.env)) (backToKw pos (keywordEach [] X.env))):=by rfl):
 PE X (.Call (.Attribute o m apos) [] [] pos) (CP C m sp [] E0 ta vP):=by
 obtain ⟨f,fd,G,hm,hb⟩:=M;exact Ig he c hm G hr hb .nil Dq ht
theorem Ih (M:Cr X.prog X.w X.K X.mg X.base k C x ps nP sp) (hr:dj (k+1) X.A) (hg:Gl X x) (ha:PA X (e::es) t) (hdb:(x==("__debug__" :Str))=false:=by decide)
 (he:starEach (e::es) X.env=(false,eval e X.env)::starEach es X.env:=by rfl) (hpl:(backTo pos (starEach es X.env)).any (·.1)=false:=by rfl):
 PE X (.Call (.Name x p) (e::es) [] pos) (N6 C sp nP E0 t):=by
 obtain ⟨f,fd,ds,G,mk,hm,hb,hd⟩:=M;exact Lq mk G hr hg hm hb hd Dq ha hdb he hpl
end
end L2
namespace L2
open PySem PySem.Spec PyProof.Rows PySem.Builtin PySem.Builtin.Str
section
variable {X:Cx} {K:PySem.W.Frag} {o e value:Expr} {f:Str} {pos pos' tpos:Pos} {ta tv:TE}
theorem cG (hK:X.K=K) (he:PE X e ta) (hb:attributeBase e f X.env (eval e X.env)=eval e X.env):PE X (.Attribute e f pos) (Pa K ta f):=by subst hK;exact PX he hb
theorem oH (hK:X.K=K) (ha:PE X o ta) (hv:PE X value tv) (hs:swapsWith value (some (.Attribute o f pos')) pos.line X.env=pure false):PS X (.Assign [.Attribute o f pos'] value pos) (R0 K ta tv f):=by subst hK;exact PJ ha hv hs
end
section
variable {P:Program} {w:World} {K:PySem.W.Frag} {mg:Str->Option Value} {base:Heap}
end
section
variable {X:Cx} {k:Nat} {C:Addr} {x kn:Str} {ps:List Str} {sp:Sp} {e ke:Expr} {es:List Expr} {te:TE} {t:TA} {p pos kpos:Pos} {E:St->XK}
end
end L2
set_option Elab.async false
set_option linter.all false
set_option maxRecDepth 100000
set_option maxHeartbeats 4000000
namespace L2
open PySem PySem.Spec PyProof.Rows
section
variable {X:Cx} {pins:List (Addr×Obj)} {σ:St} {H:Hp} {s:Shared} {scope:Scope} {N own:List Str} {caps:List Nat} {fp:List Addr} {C:Nat} {xc:Str}
end
section
variable {M:Model} {A:Around} {E:Value->Shared->Prop} {s:Shared}
end
section
variable {X:Cx} {elt tg iter:Expr} {ifs:List Expr} {scope:Scope} {pos:Pos} {N own:List Str} {caps:List Nat} {wi:TI} {g:TG} {tc:TT} {te:TE} {xc:Str}
end
end L2
set_option Elab.async false
set_option linter.all false
set_option maxRecDepth 100000
set_option maxHeartbeats 4000000
namespace Tim
open PySem PyProof.Rows
def jd:Bool->Keyed->Array Keyed->Nat->Nat->Nat->StateT SortSt Sem (Option Nat):=sortPriv% PySem.Builtin.gallop
def jU (left:Bool) (key:Keyed) (arr:Array Keyed) (base i:Nat):StateT SortSt Sem (Option Bool):=do
 let x ←elem' arr (base+i)
 if left then lt' x key else return (←lt' key x).map (!·)
theorem BX (left:Bool) (key:Keyed) (arr:Array Keyed) (base n hint:Nat):jd left key arr base n hint=(do
 let mut lastofs:=0
 let mut ofs:=1
 let mut lo:=0
 let mut hi:=0
 let some right ←jU left key arr base hint|return none
 if right then
  let maxofs:=n - hint
  for _ in [0:n] do
   if ofs≥maxofs then break
   let some more ←jU left key arr base (hint+ofs)|return none
   if !more then break
   lastofs:=ofs
   ofs:=2*ofs+1
  lo:=hint+lastofs+1
  hi:=hint+min ofs maxofs
 else
  let maxofs:=hint+1
  for _ in [0:n] do
   if ofs≥maxofs then break
   let some found ←jU left key arr base (hint - ofs)|return none
   if found then break
   lastofs:=ofs
   ofs:=2*ofs+1
  lo:=hint+1 - min ofs maxofs
  hi:=hint - lastofs
 for _ in [0:n] do
  if lo≥hi then break
  let m:=lo+(hi - lo) / 2
  let some more ←jU left key arr base m|return none
  if more then lo:=m+1 else hi:=m
 return some hi):=rfl
section
variable {prog:Program} {w:World} {A:Around} {E:Value->Shared->Prop} {s:Shared} {κ:SortKind} {a₀:Array Keyed} {rk:Value->Nat}
structure Cz (prog:Program) (w:World) (A:Around) (s:Shared) (κ:SortKind) (a₀:Array Keyed) (rk:Value->Nat):Prop where
 ask:∀p∈a₀.toList,∀q∈a₀.toList,∀(E:Value->Shared->Prop) (Q:Bool->Shared->Prop),Q (decide (rk p.1<rk q.1)) s->wpAny (model prog w) A (keyLt' κ p.1 q.1) Q E s
def R (rk:Value->Nat) (xs:Array Keyed) (i:Nat):Nat:=match xs[i]? with
 | some p=>rk p.1
 | none=>0
theorem uz {xs:Array Keyed} {i:Nat} {p:Keyed} (h:xs[i]? = some p):R rk xs i=rk p.1:=by unfold R;rw [h]
theorem eG {xs ys:Array Keyed} {i j:Nat} (h:xs[i]? = ys[j]?):R rk xs i=R rk ys j:=by unfold R;rw [h]
theorem rQ {st:SortSt} {p q:Keyed} {Q:Option Bool->SortSt->Prop} (C:Cz prog w A s κ a₀ rk) (hk:kindOf st=κ) (hp:p∈a₀.toList) (hq:q∈a₀.toList) (h:Q (some (decide (rk p.1<rk q.1))) st):
 wpS (model prog w) A E s (lt' p q) Q st:=by
 rw [lt'_eq];refine wpS_bind (wpS_get ?_);rw [hk];refine wpS_bind (wpS_lift (wpAny_attempt (C.ask p hp q hq _ _ ⟨rfl, ?_⟩)));exact wpS_pure h
theorem bG {st:SortSt} {arr:Array Keyed} {i:Nat} {p:Keyed} {Q:Keyed->SortSt->Prop} (hi:arr[i]? = some p) (h:Q p st):wpS (model prog w) A E s (elem' arr i) Q st:=by
 rw [elem'_eq,hi];exact wpS_pure h
def By (left:Bool) (k r:Nat):Bool:=if left then decide (r<k) else !decide (k<r)
theorem jK {st:SortSt} {left:Bool} {key:Keyed} {arr:Array Keyed} {base i:Nat} {Q:Option Bool->SortSt->Prop} (C:Cz prog w A s κ a₀ rk) (hk:kindOf st=κ) (hkey:key∈a₀.toList) (oV:∀p∈arr.toList,p∈a₀.toList)
 (hi:base+i<arr.size) (h:Q (some (By left (rk key.1) (R rk arr (base+i)))) st):wpS (model prog w) A E s (jU left key arr base i) Q st:=by
 unfold jU;have e:arr[base+i]? = some arr[base+i]:=getElem?_pos arr (base+i) hi;have hm:arr[base+i]∈a₀.toList:=oV _ (by simp);rw [uz e] at h;refine wpS_bind (bG e ?_);cases left with
 | true=>exact rQ C hk hm hkey h
 | false=>exact wpS_bind (rQ C hk hkey hm (wpS_pure h))
theorem xG {left:Bool} {k r r':Nat} (h:By left k r=true) (le:r'<=r):By left k r'=true:=by
 unfold By at *;cases left<;>simp at * <;> omega
theorem uI {left:Bool} {k r r':Nat} (h:By left k r=false) (le:r<=r'):By left k r'=false:=by
 unfold By at *;cases left<;>simp at * <;> omega
def Seg (rk:Value->Nat) (xs:Array Keyed) (lo hi:Nat):Prop:=∀i j,lo<=i->i<=j->j<hi->R rk xs i<=R rk xs j
abbrev GSt:=Option (Option Nat)×Nat×Nat
theorem qt {st:SortSt} {left:Bool} {key:Keyed} {arr:Array Keyed} {base n lo hi:Nat} {Q:GSt->SortSt->Prop} (C:Cz prog w A s κ a₀ rk) (hk:kindOf st=κ) (hkey:key∈a₀.toList) (oV:∀p∈arr.toList,p∈a₀.toList)
 (hn:base+n<=arr.size) (hs:Seg rk arr base (base+n)) (hlh:lo<=hi) (hhn:hi<=n)
 (h1:∀i,i<lo->By left (rk key.1) (R rk arr (base+i))=true) (h2:∀i,hi<=i->i<n->By left (rk key.1) (R rk arr (base+i))=false)
 (h:∀k l,k<=n->(∀i,i<k->By left (rk key.1) (R rk arr (base+i))=true)->(∀i,k<=i->i<n->By left (rk key.1) (R rk arr (base+i))=false)->Q (none,l,k) st):
 wpS (model prog w) A E s (forIn [0:n] ((none,lo,hi):GSt) fun _ __s=>
       if __s.snd.fst≥__s.snd.snd then pure (ForInStep.done (none,__s.snd.fst,__s.snd.snd))
       else do
        let __x ←jU left key arr base (__s.snd.fst+(__s.snd.snd - __s.snd.fst) / 2)
        match __x with
         | some more=>
           if more=true then
            pure (ForInStep.yield (none,__s.snd.fst+(__s.snd.snd - __s.snd.fst) / 2+1,__s.snd.snd))
           else pure (ForInStep.yield (none,__s.snd.fst,__s.snd.fst+(__s.snd.snd - __s.snd.fst) / 2))
         | _=>pure (ForInStep.done (some none,__s.snd.fst,__s.snd.snd))) Q st:=by
 refine wpS_forRange (I:=fun x c st'=>st'=st /\ ∃lo hi,c=(none,lo,hi)/\lo<=hi/\hi<=n/\hi - lo<=n - x/\(∀i,i<lo->By left (rk key.1) (R rk arr (base+i))=true)/\(∀i,hi<=i->i<n->By left (rk key.1) (R rk arr (base+i))=false)) ?step ?fin ⟨rfl,lo,hi,rfl,hlh,hhn,by omega,h1,h2⟩
 case fin=>
  rintro c st' ⟨rfl,lo,hi,rfl,a1,a2,a3,a4,a5⟩;have:lo=hi:=by omega
  subst this;exact h _ _ a2 a4 a5
 case step=>
  rintro x c st' _ hx ⟨rfl,lo,hi,rfl,a1,a2,a3,a4,a5⟩;dsimp only
  by_cases hge:lo≥hi
  ·rw [if_pos hge]
   have:lo=hi:=by omega
   subst this;exact wpS_pure (h _ _ a2 a4 a5)
  ·rw [if_neg hge]
   refine wpS_bind (jK C hk hkey oV (by omega) ?_);dsimp only;cases hb:By left (rk key.1) (R rk arr (base+(lo+(hi - lo) / 2))) with
   | true=>
     simp only [if_true];refine wpS_pure ⟨rfl,_,_,rfl,by omega,a2,by omega,fun i hi'=> ?_,a5⟩;exact xG hb (hs _ _ (by omega) (by omega) (by omega))
   | false=>
     simp only [Bool.false_eq_true,if_false];refine wpS_pure ⟨rfl,_,_,rfl,by omega,by omega,by omega,a4,fun i hi' hin=> ?_⟩;exact uI hb (hs _ _ (by omega) (by omega) (by omega))
theorem gw {st:SortSt} {left:Bool} {key:Keyed} {arr:Array Keyed} {base n hint:Nat} {Q:Option Nat->SortSt->Prop} (C:Cz prog w A s κ a₀ rk) (hk:kindOf st=κ) (hkey:key∈a₀.toList) (oV:∀p∈arr.toList,p∈a₀.toList)
 (hn:base+n<=arr.size) (hh:hint<n) (hs:Seg rk arr base (base+n))
 (h:∀k,k<=n->(∀i,i<k->By left (rk key.1) (R rk arr (base+i))=true)->(∀i,k<=i->i<n->By left (rk key.1) (R rk arr (base+i))=false)->Q (some k) st):
 wpS (model prog w) A E s (jd left key arr base n hint) Q st:=by
 rw [BX];refine wpS_bind (jK C hk hkey oV (by omega) ?_);dsimp only;cases hr:By left (rk key.1) (R rk arr (base+hint)) with
 | true=>
   simp only [if_true]
   refine wpS_bind (wpS_mono (wpS_forRange (I:=fun x c st'=>st'=st /\ ∃l o,c=(none,l,o)/\l<o/\x<o/\hint+l<n/\By left (rk key.1) (R rk arr (base+(hint+l)))=true)
    (Q:=fun c st'=>st'=st /\ ∃l o,c=(none,l,o)/\l<o/\hint+l<n/\By left (rk key.1) (R rk arr (base+(hint+l)))=true/\(o<n - hint->By left (rk key.1) (R rk arr (base+(hint+o)))=false)) ?step ?fin ⟨rfl,0,1,rfl,by omega,by omega,by omega,hr⟩) ?post)
   case fin=>
    rintro c st' ⟨rfl,l,o,rfl,a1,a2,a3,a4⟩;exact ⟨rfl,l,o,rfl,a1,a3,a4,fun z=>by omega⟩
   case step=>
    rintro x c st' _ hx ⟨rfl,l,o,rfl,a1,a2,a3,a4⟩;dsimp only
    by_cases hge:o≥n - hint
    ·rw [if_pos hge]
     exact wpS_pure ⟨rfl,l,o,rfl,a1,a3,a4,fun z=>by omega⟩
    ·rw [if_neg hge]
     refine wpS_bind (jK C hk hkey oV (by omega) ?_);dsimp only;cases hb:By left (rk key.1) (R rk arr (base+(hint+o))) with
     | true=>
       simp only [Bool.not_true,Bool.false_eq_true,if_false];exact wpS_pure ⟨rfl,o,2*o+1,rfl,by omega,by omega,by omega,hb⟩
     | false=>
       simp only [Bool.not_false,if_true];exact wpS_pure ⟨rfl,l,o,rfl,a1,a3,a4,fun _=>hb⟩
   case post=>
    rintro c st' ⟨rfl,l,o,rfl,a1,a2,a3,a4⟩;dsimp only;refine wpS_bind (qt C hk hkey oV hn hs (by omega) (by omega) (fun i hi=> ?_) (fun i hi hin=> ?_) fun k l' b1 b2 b3=>wpS_pure (h k b1 b2 b3))
    ·exact xG a3 (hs _ _ (by omega) (by omega) (by omega))
    ·exact uI (a4 (by omega)) (hs _ _ (by omega) (by omega) (by omega))
 | false=>
   simp only [Bool.false_eq_true,if_false]
   refine wpS_bind (wpS_mono (wpS_forRange (I:=fun x c st'=>st'=st /\ ∃l o,c=(none,l,o)/\l<o/\x<o/\l<=hint/\By left (rk key.1) (R rk arr (base+(hint - l)))=false)
    (Q:=fun c st'=>st'=st /\ ∃l o,c=(none,l,o)/\l<o/\l<=hint/\By left (rk key.1) (R rk arr (base+(hint - l)))=false/\(o<hint+1->By left (rk key.1) (R rk arr (base+(hint - o)))=true)) ?step ?fin ⟨rfl,0,1,rfl,by omega,by omega,by omega,hr⟩) ?post)
   case fin=>
    rintro c st' ⟨rfl,l,o,rfl,a1,a2,a3,a4⟩;exact ⟨rfl,l,o,rfl,a1,a3,a4,fun z=>by omega⟩
   case step=>
    rintro x c st' _ hx ⟨rfl,l,o,rfl,a1,a2,a3,a4⟩;dsimp only
    by_cases hge:o≥hint+1
    ·rw [if_pos hge]
     exact wpS_pure ⟨rfl,l,o,rfl,a1,a3,a4,fun z=>by omega⟩
    ·rw [if_neg hge]
     refine wpS_bind (jK C hk hkey oV (by omega) ?_);dsimp only;cases hb:By left (rk key.1) (R rk arr (base+(hint - o))) with
     | true=>
       simp only [if_true];exact wpS_pure ⟨rfl,l,o,rfl,a1,a3,a4,fun _=>hb⟩
     | false=>
       simp only [Bool.false_eq_true,if_false];exact wpS_pure ⟨rfl,o,2*o+1,rfl,by omega,by omega,by omega,hb⟩
   case post=>
    rintro c st' ⟨rfl,l,o,rfl,a1,a2,a3,a4⟩;dsimp only;refine wpS_bind (qt C hk hkey oV hn hs (by omega) (by omega) (fun i hi=> ?_) (fun i hi hin=> ?_) fun k l' b1 b2 b3=>wpS_pure (h k b1 b2 b3))
    ·exact xG (a4 (by omega)) (hs _ _ (by omega) (by omega) (by omega))
    ·exact uI a3 (hs _ _ (by omega) (by omega) (by omega))
end
end Tim
set_option Elab.async false
set_option linter.all false
set_option maxRecDepth 100000
set_option maxHeartbeats 4000000
namespace Tim
open PySem PyProof.Rows
def dO:Nat->StateT SortSt Sem Unit:=sortPriv% PySem.Builtin.setMinGallop
theorem pL (g:Nat):dO g=modify fun s=>SortSt.mk' (kindOf s) (arrOf s) (pendingOf s) g (failedOf s):=rfl
def tH:Array Keyed->Array Keyed->StateT SortSt Sem (Array Keyed):=sortPriv% PySem.Builtin.mergeLo
def tK:Array Keyed->Array Keyed->StateT SortSt Sem (Array Keyed):=sortPriv% PySem.Builtin.mergeHi
abbrev eN (a b out:Array Keyed) (ia ib:Nat):Array Keyed:=out++a.extract ia a.size++b.extract ib b.size
abbrev m_ (a b out:Array Keyed) (ia ib:Nat):Array Keyed:=out++b.extract ib b.size++a.extract ia a.size
theorem yM (a b:Array Keyed):tH a b=(do
 rule "list.sort.merge-lo"
 let total:=a.size+b.size
 let mut out:Array Keyed:= #[←elem' b 0]
 let mut ia:=0
 let mut ib:=1
 if ib==b.size then return eN a b out ia ib
 if ia+1==a.size then return m_ a b out ia ib
 let mut minGallop:=gallopOf (←get)
 for _ in [0:total] do
  let mut acount:=0
  let mut bcount:=0
  for _ in [0:total] do
   let some bWins ←lt' (←elem' b ib) (←elem' a ia)|return eN a b out ia ib
   if bWins then
    out:=out.push (←elem' b ib);ib:=ib+1;bcount:=bcount+1;acount:=0
    if ib==b.size then return eN a b out ia ib
    if bcount≥minGallop then break
   else
    out:=out.push (←elem' a ia);ia:=ia+1;acount:=acount+1;bcount:=0
    if ia+1==a.size then return m_ a b out ia ib
    if acount≥minGallop then break
  rule "list.sort.gallop"
  minGallop:=minGallop+1
  for _ in [0:total] do
   if minGallop>1 then minGallop:=minGallop - 1
   dO minGallop
   let some k ←jd false (←elem' b ib) a ia (a.size - ia) 0|return eN a b out ia ib
   acount:=k
   if k>0 then
    out:=out++a.extract ia (ia+k);ia:=ia+k
    if ia+1==a.size then return m_ a b out ia ib
    if ia==a.size then return eN a b out ia ib
   out:=out.push (←elem' b ib);ib:=ib+1
   if ib==b.size then return eN a b out ia ib
   let some k ←jd true (←elem' a ia) b ib (b.size - ib) 0|return eN a b out ia ib
   bcount:=k
   if k>0 then
    out:=out++b.extract ib (ib+k);ib:=ib+k
    if ib==b.size then return eN a b out ia ib
   out:=out.push (←elem' a ia);ia:=ia+1
   if ia+1==a.size then return m_ a b out ia ib
   if acount<7&&bcount<7 then break
  minGallop:=minGallop+1
  dO minGallop
 unsupported "internal:list.sort.merge-bound"):=rfl
section
variable {rk:Value->Nat} {a b out:Array Keyed} {ia ib k:Nat}
def Le (rk:Value->Nat) (x y:Keyed):Prop:=rk x.1<=rk y.1
def Gy (rk:Value->Nat) (l:List Keyed):Prop:=l.Pairwise (Le rk)
structure MI (rk:Value->Nat) (a b out:Array Keyed) (ia ib:Nat):Prop where
 perm:(out.toList++(a.toList.drop ia++b.toList.drop ib)).Perm (a.toList++b.toList)
 sa:Gy rk (out.toList++a.toList.drop ia)
 sb:Gy rk (out.toList++b.toList.drop ib)
structure Mg (rk:Value->Nat) (a b r:Array Keyed):Prop where
 perm:r.toList.Perm (a.toList++b.toList)
 srt:Gy rk r.toList
theorem cD (a:Array Keyed) (i j:Nat):(a.extract i j).toList=(a.toList.drop i).take (j - i):=by
 rw [Array.toList_extract,List.extract_eq_take_drop]
theorem t_ (l:List Keyed) (i k:Nat):l.drop i=(l.drop i).take k++l.drop (i+k):=by
 rw [←List.drop_drop,List.take_append_drop]
theorem fZ {a:Array Keyed} {i:Nat} (h:i<a.size):R rk a i=rk (a[i]).1:=uz (getElem?_pos a i h)
theorem Jf {a:Array Keyed} {x:Keyed} (h:x∈a.toList.drop ia):∃j,ia<=j/\j<a.size/\R rk a j=rk x.1:=by
 obtain ⟨j,hj,e⟩:=List.getElem_of_mem h;rw [List.length_drop,Array.length_toList] at hj;rw [List.getElem_drop,Array.getElem_toList] at e;exact ⟨ia+j,by (clear e hj;omega),by (clear e;omega),by rw [fZ (by (clear e;omega)),e]⟩
theorem gO {a:Array Keyed} {x:Keyed} (h:x∈(a.toList.drop ia).take k):∃j,j<k/\ia+j<a.size/\R rk a (ia+j)=rk x.1:=by
 obtain ⟨j,hj,e⟩:=List.getElem_of_mem h;rw [List.length_take,List.length_drop,Array.length_toList] at hj;rw [List.getElem_take,List.getElem_drop,Array.getElem_toList] at e;exact ⟨j,by (clear e;omega),by (clear e;omega),by rw [fZ (by (clear e;omega)),e]⟩
theorem gH {x y:List Keyed}:Gy rk (x++y)↔Gy rk x/\Gy rk y /\ ∀p∈x,∀q∈y,rk p.1<=rk q.1:=List.pairwise_append
theorem MI.qg (m:MI rk a b out ia ib) (hle:∀i,i<k->ib+i<b.size -> ∀j,ia<=j->j<a.size->R rk b (ib+i)<=R rk a j):MI rk a b (out++b.extract ib (ib+k)) ia (ib+k):=by
 have e:(out++b.extract ib (ib+k)).toList=out.toList++(b.toList.drop ib).take k:=by rw [Array.toList_append,cD];congr 2;omega
 have sp:=t_ b.toList ib k;refine ⟨?_, ?_, ?_⟩
 ·rw [e]
  refine List.Perm.trans ?_ m.perm;rw [List.append_assoc];refine List.Perm.append_left _ ?_;refine List.Perm.trans ?_ (List.Perm.of_eq (congrArg (a.toList.drop ia ++ ·) sp.symm));rw [←List.append_assoc];refine List.Perm.trans (List.Perm.append_right _ (List.perm_append_comm)) (List.Perm.of_eq (List.append_assoc _ _ _))
 ·rw [e,List.append_assoc]
  have h1:=gH.mp m.sa;have h2:=m.sb;rw [sp] at h2;have h3:=gH.mp h2;have h4:=gH.mp h3.2.1;refine gH.mpr ⟨h1.1,gH.mpr ⟨h4.1,h1.2.1,fun p hp q hq=> ?_⟩,fun p hp q hq=> ?_⟩
  ·obtain ⟨i,i1,i2,i3⟩:=gO (rk:=rk) hp
   obtain ⟨j,j1,j2,j3⟩:=Jf (rk:=rk) hq;rw [←i3,←j3];exact hle i i1 i2 j j1 j2
  ·rcases List.mem_append.mp hq with hq|hq
   ·exact h3.2.2 p hp q (List.mem_append_left _ hq)
   ·exact h1.2.2 p hp q hq
 ·rw [e,List.append_assoc,←sp]
  exact m.sb
theorem MI.swap (m:MI rk a b out ia ib):MI rk b a out ib ia:=⟨(List.Perm.append_left _ List.perm_append_comm).trans (m.perm.trans List.perm_append_comm),m.sb,m.sa⟩
theorem MI.qj (m:MI rk a b out ia ib) (hle:∀i,i<k->ia+i<a.size -> ∀j,ib<=j->j<b.size->R rk a (ia+i)<=R rk b j):MI rk a b (out++a.extract ia (ia+k)) (ia+k) ib:=(m.swap.qg hle).swap
theorem yh (h:ib<b.size):out.push b[ib]=out++b.extract ib (ib+1):=by
 apply Array.toList_inj.mp;rw [Array.toList_push,Array.toList_append,cD];congr 1;rw [show ib+1 - ib=1 by (clear h;omega),List.drop_eq_getElem_cons (by rw [Array.length_toList];exact h)];rfl
theorem MI.sU (m:MI rk a b out ia ib) (h:ib<b.size) (hle:∀j,ia<=j->j<a.size->R rk b ib<=R rk a j):MI rk a b (out.push b[ib]) ia (ib+1):=by
 rw [yh h];refine m.qg (k:=1) fun i hi hb j j1 j2=> ?_;have:i=0:=by (clear j2 j1 hb h;omega)
 subst this;exact hle j j1 j2
theorem MI.sV (m:MI rk a b out ia ib) (h:ia<a.size) (hle:∀j,ib<=j->j<b.size->R rk a ia<=R rk b j):MI rk a b (out.push a[ia]) (ia+1) ib:=(m.swap.sU h hle).swap
theorem MI.done (m:MI rk a b out ia ib) (h:ia=a.size\/ib=b.size):Mg rk a b (eN a b out ia ib):=by
 have e:(eN a b out ia ib).toList=out.toList++(a.toList.drop ia++b.toList.drop ib):=by
  unfold eN;rw [Array.toList_append,Array.toList_append,cD,cD,List.append_assoc];congr 2
  ·rw [List.take_of_length_le];rw [List.length_drop,Array.length_toList];exact Nat.le_refl _
  ·rw [List.take_of_length_le];rw [List.length_drop,Array.length_toList];exact Nat.le_refl _
 refine ⟨by rw [e];exact m.perm, ?_⟩;rw [e];rcases h with h|h
 ·rw [h,show a.toList.drop a.size=[] by rw [List.drop_eq_nil_of_le];rw [Array.length_toList];exact Nat.le_refl _,List.nil_append]
  exact m.sb
 ·rw [h,show b.toList.drop b.size=[] by rw [List.drop_eq_nil_of_le];rw [Array.length_toList];exact Nat.le_refl _,List.append_nil]
  exact m.sa
theorem MI.last (m:MI rk a b out ia ib) (h:∀i j,ib<=i->i<b.size->ia<=j->j<a.size->R rk b i<=R rk a j):Mg rk a b (m_ a b out ia ib):=by
 have m2:=m.qg (k:=b.size - ib) fun i hi hb j j1 j2=>h _ _ (by (clear j2 j1 hb hi;omega)) hb j1 j2
 have e:(m_ a b out ia ib)=eN a b (out++b.extract ib (ib+(b.size - ib))) ia (ib+(b.size - ib)):=by
  unfold eN m_;apply Array.toList_inj.mp;simp only [Array.toList_append,cD]
  have e1:(b.toList.drop (ib+(b.size - ib))).take (b.size - (ib+(b.size - ib)))=[]:=by
   rw [List.take_eq_nil_iff];left;omega
  rw [e1,List.append_nil];congr 3
  (clear e1;omega)
 rw [e]
 by_cases hb:ib<=b.size
 ·exact m2.done (.inr (by (clear e;omega)))
 ·refine ⟨?_, ?_⟩
  ·have:=m2.perm
   have e2:(eN a b (out++b.extract ib (ib+(b.size - ib))) ia (ib+(b.size - ib))).toList=(out++b.extract ib (ib+(b.size - ib))).toList++(a.toList.drop ia++b.toList.drop (ib+(b.size - ib))):=by
    unfold eN;rw [Array.toList_append,Array.toList_append,cD,cD,List.append_assoc];congr 2
    ·rw [List.take_of_length_le];rw [List.length_drop,Array.length_toList];exact Nat.le_refl _
    ·rw [List.take_of_length_le];rw [List.length_drop,Array.length_toList];exact Nat.le_refl _
   rw [e2];exact this
  ·unfold eN
   rw [Array.toList_append,Array.toList_append,cD (a:=b) (i:=ib+(b.size - ib)),show b.size - (ib+(b.size - ib))=0 by (clear hb e;omega),List.take_zero,List.append_nil,cD (a:=a)];rw [List.take_of_length_le (by rw [List.length_drop,Array.length_toList];exact Nat.le_refl _)];exact m2.sa
end
end Tim
set_option Elab.async false
set_option linter.all false
set_option maxRecDepth 100000
set_option maxHeartbeats 4000000
namespace Tim
open PySem PyProof.Rows
section
variable {prog:Program} {w:World} {A:Around} {E:Value->Shared->Prop} {s:Shared} {κ:SortKind} {a₀:Array Keyed} {rk:Value->Nat}
structure xP (st st':SortSt):Prop where
 k:kindOf st'=kindOf st
 a:arrOf st'=arrOf st
 p:pendingOf st'=pendingOf st
 f:failedOf st'=failedOf st
theorem xP.refl (st:SortSt):xP st st:=⟨rfl,rfl,rfl,rfl⟩
theorem xP.trans {a b c:SortSt} (h:xP a b) (g:xP b c):xP a c:=⟨g.k.trans h.k,g.a.trans h.a,g.p.trans h.p,g.f.trans h.f⟩
theorem lF {st:SortSt} {g:Nat} {Q:Unit->SortSt->Prop} (h:∀st',xP st st'->Q () st'):wpS (model prog w) A E s (dO g) Q st:=by
 rw [pL];exact wpS_modify (h _ ⟨rfl,rfl,rfl,rfl⟩)
theorem aN {α:Type} {c:Prop} [Decidable c] {x y:StateT SortSt Sem α} {Q:α->SortSt->Prop} {st:SortSt} (h1:c->wpS (model prog w) A E s x Q st) (h2:¬c->wpS (model prog w) A E s y Q st):wpS (model prog w) A E s (if c then x else y) Q st:=by
 by_cases hc:c
 ·rw [if_pos hc];exact h1 hc
 ·rw [if_neg hc];exact h2 hc
theorem Rk {k r:Nat} (h:By true k r=true):r<k:=by simpa [By] using h
theorem NP {k r:Nat} (h:By false k r=true):r<=k:=by simpa [By] using h
theorem zT {k r:Nat} (h:By true k r=false):k<=r:=by simpa [By] using h
theorem Kl {k r:Nat} (h:By false k r=false):k<r:=by simpa [By] using h
theorem xQ {st:SortSt} {a b:Array Keyed} {Q:Array Keyed->SortSt->Prop} (C:Cz prog w A s κ a₀ rk) (hk:kindOf st=κ) (ha:∀p∈a.toList,p∈a₀.toList) (hb:∀p∈b.toList,p∈a₀.toList)
 (ha1:1<=a.size) (hb1:1<=b.size) (sa:Seg rk a 0 a.size) (sb:Seg rk b 0 b.size) (h0:R rk b 0<=R rk a 0) (hl:R rk b (b.size - 1)<=R rk a (a.size - 1))
 (h:∀r st',xP st st'->Mg rk a b r->Q r st'):wpS (model prog w) A E s (tH a b) Q st:=by
 have Tr:∀i,i<b.size -> ∃p,b[i]? = some p/\p∈a₀.toList/\R rk b i=rk p.1:=fun i hi=>⟨b[i],getElem?_pos b i hi,hb _ (by simp),fZ hi⟩;have Om:∀i,i<a.size -> ∃p,a[i]? = some p/\p∈a₀.toList/\R rk a i=rk p.1:=fun i hi=>⟨a[i],getElem?_pos a i hi,ha _ (by simp),fZ hi⟩
 have mid:∀i j,i<b.size->j+1=a.size->R rk b i<=R rk a j:=fun i j hi hj=>by
  have:=sb i (b.size - 1) (by (clear hj hi hl h0 hb1 ha1 hk;lia)) (by (clear hj hl h0 hb1 ha1 hk;lia)) (by (clear hj hi hl h0 ha1 hk;lia));have e:a.size - 1=j:=by (clear this hi hl h0 hb1 ha1 hk;lia)
  rw [e] at hl
  (clear e hj hi h0 hb1 ha1 hk;lia)
 have m0:MI rk a b #[b[0]] 0 1:=by
  have m:MI rk a b #[] 0 0:=by
   refine ⟨by simp, ?_, ?_⟩
   ·show Gy rk ([]++a.toList.drop 0)
    rw [List.nil_append,List.drop_zero];refine List.pairwise_iff_getElem.mpr fun i j hi hj hij=> ?_;rw [Array.length_toList] at hi hj;have:=sa i j (by (clear hij hj hi hl h0 hb1 ha1 hk;lia)) (by (clear hj hi hl h0 hb1 ha1 hk;lia)) hj;rw [fZ hi,fZ hj] at this;simpa [Le] using this
   ·show Gy rk ([]++b.toList.drop 0)
    rw [List.nil_append,List.drop_zero];refine List.pairwise_iff_getElem.mpr fun i j hi hj hij=> ?_;rw [Array.length_toList] at hi hj;have:=sb i j (by (clear hij hj hi hl h0 hb1 ha1 hk;lia)) (by (clear hj hi hl h0 hb1 ha1 hk;lia)) hj;rw [fZ hi,fZ hj] at this;simpa [Le] using this
  exact m.sU (by (clear hl h0 ha1 hk;lia)) fun j _ j2=>Nat.le_trans h0 (sa 0 j (by (clear j2 hl h0 hb1 ha1 hk;lia)) (by (clear j2 hl h0 hb1 ha1 hk;lia)) j2)
 rw [yM];refine wpS_bind (wpS_lift (wpAny_rule ⟨rfl, ?_⟩));refine wpS_bind (bG (p:=b[0]) (getElem?_pos b 0 (by (clear hl h0 ha1 hk;lia))) ?_);dsimp only;refine aN (fun e=> ?_) (fun e=> ?_)
 ·have e:1=b.size:=by simpa using e
  exact wpS_pure (h _ _ (.refl _) (m0.done (.inr e)))
 have eb:¬1=b.size:=by simpa using e
 refine aN (fun e=> ?_) (fun e=> ?_)
 ·have e:1=a.size:=by simpa using e
  exact wpS_pure (h _ _ (.refl _) (m0.last fun i j _ hi _ hj=>mid i j hi (by (clear hi eb hl h0 ha1 hk;lia))))
 have ea:¬1=a.size:=by simpa using e
 refine wpS_bind (wpS_get ?_)
 refine wpS_bind (wpS_mono (wpS_forRange (I:=fun x c st'=>xP st st' /\ ∃out ia ib mg,c=(none,out,ia,ib,mg)/\MI rk a b out ia ib/\ia+2<=a.size/\ib+1<=b.size/\(a.size - ia)+(b.size - ib)+x<=a.size+b.size)
  (Q:=fun c st'=>xP st st' /\ ∃r cc,c=(some r,cc)/\Mg rk a b r) ?step ?fin ⟨.refl _,_,_,_,_,rfl,m0,by (clear e eb hl h0 hk;lia),by (clear ea e hl h0 ha1 hk;lia),by (clear ea e eb hl h0 ha1 hk;lia)⟩) ?post)
 case post=>
  rintro c st' ⟨kp,r,cc,rfl,m⟩;exact wpS_pure (h _ _ kp m)
 case fin=>
  rintro c st' ⟨kp,out,ia,ib,mg,rfl,m,a1,b1,le⟩
  (clear b1 ea e eb hl h0 ha1 hk;lia)
 case step=>
  rintro x c st' _ hx ⟨kp,out,ia,ib,mg,rfl,m,a1,b1,le⟩;dsimp only
  refine wpS_bind (wpS_mono (wpS_forRange (I:=fun y c st2=>st2=st' /\ ∃out ia ib ac bc,c=(none,out,ia,ib,ac,bc)/\MI rk a b out ia ib/\ia+2<=a.size/\ib+1<=b.size/\(a.size - ia)+(b.size - ib)+x+y<=a.size+b.size)
   (Q:=fun c st2=>st2=st'/\((∃r cc,c=(some r,cc)/\Mg rk a b r) \/ ∃out ia ib ac bc,c=(none,out,ia,ib,ac,bc)/\MI rk a b out ia ib/\ia+2<=a.size/\ib+1<=b.size/\(a.size - ia)+(b.size - ib)+x+1<=a.size+b.size)) ?step1 ?QX ⟨rfl,_,_,_,_,_,rfl,m,a1,b1,by (clear b1 a1 hx ea e eb hl h0 ha1 hk;lia)⟩) ?H_)
  case QX=>
   rintro c st2 ⟨rfl,out,ia,ib,ac,bc,rfl,m,a1,b1,le⟩
   (clear b1 hx ea e eb hl h0 ha1 hk;lia)
  case step1=>
   rintro y c st2 _ hy ⟨rfl,out,ia,ib,ac,bc,rfl,m,a1,b1,le⟩;dsimp only;obtain ⟨p,ep,mp,rp⟩:=Tr ib (by (clear le a1 hy hx ea e eb hl h0 ha1 hk;lia));obtain ⟨q,eq,mq,rq⟩:=Om ia (by (clear rp ep le b1 hy hx ea e eb hl h0 ha1 hk;lia));refine wpS_bind (bG ep (wpS_bind (bG eq (wpS_bind (rQ C (kp.k.trans hk) mp mq ?_)))));dsimp only;have bR:p=b[ib]:=by rw [getElem?_pos b ib (by (clear rq eq rp ep le a1 hy hx ea e eb hl h0 ha1 hk;lia))] at ep;exact (Option.some.inj ep).symm
   have fL:q=a[ia]:=by rw [getElem?_pos a ia (by (clear bR rq eq rp ep le b1 hy hx ea e eb hl h0 ha1 hk;lia))] at eq;exact (Option.some.inj eq).symm
   refine aN (fun lt=> ?_) (fun lt=> ?_)
   ·have lt:R rk b ib<R rk a ia:=by rw [rp,rq];simpa using lt
    have m2:MI rk a b (out.push p) ia (ib+1):=by
     rw [bR];exact m.sU (by (clear lt fL bR rq eq rp ep le a1 hy hx ea e eb hl h0 ha1 hk;lia)) fun j j1 j2=>by have:=sa ia j (by (clear j2 j1 lt fL bR rq eq rp ep le b1 a1 hy hx ea e eb hl h0 ha1 hk;lia)) j1 j2;(clear j2 j1 fL bR rq eq rp ep le b1 a1 hy hx ea e eb hl h0 ha1 hk;lia)
    refine wpS_bind (bG ep ?_);refine aN (fun e=> ?_) (fun e=> ?_)
    ·exact wpS_pure ⟨rfl,.inl ⟨_,_,rfl,m2.done (.inr (by simpa using e))⟩⟩
    have e:¬ib+1=b.size:=by simpa using e
    refine aN (fun _=> ?_) (fun _=> ?_)
    ·exact wpS_pure ⟨rfl,.inr ⟨_,_,_,_,_,rfl,m2,a1,by (clear lt fL bR rq eq rp ep le a1 hy hx ea eb hl h0 ha1 hk;lia),by (clear e lt fL bR rq eq rp ep a1 hy hx ea eb hl h0 ha1 hk;lia)⟩⟩
    ·exact wpS_pure ⟨rfl,_,_,_,_,_,rfl,m2,a1,by (clear lt fL bR rq eq rp ep le a1 hy hx ea eb hl h0 ha1 hk;lia),by (clear e lt fL bR rq eq rp ep a1 hy hx ea eb hl h0 ha1 hk;lia)⟩
   ·have lt:R rk a ia<=R rk b ib:=by rw [rp,rq];simpa using lt
    have m2:MI rk a b (out.push q) (ia+1) ib:=by
     rw [fL];exact m.sV (by (clear lt fL bR rq eq rp ep le b1 hy hx ea e eb hl h0 ha1 hk;lia)) fun j j1 j2=>by have:=sb ib j (by (clear j2 j1 lt fL bR rq eq rp ep le b1 a1 hy hx ea e eb hl h0 ha1 hk;lia)) j1 j2;(clear j2 j1 fL bR rq eq rp ep le b1 a1 hy hx ea e eb hl h0 ha1 hk;lia)
    refine wpS_bind (bG eq ?_);refine aN (fun e=> ?_) (fun e=> ?_)
    ·have e:ia+1+1=a.size:=by simpa using e
     exact wpS_pure ⟨rfl,.inl ⟨_,_,rfl,m2.last fun i j _ hi _ hj=>mid i j hi (by (clear hi lt fL bR rq eq rp ep le b1 a1 hy hx ea eb hl h0 ha1 hk;lia))⟩⟩
    have e:¬ia+1+1=a.size:=by simpa using e
    refine aN (fun _=> ?_) (fun _=> ?_)
    ·exact wpS_pure ⟨rfl,.inr ⟨_,_,_,_,_,rfl,m2,by (clear lt fL bR rq eq rp ep le b1 hy hx ea eb hl h0 ha1 hk;lia),b1,by (clear e lt fL bR rq eq rp ep b1 hy hx ea eb hl h0 ha1 hk;lia)⟩⟩
    ·exact wpS_pure ⟨rfl,_,_,_,_,_,rfl,m2,by (clear lt fL bR rq eq rp ep le b1 hy hx ea eb hl h0 ha1 hk;lia),b1,by (clear e lt fL bR rq eq rp ep b1 hy hx ea eb hl h0 ha1 hk;lia)⟩
  case H_=>
   rintro c st2 ⟨rfl,(⟨r,cc,rfl,mr⟩|⟨out,ia,ib,ac,bc,rfl,m,a1,b1,le⟩)⟩
   ·exact wpS_pure ⟨kp,r,_,rfl,mr⟩
   dsimp only;refine wpS_bind (wpS_lift (wpAny_rule ⟨rfl, ?_⟩))
   refine wpS_bind (wpS_mono (wpS_forRange (I:=fun y c st3=>xP st st3 /\ ∃out ia ib mg ac bc,c=(none,out,ia,ib,mg,ac,bc)/\MI rk a b out ia ib/\ia+2<=a.size/\ib+1<=b.size/\(a.size - ia)+(b.size - ib)+x+1+y<=a.size+b.size)
    (Q:=fun c st3=>xP st st3/\((∃r cc,c=(some r,cc)/\Mg rk a b r) \/ ∃out ia ib mg ac bc,c=(none,out,ia,ib,mg,ac,bc)/\MI rk a b out ia ib/\ia+2<=a.size/\ib+1<=b.size/\(a.size - ia)+(b.size - ib)+x+1<=a.size+b.size)) ?Ho ?fin2 ⟨kp,_,_,_,_,_,_,rfl,m,a1,b1,by (clear b1 a1 hx ea e eb hl h0 ha1 hk;lia)⟩) ?post2)
   case fin2=>
    rintro c st3 ⟨Jk,out,ia,ib,mg,ac,bc,rfl,m,a1,b1,le⟩
    (clear b1 a1 hx ea e eb hl h0 ha1 hk;lia)
   case post2=>
    rintro c st3 ⟨Jk,(⟨r,cc,rfl,mr⟩|⟨out,ia,ib,mg,ac,bc,rfl,m,a1,b1,le⟩)⟩
    ·exact wpS_pure ⟨Jk,r,_,rfl,mr⟩
    dsimp only;refine wpS_bind (lF fun kj k4=>wpS_pure ⟨Jk.trans k4,_,_,_,_,rfl,m,a1,b1,by (clear b1 a1 hx ea e eb hl h0 ha1 hk;lia)⟩)
   case Ho=>
    rintro y c st3 _ hy ⟨Jk,out,ia,ib,mg,ac,bc,rfl,m,a1,b1,le⟩;dsimp only;refine aN (fun _=> ?_) (fun _=> ?_)
    all_goals
     refine wpS_bind (lF fun kj k4=> ?_);have wL:=Jk.trans k4;obtain ⟨p,ep,mp,rp⟩:=Tr ib (by (clear le a1 hy hx ea e eb hl h0 ha1 hk;lia));have bR:p=b[ib]:=by rw [getElem?_pos b ib (by (clear rp ep le a1 hy hx ea e eb hl h0 ha1 hk;lia))] at ep;exact (Option.some.inj ep).symm
     refine wpS_bind (bG ep (wpS_bind (gw C (wL.k.trans hk) mp ha (by (clear bR rp ep le b1 hy hx ea e eb hl h0 ha1 hk;lia)) (by (clear bR rp ep le b1 hy hx ea e eb hl h0 ha1 hk;lia)) (fun i j h1 h2 h3=>sa i j (by (clear h3 h2 h1 bR rp ep le b1 a1 hy hx ea e eb hl h0 ha1 hk;lia)) h2 (by (clear h2 h1 bR rp ep le b1 hy hx ea e eb hl h0 ha1 hk;lia))) fun k k1 k2 k3=> ?_)));dsimp only
     have mA:MI rk a b (out++a.extract ia (ia+k)) (ia+k) ib:=m.qj (k:=k) fun i hi hs j j1 j2=>by
      have e1:=NP (k2 i hi);have e2:=sb ib j (by (clear e1 j2 j1 hs hi k1 bR rp ep le b1 a1 hy hx ea e eb hl h0 ha1 hk;lia)) j1 j2;rw [rp] at e2
      (clear j2 j1 hs hi k1 bR rp ep le b1 a1 hy hx ea e eb hl h0 ha1 hk;lia)
     have nxt:∀j,ia+k<=j->j<a.size->R rk b ib<=R rk a j:=fun j j1 j2=>by
      have:=Kl (k3 (j - ia) (by (clear j2 k1 bR rp ep le b1 a1 hy hx ea e eb hl h0 ha1 hk;lia)) (by (clear j1 k1 bR rp ep le b1 hy hx ea e eb hl h0 ha1 hk;lia)));rw [show ia+(j - ia)=j by (clear this j2 k1 bR rp ep le b1 a1 hy hx ea e eb hl h0 ha1 hk;lia)] at this;rw [rp];(clear j2 j1 k1 bR rp ep le b1 a1 hy hx ea e eb hl h0 ha1 hk;lia)
     apply aN
     case' h1=>
      intro kpos;refine aN (fun e=> ?_) (fun e=> ?_)
      ·have e:ia+k+1=a.size:=by simpa using e
       exact wpS_pure ⟨wL,.inl ⟨_,_,rfl,mA.last fun i j _ hi _ hj=>mid i j hi (by (clear hi kpos k1 bR rp ep le b1 a1 hy hx ea eb hl h0 ha1 hk;lia))⟩⟩
      have e1:¬ia+k+1=a.size:=by simpa using e
      refine aN (fun e=> ?_) (fun e=> ?_)
      ·exact wpS_pure ⟨wL,.inl ⟨_,_,rfl,mA.done (.inl (by simpa using e))⟩⟩
      have e2:¬ia+k=a.size:=by simpa using e
      have a3:ia+k+2<=a.size:=by (clear e kpos bR rp ep le b1 hy hx ea eb hl h0 ha1 hk;lia)
      have fD:(a.size - (ia+k))+(b.size - ib)+x+1+y<=a.size+b.size:=by (clear a3 e2 e e1 kpos k1 bR rp ep b1 a1 hy hx ea eb hl h0 ha1 hk;lia)
      generalize out++a.extract ia (ia+k)=aeV at mA ⊢;generalize ia+k=ia3 at mA nxt a3 fD ⊢
     case' h2=>
      intro kpos;have k0:k=0:=by (clear k1 bR rp ep le b1 a1 hy hx ea e eb hl h0 ha1 hk;lia)
      have a3:ia+2<=a.size:=by (clear k0 kpos k1 bR rp ep le b1 hy hx ea e eb hl h0 ha1 hk;lia)
      have fD:(a.size - ia)+(b.size - ib)+x+1+y<=a.size+b.size:=by (clear a3 k0 kpos k1 bR rp ep b1 a1 hy hx ea e eb hl h0 ha1 hk;lia)
      subst k0
      replace nxt:∀j,ia<=j->j<a.size->R rk b ib<=R rk a j:=nxt
      replace mA:=m
     all_goals
      have mB:=mA.sU (by (clear kpos k1 fD a3 bR rp ep le a1 hy hx ea e eb hl h0 ha1 hk;lia)) nxt;rw [←bR] at mB;refine wpS_bind (bG ep ?_);refine aN (fun e=> ?_) (fun e=> ?_)
      ·exact wpS_pure ⟨wL,.inl ⟨_,_,rfl,mB.done (.inr (by simpa using e))⟩⟩
      have e3:¬ib+1=b.size:=by simpa using e
      obtain ⟨q,eq,mq,rq⟩:=Om _ (show _<a.size from Nat.lt_of_lt_of_le (Nat.lt_succ_of_lt (Nat.lt_succ_self _)) a3);refine wpS_bind (bG eq (wpS_bind (gw C (wL.k.trans hk) mq hb (by (clear rq eq e3 e kpos k1 fD a3 bR rp ep le a1 hy hx ea eb hl h0 ha1 hk;lia)) (by (clear rq eq e kpos k1 fD a3 bR rp ep le a1 hy hx ea eb hl h0 ha1 hk;lia)) (fun i j h1 h2 h3=>sb i j (by (clear h3 h2 h1 rq eq e3 e kpos k1 fD a3 bR rp ep le b1 a1 hy hx ea eb hl h0 ha1 hk;lia)) h2 (by (clear h2 h1 rq eq e3 e kpos k1 fD a3 bR rp ep le a1 hy hx ea eb hl h0 ha1 hk;lia))) fun k' l1 l2 l3=> ?_)));dsimp only
      have mC:=mB.qg (k:=k') fun i hi hs j j1 j2=>by
       have e1:=Rk (l2 i hi);have e2:=sa _ j (by (clear e1 j2 j1 hs hi l1 rq eq e3 e kpos k1 fD a3 bR rp ep le b1 a1 hy hx ea eb hl h0 ha1 hk;lia)) j1 j2;rw [rq] at e2
       (clear j2 j1 hs hi l1 rq eq e3 e kpos k1 fD a3 bR rp ep le b1 a1 hy hx ea eb hl h0 ha1 hk;lia)
      apply aN
      case' h1=>
       intro kpos;refine aN (fun e=> ?_) (fun e=> ?_)
       ·exact wpS_pure ⟨wL,.inl ⟨_,_,rfl,mC.done (.inr (by simpa using e))⟩⟩
       have e5:¬ib+1+k'=b.size:=by simpa using e
       have nx:∀j,ib+1+k'<=j->j<b.size->rk q.1<=R rk b j:=fun j j1 j2=>by
        have:=zT (l3 (j - (ib+1)) (by (clear j2 e5 e kpos l1 rq eq e3 k1 fD a3 bR rp ep le b1 a1 hy hx ea eb hl h0 ha1 hk;lia)) (by (clear j1 e5 e kpos l1 rq eq k1 fD a3 bR rp ep le a1 hy hx ea eb hl h0 ha1 hk;lia)));rw [show ib+1+(j - (ib+1))=j by (clear this j2 e5 e kpos l1 rq eq e3 k1 fD a3 bR rp ep le b1 a1 hy hx ea eb hl h0 ha1 hk;lia)] at this
        (clear j2 j1 e5 e kpos l1 rq eq e3 k1 fD a3 bR rp ep le b1 a1 hy hx ea eb hl h0 ha1 hk;lia)
       have b3:ib+1+k'+1<=b.size:=by (clear e kpos rq eq e3 k1 fD a3 bR rp ep le a1 hy hx ea eb hl h0 ha1 hk;lia)
      case' h2=>
       intro kpos;have k0:k'=0:=by (clear l1 rq eq e3 e k1 fD a3 bR rp ep le b1 a1 hy hx ea eb hl h0 ha1 hk;lia)
       have nx:∀j,ib+1<=j->j<b.size->rk q.1<=R rk b j:=fun j j1 j2=>by
        have:=zT (l3 (j - (ib+1)) (by (clear j2 j1 k0 l1 rq eq e3 e k1 fD a3 bR rp ep le b1 a1 hy hx ea eb hl h0 ha1 hk;lia)) (by (clear j1 k0 kpos l1 rq eq e k1 fD a3 bR rp ep le a1 hy hx ea eb hl h0 ha1 hk;lia)));rw [show ib+1+(j - (ib+1))=j by (clear this j2 k0 kpos l1 rq eq e3 e k1 fD a3 bR rp ep le b1 a1 hy hx ea eb hl h0 ha1 hk;lia)] at this
        (clear j2 j1 k0 kpos l1 rq eq e3 e k1 fD a3 bR rp ep le b1 a1 hy hx ea eb hl h0 ha1 hk;lia)
       have b3:ib+1+1<=b.size:=by (clear k0 kpos l1 rq eq e k1 fD a3 bR rp ep le a1 hy hx ea eb hl h0 ha1 hk;lia)
       replace mC:=mB
      all_goals
       have mD:=mC.sV (by (clear b3 kpos l1 rq eq e3 e k1 fD bR rp ep le b1 hy hx ea eb hl h0 ha1 hk;lia)) (fun j j1 j2=>by rw [rq];exact nx j j1 j2);have fL:=Option.some.inj ((getElem?_pos a _ (by (clear b3 kpos l1 rq eq e3 e k1 fD bR rp ep le b1 hy hx ea eb hl h0 ha1 hk;lia))).symm.trans eq);rw [fL] at mD;refine wpS_bind (bG eq ?_);refine aN (fun e=> ?_) (fun e=> ?_)
       ·exact wpS_pure ⟨wL,.inl ⟨_,_,rfl,mD.last fun i j _ hi _ hj=>mid i j hi (by have e:=eq_of_beq e;(clear hi fL b3 kpos l1 rq eq e3 k1 fD a3 bR rp ep le b1 a1 hy hx ea eb hl h0 ha1 hk;lia))⟩⟩
       have e6:¬_=a.size:=fun z=>e (beq_iff_eq.mpr z);refine aN (fun _=> ?_) (fun _=> ?_)
       ·exact wpS_pure ⟨wL,.inr ⟨_,_,_,_,_,_,rfl,mD,by (clear e fL b3 kpos l1 rq eq e3 k1 fD bR rp ep le b1 hy hx ea eb hl h0 ha1 hk;lia),by (clear e6 e fL b3 kpos rq eq k1 fD a3 bR rp ep le a1 hy hx ea eb hl h0 ha1 hk;lia),by (clear e6 e fL b3 kpos l1 rq eq e3 k1 a3 bR rp ep b1 a1 hy hx ea eb hl h0 ha1 hk;lia)⟩⟩
       ·exact wpS_pure ⟨wL,_,_,_,_,_,_,rfl,mD,by (clear e fL b3 kpos l1 rq eq e3 k1 fD bR rp ep le b1 hy hx ea eb hl h0 ha1 hk;lia),by (clear e6 e fL b3 kpos rq eq k1 fD a3 bR rp ep le a1 hy hx ea eb hl h0 ha1 hk;lia),by (clear e6 e fL b3 kpos l1 rq eq e3 k1 a3 bR rp ep hy hx ea eb hl h0 ha1 hk;lia)⟩
end
end Tim
set_option Elab.async false
set_option linter.all false
set_option maxRecDepth 100000
set_option maxHeartbeats 4000000
namespace Tim
open PySem PyProof.Rows
abbrev h_ (a b out:Array Keyed) (na nb:Nat):Array Keyed:=a.extract 0 na++b.extract 0 nb++out.reverse
abbrev mj (a b out:Array Keyed) (na nb:Nat):Array Keyed:=b.extract 0 nb++a.extract 0 na++out.reverse
theorem yN (a b:Array Keyed):tK a b=(do
 rule "list.sort.merge-hi"
 let total:=a.size+b.size
 let mut na:=a.size - 1
 let mut nb:=b.size
 let mut out:Array Keyed:= #[←elem' a na]
 if na==0 then return h_ a b out na nb
 if nb==1 then return mj a b out na nb
 let mut minGallop:=gallopOf (←get)
 for _ in [0:total] do
  let mut acount:=0
  let mut bcount:=0
  for _ in [0:total] do
   let some aWins ←lt' (←elem' b (nb - 1)) (←elem' a (na - 1))|return h_ a b out na nb
   if aWins then
    na:=na - 1;out:=out.push (←elem' a na);acount:=acount+1;bcount:=0
    if na==0 then return h_ a b out na nb
    if acount≥minGallop then break
   else
    nb:=nb - 1;out:=out.push (←elem' b nb);bcount:=bcount+1;acount:=0
    if nb==1 then return mj a b out na nb
    if bcount≥minGallop then break
  rule "list.sort.gallop"
  minGallop:=minGallop+1
  for _ in [0:total] do
   if minGallop>1 then minGallop:=minGallop - 1
   dO minGallop
   let some at_ ←jd false (←elem' b (nb - 1)) a 0 na (na - 1)|return h_ a b out na nb
   let k:=na - at_
   acount:=k
   if k>0 then
    out:=out++(a.extract at_ na).reverse;na:=at_
    if na==0 then return h_ a b out na nb
   nb:=nb - 1;out:=out.push (←elem' b nb)
   if nb==1 then return mj a b out na nb
   let some at_ ←jd true (←elem' a (na - 1)) b 0 nb (nb - 1)|return h_ a b out na nb
   let k:=nb - at_
   bcount:=k
   if k>0 then
    out:=out++(b.extract at_ nb).reverse;nb:=at_
    if nb==1 then return mj a b out na nb
    if nb==0 then return h_ a b out na nb
   na:=na - 1;out:=out.push (←elem' a na)
   if na==0 then return h_ a b out na nb
   if acount<7&&bcount<7 then break
  minGallop:=minGallop+1
  dO minGallop
 unsupported "internal:list.sort.merge-bound"):=rfl
section
variable {rk:Value->Nat} {a b out:Array Keyed} {na nb k:Nat}
structure MH (rk:Value->Nat) (a b out:Array Keyed) (na nb:Nat):Prop where
 perm:(a.toList.take na++(b.toList.take nb++out.toList.reverse)).Perm (a.toList++b.toList)
 sa:Gy rk (a.toList.take na++out.toList.reverse)
 sb:Gy rk (b.toList.take nb++out.toList.reverse)
theorem Ac (l:List Keyed) {i j:Nat} (h:i<=j):l.take j=l.take i++(l.drop i).take (j - i):=by
 rw [List.take_drop,show i+(j - i)=j by lia];have:=(List.take_append_drop i (l.take j)).symm;rwa [List.take_take,Nat.min_eq_left h] at this
theorem Ft {a:Array Keyed} {x:Keyed} (h:x∈a.toList.take na):∃j,j<na/\j<a.size/\R rk a j=rk x.1:=by
 have h':x∈(a.toList.drop 0).take na:=by rw [List.drop_zero];exact h
 obtain ⟨j,j1,j2,j3⟩:=gO (rk:=rk) h';rw [Nat.zero_add] at j2 j3;exact ⟨j,j1,j2,j3⟩
theorem MH.qj (m:MH rk a b out na nb) {at_:Nat} (hat:at_<=na) (hle:∀i,at_<=i->i<na->i<a.size -> ∀j,j<nb->j<b.size->R rk b j<=R rk a i):MH rk a b (out++(a.extract at_ na).reverse) at_ nb:=by
 have e:(out++(a.extract at_ na).reverse).toList.reverse=(a.toList.drop at_).take (na - at_)++out.toList.reverse:=by
  rw [Array.toList_append,List.reverse_append,Array.toList_reverse,List.reverse_reverse,cD]
 have sp:=Ac a.toList hat;refine ⟨?_, ?_, ?_⟩
 ·rw [e]
  refine List.Perm.trans ?_ m.perm;rw [sp,List.append_assoc];refine List.Perm.append_left _ ?_;rw [←List.append_assoc,←List.append_assoc];exact List.Perm.append_right _ List.perm_append_comm
 ·rw [e,←List.append_assoc,←sp]
  exact m.sa
 ·rw [e]
  have h1:=m.sa;rw [sp,List.append_assoc] at h1;have h2:=gH.mp (gH.mp h1).2.1;have h3:=gH.mp m.sb;refine gH.mpr ⟨h3.1,gH.mpr ⟨h2.1,h3.2.1,h2.2.2⟩,fun p hp q hq=> ?_⟩;rcases List.mem_append.mp hq with hq|hq
  ·obtain ⟨i,i1,i2,i3⟩:=Ft (rk:=rk) hp
   obtain ⟨j,j1,j2,j3⟩:=gO (rk:=rk) hq;rw [←i3,←j3];exact hle _ (by (clear j3 j2 j1 i3 i2 i1 h3 h2 sp e hat;lia)) (by (clear j3 j2 i3 i2 i1 h3 h2 sp e hat;lia)) j2 i i1 i2
  ·exact h3.2.2 p hp q hq
theorem MH.swap (m:MH rk a b out na nb):MH rk b a out nb na:=by
 refine ⟨?_,m.sb,m.sa⟩;refine List.Perm.trans ?_ (m.perm.trans List.perm_append_comm);rw [←List.append_assoc,←List.append_assoc];exact List.Perm.append_right _ List.perm_append_comm
theorem MH.qg (m:MH rk a b out na nb) {at_:Nat} (hat:at_<=nb) (hle:∀i,at_<=i->i<nb->i<b.size -> ∀j,j<na->j<a.size->R rk a j<=R rk b i):MH rk a b (out++(b.extract at_ nb).reverse) na at_:=(m.swap.qj hat hle).swap
theorem HS (h1:1<=na) (h:na<=a.size):out.push (a[na - 1]'(by lia))=out++(a.extract (na - 1) na).reverse:=by
 have e:=yh (out:= #[]) (b:=a) (ib:=na - 1) (by lia);rw [show na - 1+1=na by (clear e h;lia)] at e
 have e2:a.extract (na - 1) na = #[a[na - 1]'(by (clear e;lia))]:=by
  apply Array.toList_inj.mp;have:=congrArg Array.toList e;rw [Array.toList_append] at this;simpa using this.symm
 rw [e2];apply Array.toList_inj.mp;simp
theorem MH.sV (m:MH rk a b out na nb) (h1:1<=na) (h:na<=a.size) (hle:∀j,j<nb->j<b.size->R rk b j<=R rk a (na - 1)):MH rk a b (out.push (a[na - 1]'(by lia))) (na - 1) nb:=by
 rw [HS h1 h];refine m.qj (by (clear h h1;lia)) fun i i1 i2 i3 j j1 j2=> ?_;have:i=na - 1:=by (clear j2 j1 i3 h h1;lia)
 subst this;exact hle j j1 j2
theorem MH.sU (m:MH rk a b out na nb) (h1:1<=nb) (h:nb<=b.size) (hle:∀j,j<na->j<a.size->R rk a j<=R rk b (nb - 1)):MH rk a b (out.push (b[nb - 1]'(by lia))) na (nb - 1):=(m.swap.sV h1 h hle).swap
theorem rJ:(h_ a b out na nb).toList=a.toList.take na++(b.toList.take nb++out.toList.reverse):=by
 unfold h_;rw [Array.toList_append,Array.toList_append,cD,cD,Array.toList_reverse,List.append_assoc];rfl
theorem MH.done (m:MH rk a b out na nb) (h:na=0\/nb=0):Mg rk a b (h_ a b out na nb):=by
 refine ⟨by rw [rJ];exact m.perm, ?_⟩;rw [rJ];rcases h with h|h
 ·subst h
  exact m.sb
 ·subst h
  exact m.sa
theorem MH.first (m:MH rk a b out na nb) (h:∀i j,i<nb->i<b.size->j<na->j<a.size->R rk b i<=R rk a j):Mg rk a b (mj a b out na nb):=by
 have m2:=m.qj (at_:=0) (by lia) fun i _ i2 i3 j j1 j2=>h j i j1 j2 i2 i3
 have e:mj a b out na nb=h_ a b (out++(a.extract 0 na).reverse) 0 nb:=by
  apply Array.toList_inj.mp;rw [rJ,rJ,Array.toList_append,List.reverse_append,Array.toList_reverse,List.reverse_reverse,cD];simp
 rw [e];exact m2.done (.inl rfl)
end
section
variable {prog:Program} {w:World} {A:Around} {E:Value->Shared->Prop} {s:Shared} {κ:SortKind} {a₀:Array Keyed} {rk:Value->Nat}
theorem xR {st:SortSt} {a b:Array Keyed} {Q:Array Keyed->SortSt->Prop} (C:Cz prog w A s κ a₀ rk) (hk:kindOf st=κ) (ha:∀p∈a.toList,p∈a₀.toList) (hb:∀p∈b.toList,p∈a₀.toList)
 (ha1:1<=a.size) (hb1:1<=b.size) (sa:Seg rk a 0 a.size) (sb:Seg rk b 0 b.size) (h0:R rk b 0<=R rk a 0) (hl:R rk b (b.size - 1)<=R rk a (a.size - 1))
 (h:∀r st',xP st st'->Mg rk a b r->Q r st'):wpS (model prog w) A E s (tK a b) Q st:=by
 have Tr:∀i,i<b.size -> ∃p,b[i]? = some p/\p∈a₀.toList/\R rk b i=rk p.1:=fun i hi=>⟨b[i],getElem?_pos b i hi,hb _ (by simp),fZ hi⟩;have Om:∀i,i<a.size -> ∃p,a[i]? = some p/\p∈a₀.toList/\R rk a i=rk p.1:=fun i hi=>⟨a[i],getElem?_pos a i hi,ha _ (by simp),fZ hi⟩
 have mid:∀i j nb,i<nb->nb=1->j<a.size->R rk b i<=R rk a j:=fun i j nb hi hn hj=>by
  have:=sa 0 j (by (clear hj hn hi hl h0 hb1 ha1 hk;lia)) (by (clear hj hn hi hl h0 hb1 ha1 hk;lia)) hj;have e:i=0:=by (clear this hj hl h0 hb1 ha1 hk;lia)
  subst e
  (clear hi hj hn hl hb1 ha1 hk;lia)
 have m0:MH rk a b #[a[a.size - 1]] (a.size - 1) b.size:=by
  have m:MH rk a b #[] a.size b.size:=by
   refine ⟨?_, ?_, ?_⟩
   ·rw [←Array.length_toList,←Array.length_toList,List.take_length,List.take_length];simp
   ·rw [←Array.length_toList,List.take_length]
    show Gy rk (a.toList++[]);rw [List.append_nil];refine List.pairwise_iff_getElem.mpr fun i j hi hj hij=> ?_;rw [Array.length_toList] at hi hj;have:=sa i j (by (clear hij hj hi hl h0 hb1 ha1 hk;lia)) (by (clear hj hi hl h0 hb1 ha1 hk;lia)) hj;rw [fZ hi,fZ hj] at this;simpa [Le] using this
   ·rw [←Array.length_toList,List.take_length]
    show Gy rk (b.toList++[]);rw [List.append_nil];refine List.pairwise_iff_getElem.mpr fun i j hi hj hij=> ?_;rw [Array.length_toList] at hi hj;have:=sb i j (by (clear hij hj hi hl h0 hb1 ha1 hk;lia)) (by (clear hj hi hl h0 hb1 ha1 hk;lia)) hj;rw [fZ hi,fZ hj] at this;simpa [Le] using this
  exact m.sV ha1 (Nat.le_refl _) fun j j1 j2=>Nat.le_trans (sb j (b.size - 1) (by (clear j2 j1 hl h0 hb1 ha1 hk;lia)) (by (clear j2 hl h0 hb1 ha1 hk;lia)) (by (clear j2 j1 hl h0 ha1 hk;lia))) hl
 rw [yN];refine wpS_bind (wpS_lift (wpAny_rule ⟨rfl, ?_⟩));refine wpS_bind (bG (p:=a[a.size - 1]) (getElem?_pos a _ (by (clear hl h0 hb1 hk;lia))) ?_);dsimp only;refine aN (fun e=> ?_) (fun e=> ?_)
 ·exact wpS_pure (h _ _ (.refl _) (m0.done (.inl (by simpa using e))))
 have ea:¬a.size - 1=0:=fun z=>e (beq_iff_eq.mpr z);refine aN (fun e=> ?_) (fun e=> ?_)
 ·exact wpS_pure (h _ _ (.refl _) (m0.first fun i j i1 i2 j1 j2=>mid i j _ i1 (by simpa using e) j2))
 have eb:¬b.size=1:=by simpa using e
 refine wpS_bind (wpS_get ?_)
 refine wpS_bind (wpS_mono (wpS_forRange (I:=fun x c st'=>xP st st' /\ ∃na nb out mg,c=(none,na,nb,out,mg)/\MH rk a b out na nb/\1<=na/\2<=nb/\na<=a.size/\nb<=b.size/\na+nb+x<=a.size+b.size)
  (Q:=fun c st'=>xP st st' /\ ∃r cc,c=(some r,cc)/\Mg rk a b r) ?step ?fin ⟨.refl _,_,_,_,_,rfl,m0,by (clear eb e hl h0 hb1 hk;lia),by (clear e ea hl h0 hk;lia),by (clear eb e ea hl h0 hb1 hk;lia),by (clear eb e ea hl h0 hb1 hk;lia),by (clear eb e ea hl h0 hb1 hk;lia)⟩) ?post)
 case post=>
  rintro c st' ⟨kp,r,cc,rfl,m⟩;exact wpS_pure (h _ _ kp m)
 case fin=>
  rintro c st' ⟨kp,na,nb,out,mg,rfl,m,a1,b1,a2,b2,le⟩
  (clear b2 a2 b1 eb e ea hl h0 hb1 hk;lia)
 case step=>
  rintro x c st' _ hx ⟨kp,na,nb,out,mg,rfl,m,a1,b1,a2,b2,le⟩;dsimp only
  refine wpS_bind (wpS_mono (wpS_forRange (I:=fun y c st2=>st2=st' /\ ∃na nb out ac bc,c=(none,na,nb,out,ac,bc)/\MH rk a b out na nb/\1<=na/\2<=nb/\na<=a.size/\nb<=b.size/\na+nb+x+y<=a.size+b.size)
   (Q:=fun c st2=>st2=st'/\((∃r cc,c=(some r,cc)/\Mg rk a b r) \/ ∃na nb out ac bc,c=(none,na,nb,out,ac,bc)/\MH rk a b out na nb/\1<=na/\2<=nb/\na<=a.size/\nb<=b.size/\na+nb+x+1<=a.size+b.size)) ?step1 ?QX ⟨rfl,_,_,_,_,_,rfl,m,a1,b1,a2,b2,by (clear b2 a2 b1 a1 hx eb e ea hl h0 hb1 hk;lia)⟩) ?H_)
  case QX=>
   rintro c st2 ⟨rfl,na,nb,out,ac,bc,rfl,m,a1,b1,a2,b2,le⟩
   (clear b2 a2 b1 hx eb e ea hl h0 hb1 hk;lia)
  case step1=>
   rintro y c st2 _ hy ⟨rfl,na,nb,out,ac,bc,rfl,m,a1,b1,a2,b2,le⟩;dsimp only;obtain ⟨p,ep,mp,rp⟩:=Tr (nb - 1) (by (clear le a2 b1 a1 hy hx eb e ea hl h0 hb1 hk;lia));obtain ⟨q,eq,mq,rq⟩:=Om (na - 1) (by (clear rp ep le b2 b1 a1 hy hx eb e ea hl h0 hb1 hk;lia));refine wpS_bind (bG ep (wpS_bind (bG eq (wpS_bind (rQ C (kp.k.trans hk) mp mq ?_)))));dsimp only;have bR:b[nb - 1]=p:=Option.some.inj ((getElem?_pos b _ (by (clear rq eq rp ep le a2 b1 a1 hy hx eb e ea hl h0 hb1 hk;lia))).symm.trans ep);have fL:a[na - 1]=q:=Option.some.inj ((getElem?_pos a _ (by (clear bR rq eq rp ep le b2 b1 a1 hy hx eb e ea hl h0 hb1 hk;lia))).symm.trans eq);refine aN (fun lt=> ?_) (fun lt=> ?_)
   ·have lt:R rk b (nb - 1)<R rk a (na - 1):=by rw [rp,rq];simpa using lt
    have m2:=m.sV a1 a2 fun j j1 j2=>by have:=sb j (nb - 1) (by (clear j2 j1 lt fL bR rq eq rp ep le b2 a2 b1 a1 hy hx eb e ea hl h0 hb1 hk;lia)) (by (clear j2 lt fL bR rq eq rp ep le b2 a2 b1 a1 hy hx eb e ea hl h0 hb1 hk;lia)) (by (clear j2 j1 lt fL bR rq eq rp ep le a2 b1 a1 hy hx eb e ea hl h0 hb1 hk;lia));(clear j2 j1 fL bR rq eq rp ep le b2 a2 b1 a1 hy hx eb e ea hl h0 hb1 hk;lia)
    rw [fL] at m2;refine wpS_bind (bG eq ?_);refine aN (fun e=> ?_) (fun e=> ?_)
    ·exact wpS_pure ⟨rfl,.inl ⟨_,_,rfl,m2.done (.inl (by simpa using e))⟩⟩
    have e:¬na - 1=0:=fun z=>e (beq_iff_eq.mpr z);refine aN (fun _=> ?_) (fun _=> ?_)
    ·exact wpS_pure ⟨rfl,.inr ⟨_,_,_,_,_,rfl,m2,by (clear lt fL bR rq eq rp ep le b2 a2 b1 a1 hy hx eb ea hl h0 hb1 hk;lia),b1,by (clear e lt fL bR rq eq rp ep le b2 b1 a1 hy hx eb ea hl h0 hb1 hk;lia),b2,by (clear e lt fL bR rq eq rp ep b2 a2 b1 hy hx eb ea hl h0 hb1 hk;lia)⟩⟩
    ·exact wpS_pure ⟨rfl,_,_,_,_,_,rfl,m2,by (clear lt fL bR rq eq rp ep le b2 a2 b1 a1 hy hx eb ea hl h0 hb1 hk;lia),b1,by (clear e lt fL bR rq eq rp ep le b2 b1 a1 hy hx eb ea hl h0 hb1 hk;lia),b2,by (clear e lt fL bR rq eq rp ep b2 a2 b1 hy hx eb ea hl h0 hb1 hk;lia)⟩
   ·have lt:R rk a (na - 1)<=R rk b (nb - 1):=by rw [rp,rq];simpa using lt
    have m2:=m.sU (by (clear lt fL bR rq eq rp ep le b2 a2 a1 hy hx eb e ea hl h0 hb1 hk;lia)) b2 fun j j1 j2=>by have:=sa j (na - 1) (by (clear j2 j1 lt fL bR rq eq rp ep le b2 a2 b1 a1 hy hx eb e ea hl h0 hb1 hk;lia)) (by (clear j2 lt fL bR rq eq rp ep le b2 a2 b1 a1 hy hx eb e ea hl h0 hb1 hk;lia)) (by (clear j2 j1 lt fL bR rq eq rp ep le b2 b1 a1 hy hx eb e ea hl h0 hb1 hk;lia));(clear j2 j1 fL bR rq eq rp ep le b2 a2 b1 a1 hy hx eb e ea hl h0 hb1 hk;lia)
    rw [bR] at m2;refine wpS_bind (bG ep ?_);refine aN (fun e=> ?_) (fun e=> ?_)
    ·exact wpS_pure ⟨rfl,.inl ⟨_,_,rfl,m2.first fun i j i1 i2 j1 j2=>mid i j _ i1 (eq_of_beq e) j2⟩⟩
    have e:¬nb - 1=1:=fun z=>e (beq_iff_eq.mpr z);refine aN (fun _=> ?_) (fun _=> ?_)
    ·exact wpS_pure ⟨rfl,.inr ⟨_,_,_,_,_,rfl,m2,a1,by (clear lt fL bR rq eq rp ep le b2 a2 a1 hy hx eb ea hl h0 hb1 hk;lia),a2,by (clear e lt fL bR rq eq rp ep le a2 b1 a1 hy hx eb ea hl h0 hb1 hk;lia),by (clear e lt fL bR rq eq rp ep b2 a2 a1 hy hx eb ea hl h0 hb1 hk;lia)⟩⟩
    ·exact wpS_pure ⟨rfl,_,_,_,_,_,rfl,m2,a1,by (clear lt fL bR rq eq rp ep le b2 a2 a1 hy hx eb ea hl h0 hb1 hk;lia),a2,by (clear e lt fL bR rq eq rp ep le a2 b1 a1 hy hx eb ea hl h0 hb1 hk;lia),by (clear e lt fL bR rq eq rp ep b2 a2 a1 hy hx eb ea hl h0 hb1 hk;lia)⟩
  case H_=>
   rintro c st2 ⟨rfl,(⟨r,cc,rfl,mr⟩|⟨na,nb,out,ac,bc,rfl,m,a1,b1,a2,b2,le⟩)⟩
   ·exact wpS_pure ⟨kp,r,_,rfl,mr⟩
   dsimp only;refine wpS_bind (wpS_lift (wpAny_rule ⟨rfl, ?_⟩))
   refine wpS_bind (wpS_mono (wpS_forRange (I:=fun y c st3=>xP st st3 /\ ∃na nb out mg ac bc,c=(none,na,nb,out,mg,ac,bc)/\MH rk a b out na nb/\1<=na/\2<=nb/\na<=a.size/\nb<=b.size/\na+nb+x+1+y<=a.size+b.size)
    (Q:=fun c st3=>xP st st3/\((∃r cc,c=(some r,cc)/\Mg rk a b r) \/ ∃na nb out mg ac bc,c=(none,na,nb,out,mg,ac,bc)/\MH rk a b out na nb/\1<=na/\2<=nb/\na<=a.size/\nb<=b.size/\na+nb+x+1<=a.size+b.size)) ?Ho ?fin2 ⟨kp,_,_,_,_,_,_,rfl,m,a1,b1,a2,b2,by (clear b2 a2 b1 a1 hx eb e ea hl h0 hb1 hk;lia)⟩) ?post2)
   case fin2=>
    rintro c st3 ⟨Jk,na,nb,out,mg,ac,bc,rfl,m,a1,b1,a2,b2,le⟩
    (clear b2 a2 b1 a1 hx eb e ea hl h0 hb1 hk;lia)
   case post2=>
    rintro c st3 ⟨Jk,(⟨r,cc,rfl,mr⟩|⟨na,nb,out,mg,ac,bc,rfl,m,a1,b1,a2,b2,le⟩)⟩
    ·exact wpS_pure ⟨Jk,r,_,rfl,mr⟩
    dsimp only;refine wpS_bind (lF fun kj k4=>wpS_pure ⟨Jk.trans k4,_,_,_,_,rfl,m,a1,b1,a2,b2,by (clear b2 a2 b1 a1 hx eb e ea hl h0 hb1 hk;lia)⟩)
   case Ho=>
    rintro y c st3 _ hy ⟨Jk,na,nb,out,mg,ac,bc,rfl,m,a1,b1,a2,b2,le⟩;dsimp only;refine aN (fun _=> ?_) (fun _=> ?_)
    all_goals
     refine wpS_bind (lF fun kj k4=> ?_);have wL:=Jk.trans k4;obtain ⟨p,ep,mp,rp⟩:=Tr (nb - 1) (by (clear le a2 b1 a1 hy hx eb e ea hl h0 hb1 hk;lia));have bR:b[nb - 1]=p:=Option.some.inj ((getElem?_pos b _ (by (clear rp ep le a2 b1 a1 hy hx eb e ea hl h0 hb1 hk;lia))).symm.trans ep);refine wpS_bind (bG ep (wpS_bind (gw C (wL.k.trans hk) mp ha (by (clear bR rp ep le b2 b1 a1 hy hx eb e ea hl h0 hb1 hk;lia)) (by (clear bR rp ep le b2 a2 b1 hy hx eb e ea hl h0 hb1 hk;lia)) (fun i j h1 h2 h3=>sa i j (by (clear h3 h2 h1 bR rp ep le b2 a2 b1 a1 hy hx eb e ea hl h0 hb1 hk;lia)) h2 (by (clear h2 h1 bR rp ep le b2 b1 a1 hy hx eb e ea hl h0 hb1 hk;lia))) fun k k1 k2 k3=> ?_)));dsimp only;simp only [Nat.zero_add] at k2 k3
     have mA:=m.qj k1 fun i i1 i2 i3 j j1 j2=>by
      have e1:=Kl (k3 i i1 i2);have e2:=sb j (nb - 1) (by (clear e1 j2 j1 i3 i2 i1 k1 bR rp ep le b2 a2 b1 a1 hy hx eb e ea hl h0 hb1 hk;lia)) (by (clear e1 j2 i3 i2 i1 k1 bR rp ep le b2 a2 b1 a1 hy hx eb e ea hl h0 hb1 hk;lia)) (by (clear e1 j2 j1 i3 i2 i1 k1 bR rp ep le a2 b1 a1 hy hx eb e ea hl h0 hb1 hk;lia))
      (clear j2 j1 i3 i2 i1 k1 bR ep le b2 a2 b1 a1 hy hx eb e ea hl h0 hb1 hk;lia)
     have nxt:∀j,j<k->j<a.size->R rk a j<=R rk b (nb - 1):=fun j j1 j2=>by
      have:=NP (k2 j j1)
      (clear j2 j1 k1 bR ep le b2 a2 b1 a1 hy hx eb e ea hl h0 hb1 hk;lia)
     apply aN
     case' h1=>
      intro kpos;refine aN (fun e=> ?_) (fun e=> ?_)
      ·exact wpS_pure ⟨wL,.inl ⟨_,_,rfl,mA.done (.inl (by simpa using e))⟩⟩
      have e1:¬k=0:=fun z=>e (beq_iff_eq.mpr z);have a3:1<=k:=by (clear e kpos k1 bR rp ep le b2 a2 b1 a1 hy hx eb ea hl h0 hb1 hk;lia)
      have a4:k<=a.size:=by (clear a3 e1 e kpos bR rp ep le b2 b1 a1 hy hx eb ea hl h0 hb1 hk;lia)
      have fD:k+nb+x+1+y<=a.size+b.size:=by (clear a4 a3 e1 e kpos bR rp ep b2 a2 b1 a1 hy hx eb ea hl h0 hb1 hk;lia)
     case' h2=>
      intro kpos;have k0:k=na:=by (clear bR rp ep le b2 a2 b1 a1 hy hx eb e ea hl h0 hb1 hk;lia)
      have a3:1<=na:=a1;have a4:na<=a.size:=a2;have fD:na+nb+x+1+y<=a.size+b.size:=by (clear a4 a3 k0 kpos k1 bR rp ep b2 a2 b1 a1 hy hx eb e ea hl h0 hb1 hk;lia)
      rw [k0] at nxt
      replace mA:=m
     all_goals
      have mB:=mA.sU (by (clear fD a4 a3 kpos k1 bR rp ep le b2 a2 a1 hy hx eb e ea hl h0 hb1 hk;lia)) b2 nxt;rw [bR] at mB;refine wpS_bind (bG ep ?_);refine aN (fun e=> ?_) (fun e=> ?_)
      ·exact wpS_pure ⟨wL,.inl ⟨_,_,rfl,mB.first fun i j i1 i2 j1 j2=>mid i j _ i1 (eq_of_beq e) j2⟩⟩
      have e3:¬nb - 1=1:=fun z=>e (beq_iff_eq.mpr z);obtain ⟨q,eq,mq,rq⟩:=Om _ (Nat.lt_of_lt_of_le (Nat.sub_lt a3 Nat.one_pos) a4);refine wpS_bind (bG eq (wpS_bind (gw C (wL.k.trans hk) mq hb (by (clear rq eq e3 e fD a4 a3 kpos k1 bR rp ep le a2 b1 a1 hy hx eb ea hl h0 hb1 hk;lia)) (by (clear rq eq e3 e fD a4 a3 kpos k1 bR rp ep le b2 a2 a1 hy hx eb ea hl h0 hb1 hk;lia)) (fun i j h1 h2 h3=>sb i j (by (clear h3 h2 h1 rq eq e3 e fD a4 a3 kpos k1 bR rp ep le b2 a2 b1 a1 hy hx eb ea hl h0 hb1 hk;lia)) h2 (by (clear h2 h1 rq eq e3 e fD a4 a3 kpos k1 bR rp ep le a2 b1 a1 hy hx eb ea hl h0 hb1 hk;lia))) fun k' l1 l2 l3=> ?_)));dsimp only;simp only [Nat.zero_add] at l2 l3
      have mC:=mB.qg l1 fun i i1 i2 i3 j j1 j2=>by
       have e1:=zT (l3 i i1 i2);have e2:=sa j _ (by (clear e1 j2 j1 i3 i2 i1 l1 rq eq e3 e fD a4 a3 kpos k1 bR rp ep le b2 a2 b1 a1 hy hx eb ea hl h0 hb1 hk;lia)) (Nat.le_sub_one_of_lt j1) (by (clear e1 j2 j1 i3 i2 i1 l1 rq eq e3 e fD a4 a3 kpos bR rp ep le b2 b1 a1 hy hx eb ea hl h0 hb1 hk;lia))
       (clear j2 j1 i3 i2 i1 l1 eq e3 e fD a4 a3 kpos k1 bR rp ep le b2 a2 b1 a1 hy hx eb ea hl h0 hb1 hk;lia)
      have nx:∀j,j<k'->j<b.size->R rk b j<=rk q.1:=fun j j1 j2=>by
       have:=Rk (l2 j j1)
       (clear j2 j1 l1 rq eq e3 e fD a4 a3 kpos k1 bR rp ep le b2 a2 b1 a1 hy hx eb ea hl h0 hb1 hk;lia)
      apply aN
      case' h1=>
       intro kpos;refine aN (fun e=> ?_) (fun e=> ?_)
       ·exact wpS_pure ⟨wL,.inl ⟨_,_,rfl,mC.first fun i j i1 i2 j1 j2=>mid i j _ i1 (eq_of_beq e) j2⟩⟩
       have e4:¬k'=1:=fun z=>e (beq_iff_eq.mpr z);refine aN (fun e=> ?_) (fun e=> ?_)
       ·exact wpS_pure ⟨wL,.inl ⟨_,_,rfl,mC.done (.inr (by simpa using e))⟩⟩
       have e5:¬k'=0:=fun z=>e (beq_iff_eq.mpr z);have b3:2<=k':=by (clear e kpos l1 rq eq e3 fD a4 a3 k1 bR rp ep le b2 a2 b1 a1 hy hx eb ea hl h0 hb1 hk;lia)
      case' h2=>
       intro kpos;have k0:k'=nb - 1:=by (clear rq eq e3 e fD a4 a3 k1 bR rp ep le b2 a2 b1 a1 hy hx eb ea hl h0 hb1 hk;lia)
       rw [k0] at nx;have b3:2<=nb - 1:=by (clear k0 kpos l1 rq eq e fD a4 a3 k1 bR rp ep le b2 a2 a1 hy hx eb ea hl h0 hb1 hk;lia)
       replace mC:=mB
      all_goals
       have mD:=mC.sV a3 a4 (fun j j1 j2=>by rw [rq];exact nx j j1 j2);have fL:=Option.some.inj ((getElem?_pos a _ (by (clear b3 kpos l1 rq eq e3 e fD k1 bR rp ep le b2 a2 b1 a1 hy hx eb ea hl h0 hb1 hk;lia))).symm.trans eq);rw [fL] at mD;refine wpS_bind (bG eq ?_);refine aN (fun e=> ?_) (fun e=> ?_)
       ·exact wpS_pure ⟨wL,.inl ⟨_,_,rfl,mD.done (.inl (eq_of_beq e))⟩⟩
       have e6:¬_=0:=fun z=>e (beq_iff_eq.mpr z);refine aN (fun _=> ?_) (fun _=> ?_)
       ·exact wpS_pure ⟨wL,.inr ⟨_,_,_,_,_,_,rfl,mD,by (clear e fL b3 kpos l1 rq eq e3 fD a4 a3 k1 bR rp ep le b2 a2 b1 a1 hy hx eb ea hl h0 hb1 hk;lia),by (clear e6 e fL b3 kpos l1 rq eq fD a4 a3 k1 bR rp ep le b2 a2 a1 hy hx eb ea hl h0 hb1 hk;lia),by (clear e6 e fL b3 kpos l1 rq eq e3 fD a4 a3 k1 bR rp ep le b2 b1 a1 hy hx eb ea hl h0 hb1 hk;lia),by (clear e6 e fL b3 kpos rq eq e3 fD a4 a3 k1 bR rp ep le a2 b1 a1 hy hx eb ea hl h0 hb1 hk;lia),by (clear e6 e fL b3 kpos rq eq e3 fD a4 a3 k1 bR rp ep b2 a2 b1 a1 hy hx eb ea hl h0 hb1 hk;lia)⟩⟩
       ·exact wpS_pure ⟨wL,_,_,_,_,_,_,rfl,mD,by (clear e fL b3 kpos l1 rq eq e3 fD a4 a3 k1 bR rp ep le b2 a2 b1 a1 hy hx eb ea hl h0 hb1 hk;lia),by (clear e6 e fL b3 kpos l1 rq eq fD a4 a3 k1 bR rp ep le b2 a2 a1 hy hx eb ea hl h0 hb1 hk;lia),by (clear e6 e fL b3 kpos l1 rq eq e3 fD a4 a3 k1 bR rp ep le b2 b1 a1 hy hx eb ea hl h0 hb1 hk;lia),by (clear e6 e fL b3 kpos rq eq e3 fD a4 a3 k1 bR rp ep le a2 b1 a1 hy hx eb ea hl h0 hb1 hk;lia),by (clear e6 e fL b3 kpos rq eq e3 fD a4 a3 k1 bR rp ep b2 a2 b1 hy hx eb ea hl h0 hb1 hk;lia)⟩
end
end Tim
set_option Elab.async false
set_option linter.all false
set_option maxRecDepth 100000
set_option maxHeartbeats 4000000
namespace Tim
open PySem PyProof.Rows
section
variable {prog:Program} {w:World} {A:Around} {E:Value->Shared->Prop} {s:Shared} {κ:SortKind} {a₀:Array Keyed} {rk:Value->Nat} {pd:Array (Nat×Nat×Nat)}
structure SB (κ:SortKind) (a₀:Array Keyed) (pd:Array (Nat×Nat×Nat)) (st:SortSt):Prop where
 perm:(arrOf st).Perm a₀
 kind:kindOf st=κ
 failed:failedOf st=none
 pend:pendingOf st=pd
theorem SB.size {st:SortSt} (h:SB κ a₀ pd st):(arrOf st).size=a₀.size:=h.perm.size_eq
theorem SB.setArr {st:SortSt} (h:SB κ a₀ pd st) {xs:Array Keyed} (hp:xs.Perm (arrOf st)):SB κ a₀ pd (setArr st xs):=⟨hp.trans h.perm,h.kind,h.failed,h.pend⟩
theorem SB.mem {st:SortSt} (h:SB κ a₀ pd st) {p:Keyed} (hp:p∈(arrOf st).toList):p∈a₀.toList:=(Array.perm_iff_toList_perm.mp h.perm).mem_iff.mp hp
theorem iI {st:SortSt} {i j:Nat} {Q:Option Bool->SortSt->Prop} (C:Cz prog w A s κ a₀ rk) (hB:SB κ a₀ pd st) (hi:i<a₀.size) (hj:j<a₀.size) (h:Q (some (decide (R rk (arrOf st) i<R rk (arrOf st) j))) st):
 wpS (model prog w) A E s (ltAt' i j) Q st:=by
 rw [ltAt'_eq];refine wpS_bind (wpS_get ?_);have hi':i<(arrOf st).size:=by rw [hB.size];exact hi
 have hj':j<(arrOf st).size:=by rw [hB.size];exact hj
 rw [fZ hi',fZ hj'] at h;exact wpS_bind (bG (getElem?_pos (arrOf st) i hi') (wpS_bind (bG (getElem?_pos (arrOf st) j hj') (rQ C hB.kind (hB.mem (by simp)) (hB.mem (by simp)) h))))
def Kb (lo:Nat) (st st':SortSt):Prop:=∀i,i<lo->(arrOf st')[i]? = (arrOf st)[i]?
theorem Kb.refl {lo:Nat} {st:SortSt}:Kb lo st st:=fun _ _=>rfl
theorem Kb.trans {lo:Nat} {a b c:SortSt} (h:Kb lo a b) (g:Kb lo b c):Kb lo a c:=fun i hi=>(g i hi).trans (h i hi)
theorem uD {xs:Array Keyed} {i j:Nat} (hj:j<=xs.size) (k:Nat):R rk (mirror xs i j ((j - i) / 2)) k=if i<=k/\k<j then R rk xs (i+j - 1 - k) else R rk xs k:=by
 have e:=getElem?_mirror_all (i:=i) hj k
 by_cases h1:i<=k/\k<j
 ·rw [if_pos h1] at e ⊢;exact eG e
 ·rw [if_neg h1] at e ⊢;exact eG e
theorem lY {st:SortSt} {lo i j:Nat} (hj:j<=(arrOf st).size) (hi:lo<=i):Kb lo st (setArr st (mirror (arrOf st) i j ((j - i) / 2))):=fun k hk=>by
 show (mirror (arrOf st) i j ((j - i) / 2))[k]? = _;rw [getElem?_mirror_all hj,if_neg (by (clear hj;lia))]
theorem gW {xs:Array Keyed} {i j:Nat} (hj:j<=xs.size) (heq:∀k,i<=k->k<j->R rk xs k=R rk xs (j - 1)) (k:Nat):R rk (mirror xs i j ((j - i) / 2)) k=R rk xs k:=by
 rw [uD hj];split
 ·rw [heq _ (by (clear hj;lia)) (by (clear hj;lia)),heq k (by (clear hj;lia)) (by (clear hj;lia))]
 ·rfl
theorem zP {xs:Array Keyed} {src d:Nat} (hs:src<xs.size) (hd:d<=src) (k:Nat):
 R rk (bubble xs src d) k=if k=src - d then R rk xs src else if src - d<k/\k<=src then R rk xs (k - 1) else R rk xs k:=by
 have e:=getElem?_bubble hs d hd k
 by_cases h1:k=src - d
 ·rw [if_pos h1] at e ⊢;exact eG e
 ·rw [if_neg h1] at e ⊢
  by_cases h2:src - d<k/\k<=src
  ·rw [if_pos h2] at e ⊢;exact eG e
  ·rw [if_neg h2] at e ⊢;exact eG e
def RB (rk:Value->Nat) (xs:Array Keyed) (lo hi:Nat):Prop:=∀i j,lo<=i->i<=j->j<hi->R rk xs j<=R rk xs i
theorem wpS_countRun {st:SortSt} {lo nrem:Nat} {Q:Option Nat->SortSt->Prop} (C:Cz prog w A s κ a₀ rk) (hn:lo+nrem<=a₀.size) (h1:1<=nrem) (hB:SB κ a₀ pd st)
 (h:∀m st',SB κ a₀ pd st'->Kb lo st st'->1<=m->m<=nrem->Seg rk (arrOf st') lo (lo+m)->Q (some m) st'):wpS (model prog w) A E s (countRun' lo nrem) Q st:=by
 rw [countRun'_eq]
 refine wpS_bind (wpS_mono (wpS_forRange (I:=fun x c st'=>st'=st/\c=(none,x)/\Seg rk (arrOf st) lo (lo+x))
  (Q:=fun c st'=>st'=st /\ ∃n,c=(none,n)/\1<=n/\n<=nrem/\Seg rk (arrOf st) lo (lo+n)/\(n=nrem\/R rk (arrOf st) (lo+n)<R rk (arrOf st) (lo+n - 1))) ?step ?fin ⟨rfl,rfl,fun i j a b c=>by rw [show i=j by (clear h1 hn;lia)];exact Nat.le_refl _⟩) ?post)
 case fin=>
  rintro c st' ⟨rfl,rfl,hs⟩;rw [show max 1 nrem=nrem by (clear hn;lia)] at hs ⊢;exact ⟨rfl,nrem,rfl,h1,Nat.le_refl _,hs,.inl rfl⟩
 case step=>
  rintro x c st' x1 xn ⟨rfl,rfl,hs⟩;dsimp only;refine wpS_bind (iI C hB (by (clear x1 h1;lia)) (by (clear x1 h1;lia)) ?_);dsimp only;refine aN (fun lt=> ?_) (fun lt=> ?_)
  ·exact wpS_pure ⟨rfl,x,rfl,x1,by (clear lt x1 h1 hn;lia),hs,.inr (of_decide_eq_true lt)⟩
  ·have lt:R rk (arrOf st') (lo+x - 1)<=R rk (arrOf st') (lo+x):=Nat.le_of_not_lt fun z=>lt (decide_eq_true z)
   refine wpS_pure ⟨rfl,rfl,fun i j a b c=> ?_⟩
   by_cases hj:j<lo+x
   ·exact hs i j a b hj
   ·have:j=lo+x:=by (clear b a lt xn x1 h1 hn;lia)
    subst this
    by_cases hi:i=lo+x
    ·rw [hi];exact Nat.le_refl _
    ·exact Nat.le_trans (hs i (lo+x - 1) a (by (clear hj c a lt xn x1 h1 hn;lia)) (by (clear hi hj c b a lt xn h1 hn;lia))) lt
 case post=>
  rintro c st' ⟨rfl,n,rfl,n1,nn,hs,hor⟩;dsimp only;have hsz:(arrOf st').size=a₀.size:=hB.size;refine aN (fun e=> ?_) (fun e=> ?_)
  ·exact wpS_pure (h n _ hB Kb.refl n1 nn hs)
  have e:¬n=nrem:=fun z=>e (beq_iff_eq.mpr z);have lt:=hor.resolve_left e;have n2:n+1<=nrem:=by (clear lt hsz hor n1 h1 hn;lia)
  apply aN
  case' h1=>
   intro gt;refine wpS_bind (iI C hB (by (clear gt n2 lt e hsz hor nn n1;lia)) (by (clear gt n2 lt e hsz hor n1;lia)) ?_);dsimp only;refine aN (fun rose=> ?_) (fun rose=> ?_)
   ·exact wpS_pure (h n _ hB Kb.refl n1 nn hs)
   have rose:R rk (arrOf st') (lo+n - 1)<=R rk (arrOf st') lo:=Nat.le_of_not_lt fun z=>rose (decide_eq_true z)
   have all:∀k,lo<=k->k<lo+n->R rk (arrOf st') k=R rk (arrOf st') (lo+n - 1):=fun k k1 k2=>by
    have a1:=hs lo k (Nat.le_refl _) k1 k2;have a2:=hs k (lo+n - 1) k1 (by (clear a1 k1 rose gt n2 lt e hsz hor nn n1 h1 hn;lia)) (by (clear a1 k2 k1 rose gt n2 lt e hsz hor nn h1 hn;lia))
    (clear k2 k1 gt n2 lt e hsz hor nn n1 h1 hn;lia)
   rw [reverseSlice'_eq];refine wpS_bind (wpS_modify ?_);have jA:SB κ a₀ pd (setArr st' (mirror (arrOf st') lo (lo+n) ((lo+n - lo) / 2))):=hB.setArr (mirror_perm _ _ _ _);have k1:Kb lo st' (setArr st' (mirror (arrOf st') lo (lo+n) ((lo+n - lo) / 2))):=lY (by (clear rose gt n2 lt e hor n1 h1;lia)) (Nat.le_refl _)
   have dw:RB rk (arrOf (setArr st' (mirror (arrOf st') lo (lo+n) ((lo+n - lo) / 2)))) lo (lo+n+1):=fun i j a b c=>by
    show R rk (mirror _ _ _ _) j<=R rk (mirror _ _ _ _) i;rw [gW (by (clear c b a rose gt n2 lt e hor n1 h1;lia)) all,gW (by (clear c b a rose gt n2 lt e hor n1 h1;lia)) all]
    by_cases hj:j<lo+n
    ·rw [all i a (by (clear c a rose gt n2 lt e hsz hor nn n1 h1 hn;lia)),all j (by (clear hj c rose gt n2 lt e hsz hor nn n1 h1 hn;lia)) hj];exact Nat.le_refl _
    ·have:j=lo+n:=by (clear b a rose gt n2 lt e hsz hor nn n1 h1 hn;lia)
     subst this
     by_cases hi:i=lo+n
     ·rw [hi];exact Nat.le_refl _
     ·rw [all i a (by (clear hj c a rose gt n2 lt e hsz hor nn n1 h1 hn;lia))];(clear hi hj c b a rose gt n2 lt hsz nn n1 h1 hn;lia)
   generalize setArr st' (mirror (arrOf st') lo (lo+n) ((lo+n - lo) / 2))=st1 at jA k1 dw ⊢
  case' h2=>
   intro gt;have jA:=hB;have k1:Kb lo st' st':=Kb.refl
   have dw:RB rk (arrOf st') lo (lo+n+1):=fun i j a b c=>by
    have e1:n=1:=by (clear c b a n2 lt e hsz hor nn h1 hn;lia)
    subst e1
    by_cases hi:i=j
    ·rw [hi];exact Nat.le_refl _
    ·have:i=lo+1 - 1:=by (clear gt n2 lt e hor nn n1 hsz h1 hn;lia)
     have:j=lo+1:=by (clear this gt n2 lt e hor nn n1 hsz h1 hn;lia)
     subst_vars
     (clear hi b c a gt n2 lt nn n1 hsz h1 hn;lia)
   revert jA k1 dw;generalize hst:st'=st1;intro jA k1 dw
  all_goals
   refine wpS_bind (wpS_lift (wpAny_rule ⟨rfl, ?_⟩))
   refine wpS_bind (wpS_mono (wpS_forRange (I:=fun x c st2=>∃neq,c=(none,x,neq)/\SB κ a₀ pd st2/\Kb lo st1 st2/\RB rk (arrOf st2) lo (lo+x)/\neq+1<=x/\(∀i,lo+x - (neq+1)<=i->i<lo+x->R rk (arrOf st2) i=R rk (arrOf st2) (lo+x - 1)))
    (Q:=fun c st2=>∃x neq,c=(none,x,neq)/\n+1<=x/\x<=nrem/\SB κ a₀ pd st2/\Kb lo st1 st2/\RB rk (arrOf st2) lo (lo+x)/\neq+1<=x/\(∀i,lo+x - (neq+1)<=i->i<lo+x->R rk (arrOf st2) i=R rk (arrOf st2) (lo+x - 1))) ?_ ?_ ⟨0,rfl,jA,Kb.refl,dw,by (clear gt n2 lt e hsz hor nn n1 h1 hn;lia),fun i a b=>by congr 1;(clear gt n2 lt e hsz hor nn n1 h1 hn;lia)⟩) ?_)
   ·rintro x c st2 x1 xn ⟨neq,rfl,hB2,k2,d2,q2,e2⟩
    dsimp only;have jz:(arrOf st2).size=a₀.size:=hB2.size;refine wpS_bind (iI C hB2 (by (clear jz q2 x1 gt n2 lt e hsz hor nn n1 h1;lia)) (by (clear jz q2 x1 gt n2 lt e hsz hor nn n1 h1;lia)) ?_);dsimp only;refine aN (fun lt=> ?_) (fun lt=> ?_)
    ·have lt:R rk (arrOf st2) (lo+x)<R rk (arrOf st2) (lo+x - 1):=of_decide_eq_true lt
     have step1:∀xs:Array Keyed,(∀k,R rk xs k=R rk (arrOf st2) k)->RB rk xs lo (lo+(x+1)):=by
      intro xs hk i j a b c;rw [hk,hk]
      by_cases hj:j<lo+x
      ·exact d2 i j a b hj
      ·have:j=lo+x:=by (clear b a lt jz q2 xn x1 gt n2 e hsz hor nn n1 h1 hn;lia)
       subst this
       by_cases hi:i=lo+x
       ·rw [hi];exact Nat.le_refl _
       ·exact Nat.le_trans (Nat.le_of_lt lt) (d2 i (lo+x - 1) a (by (clear hj c a lt jz q2 xn x1 gt n2 e hsz hor nn n1 h1 hn;lia)) (by (clear hi hj c b a lt jz q2 xn gt n2 e hsz hor nn n1 h1 hn;lia)))
     refine aN (fun _=> ?_) (fun _=> ?_)
     ·rw [reverseSlice'_eq]
      refine wpS_bind (wpS_modify (wpS_pure ⟨0,rfl,hB2.setArr (mirror_perm _ _ _ _),k2.trans (lY (by (clear lt q2 x1 gt n2 e hsz hor nn n1 h1;lia)) (by (clear lt jz xn x1 gt n2 e hsz hor nn n1 h1 hn;lia))),step1 _ (gW (by (clear lt q2 x1 gt n2 e hsz hor nn n1 h1;lia)) e2),by (clear lt jz q2 xn x1 gt n2 e hsz hor nn n1 h1 hn;lia),fun i a b=>by congr 1;(clear lt jz q2 xn x1 gt n2 e hsz hor nn n1 h1 hn;lia)⟩))
     ·exact wpS_pure ⟨0,rfl,hB2,k2,step1 _ (fun _=>rfl),by (clear lt jz q2 xn x1 gt n2 e hsz hor nn n1 h1 hn;lia),fun i a b=>by congr 1;(clear lt jz q2 xn x1 gt n2 e hsz hor nn n1 h1 hn;lia)⟩
    ·have ge:R rk (arrOf st2) (lo+x - 1)<=R rk (arrOf st2) (lo+x):=Nat.le_of_not_lt fun z=>lt (decide_eq_true z)
     refine wpS_bind (iI C hB2 (by (clear ge lt jz q2 x1 gt n2 e hsz hor nn n1 h1;lia)) (by (clear ge lt jz q2 x1 gt n2 e hsz hor nn n1 h1;lia)) ?_);dsimp only;refine aN (fun lg=> ?_) (fun lg=> ?_)
     ·exact wpS_pure ⟨x,neq,rfl,x1,by (clear lg ge lt jz q2 x1 gt n2 e hsz hor nn n1 h1 hn;lia),hB2,k2,d2,q2,e2⟩
     ·have le:R rk (arrOf st2) (lo+x)<=R rk (arrOf st2) (lo+x - 1):=Nat.le_of_not_lt fun z=>lg (decide_eq_true z)
      have M8:R rk (arrOf st2) (lo+x)=R rk (arrOf st2) (lo+x - 1):=by (clear lg lt jz q2 xn x1 gt n2 e hsz hor nn n1 h1 hn;lia)
      refine wpS_pure ⟨neq+1,rfl,hB2,k2,fun i j a b c=> ?_,by (clear M8 le lg ge lt jz xn x1 gt n2 e hsz hor nn n1 h1 hn;lia),fun i a b=> ?_⟩
      ·by_cases hj:j<lo+x
       ·exact d2 i j a b hj
       ·have:j=lo+x:=by (clear b a M8 le lg ge lt jz q2 xn x1 gt n2 e hsz hor nn n1 h1 hn;lia)
        subst this
        by_cases hi:i=lo+x
        ·rw [hi];exact Nat.le_refl _
        ·rw [M8];exact d2 i (lo+x - 1) a (by (clear hj c a M8 le lg ge lt jz q2 xn x1 gt n2 e hsz hor nn n1 h1 hn;lia)) (by (clear hi hj c b a M8 le lg ge lt jz q2 xn gt n2 e hsz hor nn n1 h1 hn;lia))
      ·rw [show lo+(x+1) - 1=lo+x by (clear b a M8 le lg ge lt jz q2 xn x1 gt n2 e hsz hor nn n1 h1 hn;lia)]
       by_cases hi:i=lo+x
       ·rw [hi]
       ·rw [M8];exact e2 i (by (clear hi b M8 le lg ge lt jz q2 xn x1 gt n2 e hsz hor nn n1 h1 hn;lia)) (by (clear a M8 le lg ge lt jz q2 xn x1 gt n2 e hsz hor nn n1 h1 hn;lia))
   ·rintro c st2 ⟨neq,rfl,hB2,k2,d2,q2,e2⟩
    rw [show max (n+1) nrem=nrem by (clear q2 gt n2 lt hsz hor n1 h1 hn;lia)] at d2 q2 e2 ⊢;exact ⟨nrem,neq,rfl,n2,Nat.le_refl _,hB2,k2,d2,q2,e2⟩
   ·rintro c st2 ⟨x,neq,rfl,x1,xn,hB2,k2,d2,q2,e2⟩
    dsimp only;have jz:(arrOf st2).size=a₀.size:=hB2.size;apply aN
    case' h1=>
     intro _;rw [reverseSlice'_eq];refine wpS_bind (wpS_modify ?_);have hB3:SB κ a₀ pd (setArr st2 (mirror (arrOf st2) (lo+x - (neq+1)) (lo+x) ((lo+x - (lo+x - (neq+1))) / 2))):=hB2.setArr (mirror_perm _ _ _ _);have k3:=k2.trans (lY (st:=st2) (lo:=lo) (i:=lo+x - (neq+1)) (j:=lo+x) (by (clear q2 x1 gt n2 lt e hsz hor nn n1 h1;lia)) (by (clear jz xn x1 gt n2 lt e hsz hor nn n1 h1 hn;lia)))
     have d3:RB rk (arrOf (setArr st2 (mirror (arrOf st2) (lo+x - (neq+1)) (lo+x) ((lo+x - (lo+x - (neq+1))) / 2)))) lo (lo+x):=fun i j a b c=>by
      show R rk (mirror _ _ _ _) j<=R rk (mirror _ _ _ _) i;rw [gW (by (clear c b a q2 x1 gt n2 lt e hsz hor nn n1 h1;lia)) e2,gW (by (clear c b a q2 x1 gt n2 lt e hsz hor nn n1 h1;lia)) e2];exact d2 i j a b c
     generalize setArr st2 (mirror (arrOf st2) (lo+x - (neq+1)) (lo+x) ((lo+x - (lo+x - (neq+1))) / 2))=st3 at hB3 k3 d3 ⊢
    case' h2=>
     intro _;have hB3:=hB2;have k3:=k2;have d3:=d2;revert hB3 k3 d3;generalize st2=st3;intro hB3 k3 d3
    all_goals
     have CT:(arrOf st3).size=a₀.size:=hB3.size;rw [reverseSlice'_eq];refine wpS_bind (wpS_modify ?_);have pZ:SB κ a₀ pd (setArr st3 (mirror (arrOf st3) lo (lo+x) ((lo+x - lo) / 2))):=hB3.setArr (mirror_perm _ _ _ _);have k4:=k3.trans (lY (st:=st3) (lo:=lo) (i:=lo) (j:=lo+x) (by (clear jz q2 x1 gt n2 lt e hsz hor nn n1 h1;lia)) (by (clear CT jz q2 xn x1 gt n2 lt e hsz hor nn n1 h1 hn;lia)))
     have s4:Seg rk (arrOf (setArr st3 (mirror (arrOf st3) lo (lo+x) ((lo+x - lo) / 2)))) lo (lo+x):=fun i j a b c=>by
      show R rk (mirror _ _ _ _) i<=R rk (mirror _ _ _ _) j;rw [uD (by (clear c b a jz q2 x1 gt n2 lt e hsz hor nn n1 h1;lia)),uD (by (clear c b a jz q2 x1 gt n2 lt e hsz hor nn n1 h1;lia)),if_pos (by (clear CT jz q2 xn x1 gt n2 lt e hsz hor nn n1 h1 hn;lia)),if_pos (by (clear CT jz q2 xn x1 gt n2 lt e hsz hor nn n1 h1 hn;lia))];exact d3 _ _ (by (clear b a CT jz q2 xn x1 gt n2 lt e hsz hor nn n1 h1 hn;lia)) (by (clear c a CT jz q2 xn x1 gt n2 lt e hsz hor nn n1 h1 hn;lia)) (by (clear c b CT jz q2 xn gt n2 lt e hsz hor nn n1 h1 hn;lia))
     generalize setArr st3 (mirror (arrOf st3) lo (lo+x) ((lo+x - lo) / 2))=kj at pZ k4 s4 ⊢
     refine wpS_bind (wpS_mono (wpS_forRange (I:=fun y c xJ=>xJ=kj/\c=(none,y)/\Seg rk (arrOf kj) lo (lo+y))
      (Q:=fun c xJ=>xJ=kj /\ ∃y,c=(none,y)/\x<=y/\y<=nrem/\Seg rk (arrOf kj) lo (lo+y)) ?_ ?_ ⟨rfl,rfl,s4⟩) ?_)
     ·rintro y c xJ y1 yn ⟨rfl,rfl,Ot⟩
      dsimp only;refine wpS_bind (iI C pZ (by (clear y1 CT jz q2 xn x1 gt n2 lt e hsz hor nn n1 h1;lia)) (by (clear y1 CT jz q2 xn x1 gt n2 lt e hsz hor nn n1 h1;lia)) ?_);dsimp only;refine aN (fun lt=> ?_) (fun lt=> ?_)
      ·exact wpS_pure ⟨rfl,y,rfl,y1,by (clear lt y1 CT jz q2 xn x1 gt n2 e hsz hor nn n1 h1 hn;lia),Ot⟩
      ·have lt:R rk (arrOf xJ) (lo+y - 1)<=R rk (arrOf xJ) (lo+y):=Nat.le_of_not_lt fun z=>lt (decide_eq_true z)
       refine wpS_pure ⟨rfl,rfl,fun i j a b c=> ?_⟩
       by_cases hj:j<lo+y
       ·exact Ot i j a b hj
       ·have:j=lo+y:=by (clear b a lt yn y1 CT jz q2 xn x1 gt n2 e hsz hor nn n1 h1 hn;lia)
        subst this
        by_cases hi:i=lo+y
        ·rw [hi];exact Nat.le_refl _
        ·exact Nat.le_trans (Ot i (lo+y - 1) a (by (clear hj c a lt yn y1 CT jz q2 xn x1 gt n2 e hsz hor nn n1 h1 hn;lia)) (by (clear hi hj c b a lt yn CT jz q2 xn gt n2 e hsz hor nn n1 h1 hn;lia))) lt
     ·rintro c xJ ⟨rfl,rfl,Ot⟩
      rw [show max x nrem=nrem by (clear CT jz q2 x1 gt n2 lt e hsz hor nn n1 h1 hn;lia)] at Ot ⊢;exact ⟨rfl,nrem,rfl,xn,Nat.le_refl _,Ot⟩
     ·rintro c xJ ⟨rfl,y,rfl,y1,yn,Ot⟩
      exact wpS_pure (h y _ pZ (by first |exact k1.trans k4|(subst hst;exact k4)) (by (clear yn CT jz q2 xn gt n2 lt e hsz hor nn n1 h1 hn;lia)) yn Ot)
theorem wpS_binarySort {st:SortSt} {lo n ok:Nat} {Q:Bool->SortSt->Prop} (C:Cz prog w A s κ a₀ rk) (hn:lo+n<=a₀.size) (hok:ok<=n) (hB:SB κ a₀ pd st) (hs:Seg rk (arrOf st) lo (lo+ok))
 (h:∀st',SB κ a₀ pd st'->Kb lo st st'->Seg rk (arrOf st') lo (lo+n)->Q true st'):wpS (model prog w) A E s (binarySort' lo n ok) Q st:=by
 rw [binarySort'_eq]
 refine wpS_bind (wpS_mono (wpS_forRange (I:=fun k c st'=>c=(none,())/\SB κ a₀ pd st'/\Kb lo st st'/\Seg rk (arrOf st') lo (lo+min k n))
  (Q:=fun c st'=>c=(none,())/\SB κ a₀ pd st'/\Kb lo st st'/\Seg rk (arrOf st') lo (lo+n)) ?step ?fin ?init) ?post)
 case post=>
  rintro c st' ⟨rfl,hB',k',hs'⟩;exact wpS_pure (h st' hB' k' hs')
 case init=>
  refine ⟨rfl,hB,Kb.refl,fun i j a b c=> ?_⟩
  by_cases h1:ok=0
  ·rw [show i=j by (clear hok hn;lia)];exact Nat.le_refl _
  ·exact hs i j a b (by (clear b a hok hn;lia))
 case fin=>
  rintro c st' ⟨hc,hB',k',hs'⟩;refine ⟨hc,hB',k', ?_⟩;rwa [show min (max (max ok 1) n) n=n by (clear hc hok hn;lia)] at hs'
 case step=>
  rintro k c st' hak hkn ⟨rfl,hB',k',hs'⟩;rw [show min k n=k by (clear hak hok hn;lia)] at hs';have sz:(arrOf st').size=a₀.size:=hB'.size
  refine wpS_bind (wpS_mono (wpS_forRange (I:=fun x c st''=>st''=st' /\ ∃l r,c=(none,l,r)/\l<=r/\r<=k/\r - l<=k - x /\
   (∀i,i<l->R rk (arrOf st') (lo+i)<=R rk (arrOf st') (lo+k))/\(∀i,r<=i->i<k->R rk (arrOf st') (lo+k)<R rk (arrOf st') (lo+i)))
   (Q:=fun c st''=>st''=st' /\ ∃l r,c=(none,l,r)/\l<=k /\
     (∀i,i<l->R rk (arrOf st') (lo+i)<=R rk (arrOf st') (lo+k))/\(∀i,l<=i->i<k->R rk (arrOf st') (lo+k)<R rk (arrOf st') (lo+i))) ?istep ?ifin ?iinit) ?ipost)
  case iinit=>exact ⟨rfl,0,k,rfl,by (clear sz hkn hak hok hn;lia),by (clear sz hkn hak hok hn;lia),by (clear sz hkn hak hok hn;lia),fun i hi=>by (clear sz hkn hak hok hn;lia),fun i h1 h2=>by (clear sz hkn hak hok hn;lia)⟩
  case ifin=>
   rintro c st'' ⟨rfl,l,r,rfl,hlr,hrk,hm,hlo,hhi⟩;have:l=r:=by (clear hrk sz hkn hak hok hn;lia)
   subst this;exact ⟨rfl,l,l,rfl,hrk,hlo,hhi⟩
  case istep=>
   rintro x c st'' _ hxk ⟨rfl,l,r,rfl,hlr,hrk,hm,hlo,hhi⟩;dsimp only;refine aN (fun hge=> ?_) (fun hge=> ?_)
   ·have:l=r:=by (clear hm hrk sz hxk hkn hak hok hn;lia)
    subst this;exact wpS_pure ⟨rfl,l,l,rfl,hrk,hlo,hhi⟩
   ·refine wpS_bind (iI C hB' (by (clear hge hm hrk hlr sz hxk hak hok;lia)) (by (clear hge hm sz hxk hak hok;lia)) ?_)
    dsimp only;refine aN (fun lt=> ?_) (fun lt=> ?_)
    ·have lt:=of_decide_eq_true lt
     refine wpS_pure ⟨rfl,l,(l+r) / 2,rfl,by (clear lt hge hm hrk sz hxk hkn hak hok hn;lia),by (clear lt hge hm sz hxk hkn hak hok hn;lia),by (clear lt hge hrk hlr sz hxk hkn hak hok hn;lia),hlo,fun i h1 h2=> ?_⟩;exact Nat.lt_of_lt_of_le lt (hs' _ _ (by (clear h2 h1 lt hge hm hrk hlr sz hxk hkn hak hok hn;lia)) (by (clear h2 lt hge hm hrk hlr sz hxk hkn hak hok hn;lia)) (by (clear h1 lt hge hm hrk hlr sz hxk hkn hak hok hn;lia)))
    ·have lt:R rk (arrOf st'') (lo+(l+r) / 2)<=R rk (arrOf st'') (lo+k):=Nat.le_of_not_lt fun z=>lt (decide_eq_true z)
     refine wpS_pure ⟨rfl,(l+r) / 2+1,r,rfl,by (clear lt hm hrk hlr sz hxk hkn hak hok hn;lia),by (clear lt hge hm hlr sz hxk hkn hak hok hn;lia),by (clear lt hge hrk hlr sz hxk hkn hak hok hn;lia),fun i h1=> ?_,hhi⟩;exact Nat.le_trans (hs' (lo+i) (lo+(l+r) / 2) (by (clear h1 lt hge hm hrk hlr sz hxk hkn hak hok hn;lia)) (by (clear lt hge hm hrk hlr sz hxk hkn hak hok hn;lia)) (by (clear h1 lt hm hlr sz hxk hkn hak hok hn;lia))) lt
  case ipost=>
   rintro c st'' ⟨rfl,l,r,rfl,hlk,hlo,hhi⟩;show wpS _ _ _ _ (do moveDown' (lo+k) (lo+l);pure (ForInStep.yield (none,()))) _ _;rw [moveDown'_eq];refine wpS_bind (wpS_modify (wpS_pure ⟨rfl,hB'.setArr (bubble_perm _ _ _),k'.trans ?_, ?_⟩))
   ·intro i hi
    show (bubble (arrOf st'') (lo+k) (lo+k - (lo+l)))[i]? = _;rw [getElem?_bubble (by (clear hi hlk hak hok;lia)) _ (by (clear hi hlk sz hkn hak hok hn;lia)),if_neg (by (clear hlk sz hkn hak hok hn;lia)),if_neg (by (clear hlk sz hkn hak hok hn;lia))]
   rw [show min (k+1) n=k+1 by (clear hlk sz hak hok hn;lia)];intro i j a b c;show R rk (bubble (arrOf st'') (lo+k) (lo+k - (lo+l))) i<=R rk (bubble (arrOf st'') (lo+k) (lo+k - (lo+l))) j;rw [zP (by (clear c b a hlk hak hok;lia)) (by (clear c b a hlk sz hkn hak hok hn;lia)),zP (by (clear c b a hlk hak hok;lia)) (by (clear c b a hlk sz hkn hak hok hn;lia)),show lo+k - (lo+k - (lo+l))=lo+l by (clear c b a sz hkn hak hok hn;lia)]
   have L1:∀i,lo<=i->i<lo+l->R rk (arrOf st'') i<=R rk (arrOf st'') (lo+k):=fun i i1 i2=>by
    have:=hlo (i - lo) (by (clear c b a hlk sz hkn hak hok hn;lia));rwa [show lo+(i - lo)=i by (clear this i2 c b a hlk sz hkn hak hok hn;lia)] at this
   have L2:∀i,lo+l<=i->i<lo+k->R rk (arrOf st'') (lo+k)<R rk (arrOf st'') i:=fun i i1 i2=>by
    have:=hhi (i - lo) (by (clear i2 c b a hlk sz hkn hak hok hn;lia)) (by (clear i1 c b a hlk sz hkn hok hn;lia));rwa [show lo+(i - lo)=i by (clear this i2 c b a hlk sz hkn hak hok hn;lia)] at this
   repeat' split
   all_goals first
    | (exfalso;(clear a hlk sz hkn hak hok hn;lia))
    | exact Nat.le_refl _
    | exact L1 _ (by (clear c b hlk sz hkn hak hok hn;lia)) (by (clear c a hlk sz hkn hak hok hn;lia))
    | exact Nat.le_of_lt (L2 _ (by (clear c b a hlk sz hkn hak hok hn;lia)) (by (clear c b a hlk sz hkn hak hok hn;lia)))
    | exact hs' _ _ (by (clear c b hlk sz hkn hak hok hn;lia)) (by (clear c a hlk sz hkn hak hok hn;lia)) (by (clear b a sz hkn hak hok hn;lia))
end
end Tim
set_option Elab.async false
set_option linter.all false
set_option maxRecDepth 100000
set_option maxHeartbeats 4000000
namespace Tim
open PySem PyProof.Rows
theorem yO (i:Nat):mergeAt' i=(do
 let s ←get
 let (some (sa,na,power),some (sb,nb,_)):=((pendingOf s)[i]?,(pendingOf s)[i+1]?)|unsupported "internal:list.sort.pending"
 set (SortSt.mk' (kindOf s) (arrOf s) (((pendingOf s).setIfInBounds i (sa,na+nb,power)).eraseIdxIfInBounds (i+1)) (gallopOf s) (failedOf s))
 let some k ←jd false (←elem' (arrOf s) sb) (arrOf s) sa na 0|return false
 let (sa,na):=(sa+k,na - k)
 if na==0 then return true
 let some nb ←jd true (←elem' (arrOf s) (sa+na - 1)) (arrOf s) sb nb (nb - 1)|return false
 if nb==0 then return true
 let x:=(arrOf s).extract sa sb
 let y:=(arrOf s).extract sb (sb+nb)
 let merged ←if na<=nb then tH x y else tK x y
 modify fun s=>setArr s (merged.toList.zipIdx.foldl (fun a (p,j)=>a.setIfInBounds (sa+j) p) (arrOf s))
 return (failedOf (←get)).isNone):=rfl
section
variable {prog:Program} {w:World} {A:Around} {E:Value->Shared->Prop} {s:Shared} {κ:SortKind} {a₀:Array Keyed} {rk:Value->Nat} {pd:Array (Nat×Nat×Nat)}
theorem Dk (b:Nat) (m:List Keyed):∀(n:Nat) (xs:Array Keyed) (j:Nat),b+n+m.length<=xs.size->((m.zipIdx n).foldl (fun a x=>a.setIfInBounds (b+x.2) x.1) xs)[j]? = if b+n<=j/\j<b+n+m.length then m[j - (b+n)]? else xs[j]? :=by
 induction m with
 | nil=>intro n xs j h;rw [if_neg (by simp)];rfl
 | cons p m ih=>
   intro n xs j h;rw [List.length_cons] at h;rw [List.zipIdx_cons,List.foldl_cons,ih (n+1) _ j (by rw [Array.size_setIfInBounds];lia)]
   by_cases e:j=b+n
   ·subst e
    rw [if_neg (by (clear h;lia)),if_pos (by rw [List.length_cons];(clear h;lia)),Nat.sub_self];rw [Array.getElem?_setIfInBounds_self_of_lt (by lia)];rfl
   ·by_cases c:b+(n+1)<=j/\j<b+(n+1)+m.length
    ·rw [if_pos c,if_pos (by rw [List.length_cons];(clear e h;lia)),show j - (b+n)=(j - (b+(n+1)))+1 by (clear e h;lia),List.getElem?_cons_succ]
    ·rw [if_neg c,if_neg (by rw [List.length_cons];(clear h;lia)),Array.getElem?_setIfInBounds_ne (Ne.symm e)]
theorem HN {b n:Nat} {m:List Keyed} {xs:Array Keyed} (hl:m.length=n) (hb:b+n<=xs.size) (hp:m.Perm ((xs.toList.drop b).take n)):((m.zipIdx).foldl (fun a x=>a.setIfInBounds (b+x.2) x.1) xs).Perm xs:=by
 have e:((m.zipIdx).foldl (fun a x=>a.setIfInBounds (b+x.2) x.1) xs).toList=xs.toList.take b++(m++xs.toList.drop (b+n)):=by
  have hx:xs.toList.length=xs.size:=Array.length_toList;apply List.ext_getElem?;intro j;rw [Array.getElem?_toList,Dk b m 0 xs j (by (clear hx;lia))]
  by_cases j1:j<b
  ·rw [if_neg (by (clear hx hb hl;lia)),List.getElem?_append_left (by rw [List.length_take,hx];(clear hx hl;lia)),List.getElem?_take_of_lt j1,Array.getElem?_toList]
  ·rw [List.getElem?_append_right (by rw [List.length_take,hx];(clear hx hb hl;lia)),List.length_take,hx,Nat.min_eq_left (by (clear j1 hx hl;lia))]
   by_cases j2:j<b+n
   ·rw [if_pos (by (clear hx hb;lia)),List.getElem?_append_left (by (clear hx hb;lia))];rfl
   ·rw [if_neg (by (clear j1 hx hb;lia)),List.getElem?_append_right (by (clear j1 hx hb;lia)),List.getElem?_drop,Array.getElem?_toList]
    congr 1
    (clear j1 hx hb;lia)
 refine Array.perm_iff_toList_perm.mpr ?_;rw [e]
 have sp:xs.toList=xs.toList.take b++((xs.toList.drop b).take n++xs.toList.drop (b+n)):=by
  rw [←t_,List.take_append_drop]
 refine List.Perm.trans ?_ (List.Perm.of_eq sp.symm);exact List.Perm.append_left _ (List.Perm.append_right _ hp)
theorem qK {xs:Array Keyed} {lo hi i:Nat} (h:lo+i<hi) (hh:hi<=xs.size):R rk (xs.extract lo hi) i=R rk xs (lo+i):=by
 apply eG;rw [Array.getElem?_extract];rw [if_pos (by lia)]
theorem Ku {σ:Type} {M:Model} {A:Around} {E:Value->Shared->Prop} {s:Shared} {x:σ} {Q:PUnit->σ->Prop} {st:σ} (h:Q ⟨⟩ x):wpS M A E s (set x:StateT σ Sem PUnit) Q st:=by
 unfold wpS;rw [StateT.run_set];exact wpAny_pure ⟨rfl,h⟩
theorem xT {st:SortSt} {i sa na pw sb nb XS:Nat} {Q:Bool->SortSt->Prop} (C:Cz prog w A s κ a₀ rk) (hB:SB κ a₀ pd st) (h1:pd[i]? = some (sa,na,pw)) (h2:pd[i+1]? = some (sb,nb,XS)) (hsb:sb=sa+na) (na1:1<=na) (cW:1<=nb) (hz:sb+nb<=a₀.size)
 (s1:Seg rk (arrOf st) sa (sa+na)) (s2:Seg rk (arrOf st) sb (sb+nb))
 (h:∀st',SB κ a₀ ((pd.setIfInBounds i (sa,na+nb,pw)).eraseIdxIfInBounds (i+1)) st'->(∀j,j<sa\/sb+nb<=j->(arrOf st')[j]? = (arrOf st)[j]?)->Seg rk (arrOf st') sa (sb+nb)->Q true st'):
 wpS (model prog w) A E s (mergeAt' i) Q st:=by
 rw [yO];refine wpS_bind (wpS_get ?_);rw [hB.pend,h1,h2];dsimp only;have sz:(arrOf st).size=a₀.size:=hB.size;have oV:∀p∈(arrOf st).toList,p∈a₀.toList:=fun p hp=>hB.mem hp;have Om:∀i,i<a₀.size -> ∃p,(arrOf st)[i]? = some p/\p∈a₀.toList/\R rk (arrOf st) i=rk p.1:=fun i hi=>⟨(arrOf st)[i]'(by (clear hz cW na1 hsb h2 h1;lia)),getElem?_pos (arrOf st) i (by (clear hz cW na1 hsb h2 h1;lia)),hB.mem (by simp),fZ (by (clear hz cW na1 hsb h2 h1;lia))⟩;refine wpS_bind (Ku ?_);have jA:SB κ a₀ ((pd.setIfInBounds i (sa,na+nb,pw)).eraseIdxIfInBounds (i+1)) (SortSt.mk' (kindOf st) (arrOf st) ((pd.setIfInBounds i (sa,na+nb,pw)).eraseIdxIfInBounds (i+1)) (gallopOf st) (failedOf st)):=⟨hB.perm,hB.kind,hB.failed,rfl⟩;have cI:arrOf (SortSt.mk' (kindOf st) (arrOf st) ((pd.setIfInBounds i (sa,na+nb,pw)).eraseIdxIfInBounds (i+1)) (gallopOf st) (failedOf st))=arrOf st:=rfl;generalize (pd.setIfInBounds i (sa,na+nb,pw)).eraseIdxIfInBounds (i+1)=pd1 at jA cI h ⊢;generalize SortSt.mk' (kindOf st) (arrOf st) pd1 (gallopOf st) (failedOf st)=st1 at jA cI ⊢;obtain ⟨p,ep,mp,rp⟩:=Om sb (by (clear cI sz na1 hsb h2 h1;lia));refine wpS_bind (bG ep (wpS_bind (gw C jA.kind mp oV (by (clear rp ep cI cW na1 h2 h1;lia)) (by (clear rp ep cI sz hz cW hsb h2 h1;lia)) s1 fun k k1 k2 k3=> ?_)));dsimp only;refine aN (fun e=> ?_) (fun e=> ?_)
 ·have e:na - k=0:=eq_of_beq e
  refine wpS_pure (h st1 jA (fun j _=>by rw [cI]) fun i j a b c=> ?_);rw [cI]
  by_cases hj:j<sb
  ·exact s1 i j a b (by (clear c b a e k1 rp ep cI sz hz cW na1 h2 h1;lia))
  ·by_cases hi:i<sb
   ·have e1:=NP (k2 (i - sa) (by (clear hj c b a k1 rp ep cI sz hz cW h2 h1;lia)))
    rw [show sa+(i - sa)=i by (clear e1 hi hj c b e k1 rp ep cI sz hz cW na1 hsb h2 h1;lia)] at e1;have e2:=s2 sb j (Nat.le_refl _) (by (clear e1 hi c b a e k1 rp ep cI sz hz cW na1 hsb h2 h1;lia)) c
    (clear hi hj c b a e k1 ep cI sz hz cW na1 hsb h2 h1;lia)
   ·exact s2 i j (by (clear hj c b a e k1 rp ep cI sz hz cW na1 hsb h2 h1;lia)) b c
 have ek:k<na:=by have:¬na - k=0:=fun z=>e (beq_iff_eq.mpr z);(clear e k1 rp ep cI sz hz cW na1 hsb h2 h1;lia)
 obtain ⟨q,eq,mq,rq⟩:=Om (sa+k+(na - k) - 1) (by (clear ek e rp ep cI sz cW h2 h1;lia));refine wpS_bind (bG eq (wpS_bind (gw C jA.kind mq oV (by (clear rq eq ek e k1 rp ep cI cW na1 hsb h2 h1;lia)) (by (clear rq eq ek e k1 rp ep cI sz hz na1 hsb h2 h1;lia)) s2 fun n2 l1 l2 l3=> ?_)));dsimp only;have aO:sa+k+(na - k) - 1=sb - 1:=by (clear l1 rq eq ek e rp ep cI sz hz cW na1 h2 h1;lia)
 rw [aO] at rq;refine aN (fun e=> ?_) (fun e=> ?_)
 ·have e:n2=0:=eq_of_beq e
  refine wpS_pure (h st1 jA (fun j _=>by rw [cI]) fun i j a b c=> ?_);rw [cI]
  by_cases hj:j<sb
  ·exact s1 i j a b (by (clear c b a e aO l1 rq eq ek k1 rp ep cI sz hz cW na1 h2 h1;lia))
  ·by_cases hi:i<sb
   ·have e1:=zT (l3 (j - sb) (by (clear hi hj c b a aO l1 rq eq ek k1 rp ep cI sz hz cW na1 hsb h2 h1;lia)) (by (clear hi hj b a e aO l1 rq eq ek k1 rp ep cI sz hz na1 hsb h2 h1;lia)))
    rw [show sb+(j - sb)=j by (clear e1 hi c b a e aO l1 rq eq ek k1 rp ep cI sz hz cW na1 hsb h2 h1;lia)] at e1;have e2:=s1 i (sb - 1) a (by (clear e1 hj c b a e aO l1 rq eq ek k1 rp ep cI sz hz cW na1 hsb h2 h1;lia)) (by (clear e1 hi hj c b a e aO l1 rq eq ek k1 rp ep cI sz hz cW h2 h1;lia))
    (clear hi hj c b a e aO l1 eq ek k1 rp ep cI sz hz cW na1 hsb h2 h1;lia)
   ·exact s2 i j (by (clear hj c b a e aO l1 rq eq ek k1 rp ep cI sz hz cW na1 hsb h2 h1;lia)) b c
 have e2:¬n2=0:=fun z=>e (beq_iff_eq.mpr z);have dW:((arrOf st).extract (sa+k) sb).size=sb - (sa+k):=by rw [Array.size_extract,Nat.min_eq_left (by (clear e2 e aO l1 rq eq ek k1 rp ep cI cW na1 hsb h2 h1;lia))]
 have d7:((arrOf st).extract sb (sb+n2)).size=n2:=by rw [Array.size_extract,Nat.min_eq_left (by (clear dW e2 e aO rq eq ek k1 rp ep cI cW na1 hsb h2 h1;lia))];(clear dW e2 e aO l1 rq eq ek k1 rp ep cI sz hz cW na1 hsb h2 h1;lia)
 have RG:∀p∈((arrOf st).extract (sa+k) sb).toList,p∈a₀.toList:=fun p hp=>oV p (by rw [cD] at hp;exact List.mem_of_mem_drop (List.mem_of_mem_take hp));have yin:∀p∈((arrOf st).extract sb (sb+n2)).toList,p∈a₀.toList:=fun p hp=>oV p (by rw [cD] at hp;exact List.mem_of_mem_drop (List.mem_of_mem_take hp))
 have sx:Seg rk ((arrOf st).extract (sa+k) sb) 0 ((arrOf st).extract (sa+k) sb).size:=fun i j a b c=>by
  rw [dW] at c;rw [qK (by (clear a d7 dW e2 e aO l1 rq eq ek k1 rp ep cI sz hz cW na1 hsb h2 h1;lia)) (by (clear c b a d7 dW e2 e aO l1 rq eq ek k1 rp ep cI cW na1 hsb h2 h1;lia)),qK (by (clear b a d7 dW e2 e aO l1 rq eq ek k1 rp ep cI sz hz cW na1 hsb h2 h1;lia)) (by (clear c b a d7 dW e2 e aO l1 rq eq ek k1 rp ep cI cW na1 hsb h2 h1;lia))];exact s1 _ _ (by (clear c b a d7 dW e2 e aO l1 rq eq ek k1 rp ep cI sz hz cW na1 hsb h2 h1;lia)) (by (clear c a d7 dW e2 e aO l1 rq eq ek k1 rp ep cI sz hz cW na1 hsb h2 h1;lia)) (by (clear b a d7 dW e2 e aO l1 rq eq ek k1 rp ep cI sz hz cW na1 h2 h1;lia))
 have sy:Seg rk ((arrOf st).extract sb (sb+n2)) 0 ((arrOf st).extract sb (sb+n2)).size:=fun i j a b c=>by
  rw [d7] at c;rw [qK (by (clear a d7 dW e2 e aO l1 rq eq ek k1 rp ep cI sz hz cW na1 hsb h2 h1;lia)) (by (clear c b a d7 dW e2 e aO rq eq ek k1 rp ep cI cW na1 hsb h2 h1;lia)),qK (by (clear b a d7 dW e2 e aO l1 rq eq ek k1 rp ep cI sz hz cW na1 hsb h2 h1;lia)) (by (clear c b a d7 dW e2 e aO rq eq ek k1 rp ep cI cW na1 hsb h2 h1;lia))];exact s2 _ _ (by (clear c b a d7 dW e2 e aO l1 rq eq ek k1 rp ep cI sz hz cW na1 hsb h2 h1;lia)) (by (clear c a d7 dW e2 e aO l1 rq eq ek k1 rp ep cI sz hz cW na1 hsb h2 h1;lia)) (by (clear b a d7 dW e2 e aO rq eq ek k1 rp ep cI sz hz cW na1 hsb h2 h1;lia))
 have h0:R rk ((arrOf st).extract sb (sb+n2)) 0<=R rk ((arrOf st).extract (sa+k) sb) 0:=by
  rw [qK (by (clear d7 dW e aO l1 rq eq ek k1 rp ep cI sz hz cW na1 hsb h2 h1;lia)) (by (clear d7 dW e2 e aO rq eq ek k1 rp ep cI cW na1 hsb h2 h1;lia)),qK (by (clear d7 dW e2 e aO l1 rq eq k1 rp ep cI sz hz cW na1 h2 h1;lia)) (by (clear d7 dW e2 e aO l1 rq eq ek k1 rp ep cI cW na1 hsb h2 h1;lia)),Nat.add_zero,Nat.add_zero,rp];have:=Kl (k3 k (Nat.le_refl _) ek)
  (clear d7 dW e2 e aO l1 rq eq ek k1 rp ep cI sz hz cW na1 hsb h2 h1;lia)
 have hl:R rk ((arrOf st).extract sb (sb+n2)) (((arrOf st).extract sb (sb+n2)).size - 1)<=R rk ((arrOf st).extract (sa+k) sb) (((arrOf st).extract (sa+k) sb).size - 1):=by
  rw [dW,d7,qK (by (clear h0 d7 dW e aO l1 rq eq ek k1 rp ep cI sz hz cW na1 hsb h2 h1;lia)) (by (clear h0 d7 dW e2 e aO rq eq ek k1 rp ep cI cW na1 hsb h2 h1;lia)),qK (by (clear h0 d7 dW e2 e aO l1 rq eq k1 rp ep cI sz hz cW na1 h2 h1;lia)) (by (clear h0 d7 dW e2 e aO l1 rq eq ek k1 rp ep cI cW na1 hsb h2 h1;lia)),show sa+k+(sb - (sa+k) - 1)=sb - 1 by (clear h0 d7 dW e2 e aO l1 rq eq k1 rp ep cI sz hz cW na1 h2 h1;lia),rq];have:=Rk (l2 (n2 - 1) (by (clear h0 d7 dW e aO l1 rq eq ek k1 rp ep cI sz hz cW na1 hsb h2 h1;lia)))
  (clear h0 d7 dW e2 e aO l1 rq eq ek k1 rp ep cI sz hz cW na1 hsb h2 h1;lia)
 have fin:∀r st2,xP st1 st2->Mg rk ((arrOf st).extract (sa+k) sb) ((arrOf st).extract sb (sb+n2)) r->wpS (model prog w) A E s (do
  modify fun s=>setArr s (List.foldl (fun a x=>a.setIfInBounds (sa+k+x.snd) x.fst) (arrOf s) r.toList.zipIdx)
  let __do_lift ←get
  pure (failedOf __do_lift).isNone) Q st2:=by
  intro r st2 k2' mg;have jm:arrOf st2=arrOf st:=k2'.a.trans cI;refine wpS_bind (wpS_modify ?_);refine wpS_bind (wpS_get ?_);have hf:failedOf (setArr st2 (List.foldl (fun a x=>a.setIfInBounds (sa+k+x.snd) x.fst) (arrOf st2) r.toList.zipIdx))=none:=k2'.f.trans jA.failed;rw [hf]
  have rl:r.toList.length=sb - (sa+k)+n2:=by
   rw [mg.perm.length_eq,List.length_append,Array.length_toList,Array.length_toList,dW,d7]
  have rp':r.toList.Perm (((arrOf st).toList.drop (sa+k)).take (sb - (sa+k)+n2)):=by
   refine mg.perm.trans (List.Perm.of_eq ?_);rw [cD,cD,List.take_add,List.drop_drop,show sb+n2 - sb=n2 by (clear rl hf jm hl h0 d7 dW e2 e aO l1 rq eq ek k1 rp ep cI sz hz cW na1 hsb h2 h1;lia),show sa+k+(sb - (sa+k))=sb by (clear rl hf jm hl h0 d7 dW e2 e aO l1 rq eq ek rp ep cI sz hz cW na1 h2 h1;lia)]
  have get:∀j,(arrOf (setArr st2 (List.foldl (fun a x=>a.setIfInBounds (sa+k+x.snd) x.fst) (arrOf st2) r.toList.zipIdx)))[j]? = if sa+k<=j/\j<sb+n2 then r.toList[j - (sa+k)]? else (arrOf st)[j]? :=fun j=>by
   show (List.foldl (fun a x=>a.setIfInBounds (sa+k+x.snd) x.fst) (arrOf st2) r.toList.zipIdx)[j]? = _;rw [jm,Dk (sa+k) r.toList 0 (arrOf st) j (by (clear hf jm hl h0 d7 dW e2 e aO rq eq ek rp ep cI cW na1 h2 h1;lia)),rl]
   by_cases c:sa+k<=j/\j<sb+n2
   ·rw [if_pos c,if_pos (by (clear rl hf jm hl h0 d7 dW e2 e aO l1 rq eq ek k1 rp ep cI sz hz cW na1 hsb h2 h1;lia))];rfl
   ·rw [if_neg c,if_neg (by (clear rl hf jm hl h0 d7 dW e2 e aO l1 rq eq ek rp ep cI sz hz cW na1 h2 h1;lia))]
  have hB2:SB κ a₀ pd1 (setArr st2 (List.foldl (fun a x=>a.setIfInBounds (sa+k+x.snd) x.fst) (arrOf st2) r.toList.zipIdx)):=by
   refine ⟨?_,k2'.k.trans jA.kind,hf,k2'.p.trans jA.pend⟩;show (List.foldl (fun a x=>a.setIfInBounds (sa+k+x.snd) x.fst) (arrOf st2) r.toList.zipIdx).Perm a₀;rw [jm];exact (HN rl (by (clear rl hf jm hl h0 d7 dW e2 e aO rq eq ek rp ep cI cW na1 h2 h1;lia)) rp').trans hB.perm
  generalize setArr st2 (List.foldl (fun a x=>a.setIfInBounds (sa+k+x.snd) x.fst) (arrOf st2) r.toList.zipIdx)=st3 at get hB2 ⊢;have out:∀j,¬(sa+k<=j/\j<sb+n2)->R rk (arrOf st3) j=R rk (arrOf st) j:=fun j hj=>eG (by rw [get j,if_neg hj])
  have mid:∀j,sa+k<=j->j<sb+n2 -> ∃j0,sa+k<=j0/\j0<sb+n2/\R rk (arrOf st3) j=R rk (arrOf st) j0:=fun j j1 j2=>by
   have e:=get j;rw [if_pos ⟨j1,j2⟩,List.getElem?_eq_getElem (by (clear e j1 hf jm hl h0 d7 dW e2 aO l1 rq eq k1 rp ep cI sz hz cW na1 h2 h1;lia))] at e;have hm:r.toList[j - (sa+k)]'(by (clear e j1 hf jm hl h0 d7 dW e2 aO l1 rq eq k1 rp ep cI sz hz cW na1 h2 h1;lia))∈((arrOf st).toList.drop (sa+k)).take (sb - (sa+k)+n2):=rp'.mem_iff.mp (List.getElem_mem _);obtain ⟨j0,a1,a2,a3⟩:=gO (rk:=rk) hm;exact ⟨sa+k+j0,by (clear a3 a2 a1 e j1 hf jm hl h0 d7 dW e2 aO l1 rq eq k1 rp ep cI sz hz cW na1 h2 h1;lia),by (clear a3 a2 e j1 hf jm hl h0 d7 dW e2 aO l1 rq eq k1 rp ep cI sz hz cW na1 h2 h1;lia),by rw [uz e,a3]⟩
  refine wpS_pure (h st3 hB2 (fun j hj=>by rw [get j,if_neg (by (clear rl hf jm hl h0 d7 dW e2 e aO rq eq ek k1 rp ep cI sz hz cW na1 hsb h2 h1;lia))]) fun i j a b c=> ?_)
  by_cases i1:i<sa+k
  ·have ei:=NP (k2 (i - sa) (by (clear c b rl hf jm hl h0 d7 dW e2 e aO l1 rq eq ek k1 rp ep cI sz hz cW na1 hsb h2 h1;lia)))
   rw [show sa+(i - sa)=i by (clear ei i1 c b rl hf jm hl h0 d7 dW e2 e aO l1 rq eq ek k1 rp ep cI sz hz cW na1 hsb h2 h1;lia),←rp] at ei;rw [out i (by (clear ei c b a rl hf jm hl h0 d7 dW e2 e aO l1 rq eq ek k1 rp ep cI sz hz cW na1 hsb h2 h1;lia))]
   have key:∀j0,sa+k<=j0->j0<sb+nb->R rk (arrOf st) i<=R rk (arrOf st) j0:=fun j0 b1 b2=>by
    by_cases c:j0<sb
    ·exact s1 i j0 a (by (clear c b2 ei b a rl hf jm hl h0 d7 dW e2 e aO l1 rq eq ek k1 rp ep cI sz hz cW na1 hsb h2 h1;lia)) (by (clear b2 b1 ei i1 b a rl hf jm hl h0 d7 dW e2 e aO l1 rq eq ek k1 rp ep cI sz hz cW na1 h2 h1;lia))
    ·have:=s2 sb j0 (Nat.le_refl _) (by (clear b2 b1 ei i1 b a rl hf jm hl h0 d7 dW e2 e aO l1 rq eq ek k1 rp ep cI sz hz cW na1 hsb h2 h1;lia)) b2;(clear c b2 b1 i1 b a rl hf jm hl h0 d7 dW e2 e aO l1 rq eq ek k1 rp ep cI sz hz cW na1 hsb h2 h1;lia)
   by_cases j1:sa+k<=j/\j<sb+n2
   ·obtain ⟨j0,b1,b2,b3⟩:=mid j j1.1 j1.2
    rw [b3];exact key j0 b1 (by (clear b3 b1 j1 ei i1 c b a rl hf jm hl h0 d7 dW e2 e aO rq eq ek k1 rp ep cI sz hz cW na1 hsb h2 h1;lia))
   ·rw [out j j1]
    by_cases j2:j<sa+k
    ·exact s1 i j a b (by (clear j1 ei i1 c b a rl hf jm hl h0 d7 dW e2 e aO l1 rq eq ek rp ep cI sz hz cW na1 hsb h2 h1;lia))
    ·exact key j (by (clear j1 ei i1 c b a rl hf jm hl h0 d7 dW e2 e aO l1 rq eq ek k1 rp ep cI sz hz cW na1 hsb h2 h1;lia)) c
  ·by_cases i2:i<sb+n2
   ·by_cases j2:j<sb+n2
    ·have e1:=get i
     have e2:=get j;rw [if_pos ⟨by (clear e2 e1 j2 i2 c b a rl hf jm hl h0 d7 dW e aO l1 rq eq ek k1 rp ep cI sz hz cW na1 hsb h2 h1;lia),i2⟩,List.getElem?_eq_getElem (by (clear e2 e1 j2 i1 c b a hf jm hl h0 d7 dW e aO l1 rq eq ek k1 rp ep cI sz hz cW na1 hsb h2 h1;lia))] at e1;rw [if_pos ⟨by (clear e2 e1 j2 i2 c a rl hf jm hl h0 d7 dW e aO l1 rq eq ek k1 rp ep cI sz hz cW na1 hsb h2 h1;lia),j2⟩,List.getElem?_eq_getElem (by (clear e2 e1 i2 i1 c b a hf jm hl h0 d7 dW e aO l1 rq eq ek k1 rp ep cI sz hz cW na1 hsb h2 h1;lia))] at e2;rw [uz e1,uz e2]
     by_cases eij:i=j
     ·subst eij;exact Nat.le_refl _
     ·exact List.pairwise_iff_getElem.mp mg.srt _ _ _ _ (by (clear e2 e1 j2 i2 c a rl hf jm hl h0 d7 dW e aO l1 rq eq ek k1 rp ep cI sz hz cW na1 hsb h2 h1;lia))
    ·obtain ⟨i0,b1,b2,b3⟩:=mid i (by (clear j2 i2 c b a rl hf jm hl h0 d7 dW e2 e aO l1 rq eq ek k1 rp ep cI sz hz cW na1 hsb h2 h1;lia)) i2
     rw [b3,out j (by (clear b3 b2 b1 i2 i1 c b a rl hf jm hl h0 d7 dW e2 e aO l1 rq eq ek k1 rp ep cI sz hz cW na1 hsb h2 h1;lia))]
     by_cases c':i0<sb
     ·have e1:=s1 i0 (sb - 1) (by (clear c' b3 b2 j2 i2 i1 c b a rl hf jm hl h0 d7 dW e2 e aO l1 rq eq ek k1 rp ep cI sz hz cW na1 hsb h2 h1;lia)) (by (clear b3 b2 b1 j2 i2 i1 c b a rl hf jm hl h0 d7 dW e2 e aO l1 rq eq ek k1 rp ep cI sz hz cW na1 hsb h2 h1;lia)) (by (clear c' b3 b2 b1 j2 i2 i1 c b a rl hf jm hl h0 d7 dW e2 e aO l1 rq eq ek k1 rp ep cI sz hz cW h2 h1;lia))
      have e2:=zT (l3 (j - sb) (by (clear e1 c' b3 b2 b1 i2 i1 c b a rl hf jm hl h0 d7 dW e2 e aO l1 rq eq ek k1 rp ep cI sz hz cW na1 hsb h2 h1;lia)) (by (clear e1 c' b3 b2 b1 j2 i2 i1 b a rl hf jm hl h0 d7 dW e2 e aO l1 rq eq ek k1 rp ep cI sz hz na1 hsb h2 h1;lia)));rw [show sb+(j - sb)=j by (clear e2 e1 c' b3 b2 b1 i2 i1 c b a rl hf jm hl h0 d7 dW e aO l1 rq eq ek k1 rp ep cI sz hz cW na1 hsb h2 h1;lia),←rq] at e2
      (clear c' b3 b2 b1 j2 i2 i1 c b a rl hf jm hl h0 d7 dW e aO l1 rq eq ek k1 rp ep cI sz hz cW na1 hsb h2 h1;lia)
     ·exact s2 i0 j (by (clear b3 b2 b1 j2 i2 i1 c b a rl hf jm hl h0 d7 dW e2 e aO l1 rq eq ek k1 rp ep cI sz hz cW na1 hsb h2 h1;lia)) (by (clear c' b3 b1 i2 i1 c b a rl hf jm hl h0 d7 dW e2 e aO l1 rq eq ek k1 rp ep cI sz hz cW na1 hsb h2 h1;lia)) c
   ·rw [out i (by (clear i1 c b a rl hf jm hl h0 d7 dW e2 e aO l1 rq eq ek k1 rp ep cI sz hz cW na1 hsb h2 h1;lia)),out j (by (clear i1 c a rl hf jm hl h0 d7 dW e2 e aO l1 rq eq ek k1 rp ep cI sz hz cW na1 hsb h2 h1;lia))]
    exact s2 i j (by (clear i1 c b a rl hf jm hl h0 d7 dW e2 e aO l1 rq eq ek k1 rp ep cI sz hz cW na1 hsb h2 h1;lia)) b c
 refine aN (fun _=> ?_) (fun _=> ?_)
 ·exact wpS_bind (xQ C jA.kind RG yin (by (clear hl h0 d7 e2 e aO l1 rq eq k1 rp ep cI sz hz cW na1 h2 h1;lia)) (by (clear hl h0 dW e2 e aO l1 rq eq k1 rp ep cI sz hz cW na1 hsb h2 h1;lia)) sx sy h0 hl fin)
 ·exact wpS_bind (xR C jA.kind RG yin (by (clear hl h0 d7 e2 e aO l1 rq eq ek k1 rp ep cI sz hz cW na1 h2 h1;lia)) (by (clear hl h0 dW e aO l1 rq eq ek k1 rp ep cI sz hz cW na1 hsb h2 h1;lia)) sx sy h0 hl fin)
end
end Tim
set_option Elab.async false
set_option linter.all false
set_option maxRecDepth 100000
set_option maxHeartbeats 4000000
namespace Tim
open PySem PyProof.Rows
section
variable {prog:Program} {w:World} {A:Around} {E:Value->Shared->Prop} {s:Shared} {κ:SortKind} {a₀:Array Keyed} {rk:Value->Nat} {pd:Array (Nat×Nat×Nat)}
def Runs (rk:Value->Nat) (xs:Array Keyed):List (Nat×Nat×Nat)->Nat->Nat->Prop
 | [],a,e=>a=e
 | (s,n,_)::r,a,e=>s=a/\1<=n/\Seg rk xs a (a+n)/\Runs rk xs r (a+n) e
theorem Runs.le {xs:Array Keyed}:∀{l:List (Nat×Nat×Nat)} {a e:Nat},Runs rk xs l a e->a+l.length<=e
 | [],a,e,h=>Nat.le_of_eq h
 | (s,n,_)::r,a,e,h=>by
   have:=Runs.le h.2.2.2;have:=h.2.1;rw [List.length_cons];lia
theorem Runs.app {xs:Array Keyed} {r:List (Nat×Nat×Nat)}:∀{l:List (Nat×Nat×Nat)} {a e:Nat},Runs rk xs (l++r) a e ↔ ∃m,Runs rk xs l a m/\Runs rk xs r m e
 | [],a,e=>⟨fun h=>⟨a,rfl,h⟩,fun ⟨m,h1,h2⟩=>by
     have h1:a=m:=h1;subst h1;exact h2⟩
 | (s,n,_)::l,a,e=>by
   constructor
   ·rintro ⟨h1,h2,h3,h4⟩
    obtain ⟨m,m1,m2⟩:=Runs.app.mp h4;exact ⟨m,⟨h1,h2,h3,m1⟩,m2⟩
   ·rintro ⟨m,⟨h1,h2,h3,h4⟩,m2⟩
    exact ⟨h1,h2,h3,Runs.app.mpr ⟨m,h4,m2⟩⟩
theorem Runs.congr {xs ys:Array Keyed}:∀{l:List (Nat×Nat×Nat)} {a e:Nat},Runs rk xs l a e->(∀j,a<=j->j<e->R rk xs j=R rk ys j)->Runs rk ys l a e
 | [],a,e,h,_=>h
 | (s,n,_)::r,a,e,⟨h1,h2,h3,h4⟩,g=>by
   have le:=Runs.le h4;refine ⟨h1,h2,fun i j x y z=> ?_,Runs.congr h4 fun j x y=>g j (by (clear y le h2 h1;lia)) y⟩;rw [←g i x (by (clear x h2 h1;lia)),←g j (by (clear z le h2 h1;lia)) (by (clear y x h2 h1;lia))];exact h3 i j x y z
theorem Pj {α:Type} {l:List α} {i:Nat} (h:i+1<l.length):∃pre p q post,l=pre++p::q::post/\pre.length=i:=by
 refine ⟨l.take i,l[i],l[i+1],l.drop (i+2), ?_,by rw [List.length_take];lia⟩;rw [←List.drop_eq_getElem_cons,←List.drop_eq_getElem_cons,List.take_append_drop]
theorem mV {st:SortSt} {i e:Nat} {Q:Bool->SortSt->Prop} (C:Cz prog w A s κ a₀ rk) (hB:SB κ a₀ pd st) (hr:Runs rk (arrOf st) pd.toList 0 e) (he:e<=a₀.size) (hi:i+1<pd.size)
 (h:∀Ys st',SB κ a₀ Ys st'->Runs rk (arrOf st') Ys.toList 0 e->Ys.size+1=pd.size->(∀j,e<=j->(arrOf st')[j]? = (arrOf st)[j]?)->Q true st'):wpS (model prog w) A E s (mergeAt' i) Q st:=by
 obtain ⟨pre,⟨sa,na,pw⟩,⟨sb,nb,XS⟩,post,el,pl⟩:=Pj (l:=pd.toList) (i:=i) (by rw [Array.length_toList];exact hi);rw [el] at hr;obtain ⟨m,r1,r2⟩:=Runs.app.mp hr;obtain ⟨e1,n1,s1,e2,n2,s2,r3⟩:=r2;subst e1;have fD:=Runs.le r3;have h1:pd[i]? = some (sa,na,pw):=by rw [←Array.getElem?_toList,el,List.getElem?_append_right (by (clear fD e2 n2 n1 el hi he;lia)),pl,Nat.sub_self];rfl
 have h2:pd[i+1]? = some (sb,nb,XS):=by rw [←Array.getElem?_toList,el,List.getElem?_append_right (by (clear h1 fD e2 n2 n1 el hi he;lia)),pl,show i+1 - i=1 by (clear h1 fD e2 n2 n1 pl el hi he;lia)];rfl
 refine xT C hB h1 h2 e2 n1 n2 (by (clear h2 h1 n2 n1 pl el hi;lia)) s1 (by rw [e2];exact s2) fun st' hB' out seg=> ?_
 have ep:((pd.setIfInBounds i (sa,na+nb,pw)).eraseIdxIfInBounds (i+1)).toList=pre++(sa,na+nb,pw)::post:=by
  rw [Array.toList_eraseIdxIfInBounds,Array.toList_setIfInBounds,el,List.set_append_right _ _ (by (clear h2 h1 fD e2 n2 n1 el hi he;lia)),pl,Nat.sub_self];rw [List.eraseIdx_append_of_length_le (by (clear h2 h1 fD e2 n2 n1 el hi he;lia)),pl,show i+1 - i=1 by (clear h2 h1 fD e2 n2 n1 pl el hi he;lia)];rfl
 refine h _ st' hB' ?_ ?_ fun j hj=>out j (.inr (by (clear ep h2 h1 n2 n1 pl el hi he;lia)))
 ·rw [ep]
  refine Runs.app.mpr ⟨sa,r1.congr fun j _ j2=>eG (out j (.inl j2)).symm,rfl,by (clear ep h2 h1 fD e2 n2 pl el hi he;lia), ?_, ?_⟩
  ·rw [show sa+(na+nb)=sb+nb by (clear ep h2 h1 fD n2 n1 pl el hi he;lia)];exact seg
  ·rw [←Nat.add_assoc]
   exact r3.congr fun j j1 j2=>eG (out j (.inr (by (clear j2 ep h2 h1 fD n2 n1 pl el hi he;lia)))).symm
 ·rw [←Array.length_toList,ep,←Array.length_toList,el]
  simp only [List.length_append,List.length_cons]
  (clear ep h2 h1 fD e2 n2 n1 pl el hi he;lia)
theorem Runs.modify {xs:Array Keyed} {f:Nat×Nat×Nat->Nat×Nat×Nat} (hf:∀x,(f x).1=x.1/\(f x).2.1=x.2.1) (l:List (Nat×Nat×Nat)):∀(i a e:Nat),Runs rk xs l a e->Runs rk xs (l.modify i f) a e:=by
 induction l with
 | nil=>intro i a e h;cases i<;>exact h
 | cons t r ih=>
   obtain ⟨s,n,p⟩:=t;intro i a e h;obtain ⟨h1,h2,h3,h4⟩:=h;cases i with
   | zero=>
     rw [List.modify_zero_cons];have e2:=hf (s,n,p);rcases hfp:f (s,n,p) with ⟨s',n',p'⟩
     rw [hfp] at e2;obtain ⟨q1,q2⟩:=e2;have q1:s'=s:=q1;have q2:n'=n:=q2;rw [q1,q2];exact ⟨h1,h2,h3,h4⟩
   | succ i=>
     rw [List.modify_succ_cons];exact ⟨h1,h2,h3,ih i _ _ h4⟩
theorem wpS_sortRuns {st:SortSt} {Q:Unit->SortSt->Prop} (C:Cz prog w A s κ a₀ rk) (hB:SB κ a₀ #[] st) (h2:2<=a₀.size)
 (h:∀st',(arrOf st').Perm a₀->failedOf st'=none->Seg rk (arrOf st') 0 a₀.size->Q () st'):wpS (model prog w) A E s sortRuns' Q st:=by
 rw [sortRuns'_eq];refine wpS_bind (wpS_get ?_);dsimp only;simp only [hB.size];generalize minRun' a₀.size a₀.size 0=mr
 refine wpS_bind (wpS_mono (wpS_forRange (I:=fun x c st'=>∃lo pd,c=(none,lo)/\x<=lo/\lo<=a₀.size/\SB κ a₀ pd st'/\Runs rk (arrOf st') pd.toList 0 lo)
  (Q:=fun c st'=>∃pd,c=(none,a₀.size)/\SB κ a₀ pd st'/\Runs rk (arrOf st') pd.toList 0 a₀.size) ?step ?fin ⟨0, #[],rfl,by (clear h2;lia),by (clear h2;lia),hB,rfl⟩) ?post)
 case fin=>
  rintro c st' ⟨lo,pd,rfl,x1,x2,hB',hr⟩;have:lo=a₀.size:=by (clear h2;lia)
  subst this;exact ⟨pd,rfl,hB',hr⟩
 case step=>
  rintro x c st' _ hx ⟨lo,pd,rfl,x1,x2,hB',hr⟩;dsimp only;refine aN (fun ge=> ?_) (fun ge=> ?_)
  ·have:lo=a₀.size:=by (clear x1 hx h2;lia)
   subst this;exact wpS_pure ⟨pd,rfl,hB',hr⟩
  refine wpS_bind (wpS_countRun C (by (clear ge x1 hx h2;lia)) (by (clear x2 x1 hx h2;lia)) hB' fun m st2 hB2 kb2 m1 m2 hs2=> ?_);dsimp only;have hr2:=hr.congr (ys:=arrOf st2) fun j _ j2=>eG (kb2 j j2).symm;apply aN
  case' h1=>
   intro lt;refine wpS_bind (wpS_lift (wpAny_rule ⟨rfl, ?_⟩));refine wpS_bind (wpS_binarySort C (by (clear lt m2 m1 ge x1 hx h2;lia)) (by (clear m1 ge x2 x1 hx h2;lia)) hB2 hs2 fun st3 hB3 kb3 hs3=> ?_);simp only [Bool.not_true,Bool.false_eq_true,if_false];have Ou:=hr2.congr (ys:=arrOf st3) fun j _ j2=>eG (kb3 j j2).symm;have n1:1<=min (a₀.size - lo) mr:=by (clear m2 m1 x2 x1 hx h2;lia)
   have n2:min (a₀.size - lo) mr<=a₀.size - lo:=by (clear n1 lt m2 m1 ge x2 x1 hx h2;lia)
   generalize min (a₀.size - lo) mr=n at hs3 n1 n2 ⊢
  case' h2=>
   intro lt;have Ou:=hr2;have hB3:=hB2;have hs3:=hs2;have n1:=m1;have n2:=m2;revert Ou hB3 hs3;generalize st2=st3;revert n1 n2;generalize m=n;intro n1 n2 Ou hB3 hs3
  all_goals
   refine wpS_bind (wpS_get ?_)
   have done:∀j5 kj,SB κ a₀ j5 kj->Runs rk (arrOf kj) j5.toList 0 lo->Seg rk (arrOf kj) lo (lo+n)->wpS (model prog w) A E s (do
    modify fun s=>setPending s ((pendingOf s).push (lo,n,0))
    pure (ForInStep.yield ((none:Option Unit),lo+n))) (fun r st'=>match r with
     | ForInStep.done c'=>∃pd,c'=(none,a₀.size)/\SB κ a₀ pd st'/\Runs rk (arrOf st') pd.toList 0 a₀.size
     | ForInStep.yield c'=>∃lo pd,c'=(none,lo)/\x+1<=lo/\lo<=a₀.size/\SB κ a₀ pd st'/\Runs rk (arrOf st') pd.toList 0 lo) kj:=by
    intro j5 kj pZ tQ QF;refine wpS_bind (wpS_modify (wpS_pure ⟨lo+n,j5.push (lo,n,0),rfl,by (clear n2 lt m2 m1 ge x2 hx h2;lia),by (clear n1 lt m2 m1 ge x1 hx h2;lia),⟨pZ.perm,pZ.kind,pZ.failed,by show (pendingOf kj).push _=_;rw [pZ.pend]⟩, ?_⟩));rw [Array.toList_push];exact Runs.app.mpr ⟨lo,tQ,rfl,n1,QF,rfl⟩
   cases hb:(pendingOf st3).back? with
   | none=>exact done _ _ hB3 Ou hs3
   | some t=>
     obtain ⟨s1,ZC,pw⟩:=t;dsimp only;generalize power' a₀.size (2*s1+ZC) (2*s1+ZC+ZC+n) a₀.size=pwr
     refine wpS_bind (wpS_mono (wpS_forRange (I:=fun y c kj=>∃j5,c=(none,())/\SB κ a₀ j5 kj/\Runs rk (arrOf kj) j5.toList 0 lo/\Seg rk (arrOf kj) lo (lo+n))
      (Q:=fun c kj=>∃j5,c=(none,())/\SB κ a₀ j5 kj/\Runs rk (arrOf kj) j5.toList 0 lo/\Seg rk (arrOf kj) lo (lo+n)) ?_ (fun _ _ z=>z) ⟨_,rfl,hB3,Ou,hs3⟩) ?_)
     ·rintro y c kj _ hy ⟨j5,rfl,pZ,tQ,QF⟩
      refine wpS_bind (wpS_get ?_);rw [pZ.pend];cases hg:(if j5.size>1 then j5[j5.size - 2]? else none) with
      | none=>exact wpS_pure ⟨j5,rfl,pZ,tQ,QF⟩
      | some t=>
        obtain ⟨f1,f2,older⟩:=t;dsimp only
        have gt:j5.size>1:=by
         by_cases g:j5.size>1
         ·exact g
         ·rw [if_neg g] at hg;cases hg
        refine aN (fun _=> ?_) (fun _=> ?_)
        ·exact wpS_pure ⟨j5,rfl,pZ,tQ,QF⟩
        ·refine wpS_bind (mV C pZ tQ x2 (by (clear hg hy hb n2 n1 lt m2 m1 ge x2 x1 hx h2;lia)) fun Yr xJ hB5 hr5 _ SQ=> ?_)
         simp only [Bool.not_true,Bool.false_eq_true,if_false];refine wpS_pure ⟨Yr,rfl,hB5,hr5,fun i j a b c=> ?_⟩;rw [eG (SQ i a),eG (SQ j (by (clear c gt hg hy hb n2 n1 lt m2 m1 ge x2 x1 hx h2;lia)))];exact QF i j a b c
     ·rintro c kj ⟨j5,rfl,pZ,tQ,QF⟩
      dsimp only;refine wpS_bind (wpS_modify ?_);refine done _ _ ⟨pZ.perm,pZ.kind,pZ.failed,rfl⟩ ?_ QF;rw [←pZ.pend] at tQ;rw [Array.toList_modify];refine Runs.modify (fun x=> ?_) _ _ _ _ tQ;exact ⟨rfl,rfl⟩
 case post=>
  rintro c st' ⟨pd,rfl,hB',hr⟩;dsimp only;have le:=Runs.le hr;rw [Array.length_toList] at le
  refine wpS_bind (wpS_mono (wpS_forRange (I:=fun y c kj=>∃j5,c=(none,())/\SB κ a₀ j5 kj/\Runs rk (arrOf kj) j5.toList 0 a₀.size/\j5.size<=max 1 (a₀.size - y))
   (Q:=fun c kj=>∃j5,c=(none,())/\SB κ a₀ j5 kj/\Runs rk (arrOf kj) j5.toList 0 a₀.size/\j5.size<=1) ?_ ?_ ⟨pd,rfl,hB',hr,by (clear h2;lia)⟩) ?_)
  ·rintro y c kj _ hy ⟨j5,rfl,pZ,tQ,Tg⟩
   refine wpS_bind (wpS_get ?_);rw [pZ.pend];refine aN (fun l1=> ?_) (fun l1=> ?_)
   ·exact wpS_pure ⟨j5,rfl,pZ,tQ,l1⟩
   ·have hix:∀(c:Prop) [Decidable c],(if c then j5.size - 2 - 1 else j5.size - 2)+1<j5.size:=by
     intro c _;split<;>(clear Tg hy le h2;lia)
    refine wpS_bind (mV C pZ tQ (Nat.le_refl _) (hix _) fun Yr xJ hB5 hr5 z5 _=> ?_);simp only [Bool.not_true,Bool.false_eq_true,if_false];exact wpS_pure ⟨Yr,rfl,hB5,hr5,by (clear l1 hy le h2;lia)⟩
  ·rintro c kj ⟨j5,rfl,pZ,tQ,Tg⟩
   exact ⟨j5,rfl,pZ,tQ,by (clear le h2;lia)⟩
  ·rintro c kj ⟨j5,rfl,pZ,tQ,Tg⟩
   refine wpS_pure (h kj pZ.perm pZ.failed ?_);have ll:j5.toList.length<=1:=by rw [Array.length_toList];exact Tg
   match hl:j5.toList,ll,tQ with
   | [],_,tQ=>have:0=a₀.size:=tQ;(clear hl ll Tg le;lia)
   | [(s,n,p)],_,tQ=>
     obtain ⟨_,_,hs,e⟩:=tQ;have e:0+n=a₀.size:=e;rw [e] at hs;exact hs
end
end Tim
set_option Elab.async false
set_option linter.all false
set_option maxRecDepth 100000
set_option maxHeartbeats 4000000
namespace Tim
open PySem PyProof.Rows
section
variable {prog:Program} {w:World} {A:Around} {E:Value->Shared->Prop} {s:Shared} {κ:SortKind} {rk:Value->Nat}
theorem Qc {vs:List Value} {xs:Array Keyed} (hp:xs.Perm (pairsOf vs)) (hs:Seg rk xs 0 (pairsOf vs).size):(xs.map (·.2)).toList.Perm vs/\(xs.map (·.2)).toList.Pairwise (fun x y=>rk x<=rk y):=by
 have hl:xs.toList.Perm (vs.zip vs):=by rw [←pairsOf_toList];exact Array.perm_iff_toList_perm.mp hp
 have hmem:∀p,p∈xs.toList->p.1=p.2:=fun p hp'=>(mem_zip_self (hl.mem_iff.mp hp')).1
 have e:(xs.map (·.2)).toList=xs.toList.map (·.1):=by
  rw [Array.toList_map];exact List.map_congr_left fun p hp'=>(hmem p hp').symm
 rw [e];constructor
 ·have:=hl.map Prod.fst
  rwa [List.map_fst_zip (Nat.le_refl _)] at this
 ·rw [List.pairwise_map,List.pairwise_iff_getElem]
  intro i j hi hj hij;rw [Array.length_toList] at hi hj;have:=hs i j (Nat.zero_le _) (Nat.le_of_lt hij) (by rw [←hp.size_eq];exact hj);rw [fZ hi,fZ hj] at this;simpa using this
theorem uQ {a:Addr} {vs:List Value} {n:Nat} {P:PySem.Fin->Shared->Prop} (ho:s.heap.get? a=some (seqObj "list" vs.toArray n)) (hz:vs.length<=sizeLine)
 (hk:2<=vs.length -> ∀h':Heap,(∀b o,b≠a->s.heap.get? b=some o->h'.get? b=some o)->(∀(Q:SortKind->Shared->Prop) (E:Value->Shared->Prop),Q κ {s with heap:=h'}->wpAny (model prog w) A (keyKind' vs.toArray) Q E {s with heap:=h'})/\Cz prog w A {s with heap:=h'} κ (pairsOf vs) rk)
 (h:∀out:List Value,out.Perm vs->out.Pairwise (fun x y=>rk x<=rk y)->P (.done (.ret .none)) {s with heap:=sortedHeap s.heap a vs out.toArray}):
 wpAny (model prog w) A (Builtin.«list.sort» ⟨[.ref a],[]⟩) P E s:=by
 rw [list_sort_plain];have ha:a<s.heap.objs.size:=Heap.lt_size ho;refine wpAny_bind (listItems_at ho rfl ?_);refine wpAny_bind (listUpdate_at ho rfl ?_ (by rw [List.size_toArray];exact hz) (Nat.zero_le _));obtain ⟨e1,ho1⟩:∃e1,(s.heap.update a (Obj.mapSeq fun _=> #[])).get? a=some (seqObj "list" #[] e1):=⟨_,get?_update_seq ho (fun _=> #[])⟩;refine wpAny_bind (seqEpoch_at ho1 rfl ?_);refine wpAny_bind (wpAny_newTuple ?_ (by show vs.length<=_;exact hz));refine wpAny_bind (wpAny_newList ?_ (Nat.zero_le _));refine wpAny_holding ?_
 have keep:∀b o,b≠a->s.heap.get? b=some o->(((s.heap.update a (Obj.mapSeq fun _=> #[])).push (seqObj "tuple" vs.toArray 0)).push (seqObj "list" #[] 0)).get? b=some o:=fun b o nb e=>by
  refine Heap.get?_push_of_some _ (Heap.get?_push_of_some _ ?_);rw [Heap.get?_update_ne _ _ _ _ nb];exact e
 have ho6:(((s.heap.update a (Obj.mapSeq fun _=> #[])).push (seqObj "tuple" vs.toArray 0)).push (seqObj "list" #[] 0)).get? a=some (seqObj "list" #[] e1):=Heap.get?_push_of_some _ (Heap.get?_push_of_some _ ho1);show wpAny (model prog w) A _ P E {s with heap:=((s.heap.update a (Obj.mapSeq fun _=> #[])).push (seqObj "tuple" vs.toArray 0)).push (seqObj "list" #[] 0)};dsimp only;have hsz:vs.toArray.size=vs.length:=by simp
 have fin:∀st':SortSt,(arrOf st').Perm (pairsOf vs)->Seg rk (arrOf st') 0 (pairsOf vs).size ->
  P (.done (.ret .none)) {s with heap:=sortedHeap s.heap a vs ((arrOf st').map (·.2))}:=by
  intro st' hp hs;obtain ⟨h1,h2⟩:=Qc hp hs;have:=h _ h1 h2;rwa [Array.toArray_toList] at this
 by_cases h2:vs.toArray.size<2
 ·rw [if_pos h2,if_pos h2]
  refine wpAny_bind (wpAny_pure ?_);rw [StateT.run_pure];refine wpAny_bind (wpAny_pure ?_);dsimp only;refine wpAny_bind (seqEpoch_at ho6 rfl ?_);refine wpAny_bind (listUpdate_at ho6 rfl ?_ (Nat.zero_le _) (by rw [Array.size_map];show (pairsOf vs).size<=_;rw [pairsOf_size];omega));simp only [bne_self_eq_false,Bool.false_eq_true,if_false];refine wpAny_pure (fin (SortSt.mk' general' (vs.toArray.zip vs.toArray) #[] 7 none) (Array.Perm.refl _) ?_);intro i j _ hij hj;have:i=j:=by rw [pairsOf_size] at hj;omega
  subst this;exact Nat.le_refl _
 ·rw [if_neg h2,if_neg h2]
  obtain ⟨kk,kc⟩:=hk (by omega) _ keep;refine wpAny_bind (kk _ _ ?_)
  refine wpAny_bind (wpAny_mono (wpS_sortRuns (a₀:=pairsOf vs) (rk:=rk) (st:=SortSt.mk' κ (vs.toArray.zip vs.toArray) #[] 7 none)
   (Q:=fun _ st'=>(arrOf st').Perm (pairsOf vs)/\failedOf st'=none/\Seg rk (arrOf st') 0 (pairsOf vs).size)
   kc ⟨Array.Perm.refl _,rfl,rfl,rfl⟩ (by rw [pairsOf_size];omega) fun st' a1 a2 a3=>⟨a1,a2,a3⟩) ?_ fun _ _ e=>e)
  rintro ⟨⟨⟩,st'⟩ s' ⟨rfl,hp,hf,hs⟩;dsimp only;refine wpAny_bind (seqEpoch_at ho6 rfl ?_);refine wpAny_bind (listUpdate_at ho6 rfl ?_ (Nat.zero_le _) (Nat.le_trans (Nat.le_of_eq ((Array.size_map ..).trans (hp.size_eq.trans (pairsOf_size _)))) (Nat.le_succ_of_le hz)));rw [hf];simp only [bne_self_eq_false,Bool.false_eq_true,if_false];exact wpAny_pure (fin st' hp hs)
theorem Am {l:Addr} {vs:List Value} {Q:Value->Shared->Prop} (hl:s.heap.IsList l vs.toArray) (hz:vs.length<=sizeLine)
 (hk:2<=vs.length -> ∀h':Heap,(∀b o,s.heap.get? b=some o->h'.get? b=some o)->(∀(Q:SortKind->Shared->Prop) (E:Value->Shared->Prop),Q κ {s with heap:=h'}->wpAny (model prog w) A.in1.in1 (keyKind' vs.toArray) Q E {s with heap:=h'})/\Cz prog w A.in1.in1 {s with heap:=h'} κ (pairsOf vs) rk)
 (h:∀(h':Heap) (D:Addr) (c:Nat) (out:List Value),(∀b o,s.heap.get? b=some o->h'.get? b=some o)->s.heap.objs.size<=D->h'.get? D=some (seqObj "list" out.toArray c)->out.Perm vs->out.Pairwise (fun x y=>rk x<=rk y)->Q (.ref D) {s with heap:=h'}):
 wpAny (model prog w) A (call (.builtin "sorted") [.ref l]) Q E s:=by
 refine Calls.call_function_entry kind_sorted plain_sorted entry_sorted (args_sorted1 _) ?_;unfold Builtin.«sorted»;refine wpAny_bind (m:=checkCount "sorted" 1 1 _) (wpAny_pure ?_);refine wpAny_bind (collect_list hl ?_ hz);refine wpAny_bind (wpAny_newList ?_ hz)
 have hsz:((s.heap.push (seqObj "list" #[] 0)).update s.heap.objs.size (Obj.mapSeq (· ++ vs.toArray))).objs.size=s.heap.objs.size+1:=by
  rw [Heap.size_update,size_push']
 have hoL:(((s.heap.push (seqObj "list" #[] 0)).update s.heap.objs.size (Obj.mapSeq (· ++ vs.toArray))).push (seqObj "list" vs.toArray 0)).get? (s.heap.objs.size+1)=some (seqObj "list" vs.toArray 0):=by
  rw [←hsz];exact Heap.get?_push_size _ rfl
 have keep:∀b o,s.heap.get? b=some o->(((s.heap.push (seqObj "list" #[] 0)).update s.heap.objs.size (Obj.mapSeq (· ++ vs.toArray))).push (seqObj "list" vs.toArray 0)).get? b=some o:=fun b o q=>by
  have hlt:b<s.heap.objs.size:=Heap.lt_size q;rw [Heap.get?_push_ne _ _ _ (by rw [hsz];exact Nat.ne_of_lt (Nat.lt_succ_of_lt hlt)),Heap.get?_update_ne _ _ _ _ (Nat.ne_of_lt hlt),Heap.get?_push_ne _ _ _ (Nat.ne_of_lt hlt)];exact q
 show wpAny _ _ _ _ _ {s with heap:=((s.heap.push (seqObj "list" #[] 0)).update s.heap.objs.size (Obj.mapSeq (· ++ vs.toArray))).push (seqObj "list" vs.toArray 0)};rw [hsz];generalize ((s.heap.push (seqObj "list" #[] 0)).update s.heap.objs.size (Obj.mapSeq (· ++ vs.toArray))).push (seqObj "list" vs.toArray 0)=h1 at keep hoL ⊢;have nD:∀b o,s.heap.get? b=some o->b≠s.heap.objs.size+1:=fun b o e=>Nat.ne_of_lt (Nat.lt_succ_of_lt (Heap.lt_size e));refine wpAny_bind (wpAny_holding (wpAny_call_entry slot_list_sort ⟨_,hoL,rfl⟩ entry_list_sort (uQ (s:={s with heap:=h1}) hoL hz (fun h2 h' kp=>hk h2 h' fun b o e=>kp b o (nD b o e) (keep b o e)) fun out p1 p2=>⟨_,rfl, ?_⟩) (args_list_sort _)));refine wpAny_pure ⟨_,rfl, ?_⟩;obtain ⟨e1,ho1⟩:∃e1,(h1.update (s.heap.objs.size+1) (Obj.mapSeq fun _=> #[])).get? (s.heap.objs.size+1)=some (seqObj "list" #[] e1):=⟨_,get?_update_seq hoL (fun _=> #[])⟩;have ho2:(((h1.update (s.heap.objs.size+1) (Obj.mapSeq fun _=> #[])).push (seqObj "tuple" vs.toArray 0)).push (seqObj "list" #[] 0)).get? (s.heap.objs.size+1)=some (seqObj "list" #[] e1):=Heap.get?_push_of_some _ (Heap.get?_push_of_some _ ho1);refine h (sortedHeap h1 (s.heap.objs.size+1) vs out.toArray) _ _ out (fun b o e=> ?_) (Nat.le_succ _) (by unfold sortedHeap;exact get?_update_seq ho2 (fun _=>out.toArray)) p1 p2;unfold sortedHeap;rw [Heap.get?_update_ne _ _ _ _ (nD b o e)];refine Heap.get?_push_of_some _ (Heap.get?_push_of_some _ ?_);rw [Heap.get?_update_ne _ _ _ _ (nD b o e)];exact keep b o e
end
section
theorem vG {α:Type} {p q:α->Bool} {u:α}:∀{l:List α},u∈l->q u=true->p u=false->(∀x,p x=true->q x=true)->l.countP p<l.countP q
 | [],hm,_,_,_=>by simp at hm
 | x::l,hm,hq,hp,hi=>by
   have mono:l.countP p<=l.countP q:=List.countP_mono_left fun x _=>hi x;rw [List.countP_cons,List.countP_cons];rcases List.mem_cons.mp hm with rfl|hm
   ·rw [hq,hp];simp;omega
   ·have:=vG hm hq hp hi
    cases e:p x with
    | true=>rw [hi x e];simp;omega
    | false=>simp;omega
def kI {α:Type} (L:α->α->Bool) (vs:List α) (v:α):Nat:=vs.countP fun u=>L u v
structure Swo {α:Type} (L:α->α->Bool):Prop where
 irr:∀a,L a a=false
 tr:∀a b c,L a b=true->L b c=true->L a c=true
 ntr:∀a b c,L a b=false->L b c=false->L a c=false
theorem Dh {α:Type} {L:α->α->Bool} (S:Swo L) {vs:List α} {u v:α} (hu:u∈vs):decide (kI L vs u<kI L vs v)=L u v:=by
 cases e:L u v with
 | true=>exact decide_eq_true (vG hu e (S.irr u) fun x hx=>S.tr x u v hx e)
 | false=>
   refine decide_eq_false fun z=> ?_
   have:kI L vs v<=kI L vs u:=List.countP_mono_left fun x _ hx=>by
    cases e':L x u with
    | true=>rfl
    | false=>rw [S.ntr x u v e' e] at hx;cases hx
   omega
theorem K4 {α:Type} {L:α->α->Bool} (S:Swo L) {vs:List α} {u v:α} (hv:v∈vs) (h:kI L vs u<=kI L vs v):L v u=false:=by
 have:=Dh S (u:=v) (v:=u) hv;rw [←this];exact decide_eq_false (by omega)
def gP:List Int->List Int->Bool
 | _,[]=>false
 | [],_::_=>true
 | a::as,b::bs=>if a=b then gP as bs else decide (a<b)
theorem yS (a:List Int):gP a []=false:=by cases a<;>rfl
theorem yU:∀a,gP a a=false
 | []=>rfl
 | a::as=>by unfold gP;rw [if_pos rfl];exact yU as
theorem Dw:∀a b c,gP a b=true->gP b c=true->gP a c=true
 | a,[],_,h,_=>by rw [yS] at h;cases h
 | [],_::_,[],_,h=>by cases h
 | [],_::_,_::_,_,_=>rfl
 | _::_,_::_,[],_,h=>by cases h
 | a::as,b::bs,c::cs,h1,h2=>by
   unfold gP at h1 h2 ⊢
   by_cases e1:a=b
   ·rw [if_pos e1] at h1
    by_cases e2:b=c
    ·rw [if_pos e2] at h2
     rw [if_pos (e1.trans e2)];exact Dw as bs cs h1 h2
    ·rw [if_neg e2] at h2
     rw [if_neg (e1▸e2),e1];exact h2
   ·rw [if_neg e1] at h1
    have h1:=of_decide_eq_true h1
    by_cases e2:b=c
    ·rw [←e2,if_neg e1];exact decide_eq_true h1
    ·rw [if_neg e2] at h2
     have h2:=of_decide_eq_true h2;rw [if_neg (by omega)];exact decide_eq_true (by omega)
theorem yR:∀a b c,gP a b=false->gP b c=false->gP a c=false
 | a,_,[],_,_=>yS a
 | [],[],_::_,_,h=>by cases h
 | [],_::_,_::_,h,_=>by cases h
 | _::_,[],_::_,_,h=>by cases h
 | a::as,b::bs,c::cs,h1,h2=>by
   unfold gP at h1 h2 ⊢
   by_cases e1:a=b
   ·rw [if_pos e1] at h1
    by_cases e2:b=c
    ·rw [if_pos e2] at h2
     rw [if_pos (e1.trans e2)];exact yR as bs cs h1 h2
    ·rw [if_neg e2] at h2
     rw [if_neg (e1▸e2),e1];exact h2
   ·rw [if_neg e1] at h1
    have h1:=of_decide_eq_false h1
    by_cases e2:b=c
    ·rw [←e2,if_neg e1];exact decide_eq_false h1
    ·rw [if_neg e2] at h2
     have h2:=of_decide_eq_false h2;rw [if_neg (by omega)];exact decide_eq_false (by omega)
theorem yQ:∀a b,gP a b=false->gP b a=false->a=b
 | [],[],_,_=>rfl
 | [],_::_,h,_=>by cases h
 | _::_,[],_,h=>by cases h
 | a::as,b::bs,h1,h2=>by
   unfold gP at h1 h2
   by_cases e:a=b
   ·rw [if_pos e] at h1
    rw [if_pos e.symm] at h2;rw [e,yQ as bs h1 h2]
   ·rw [if_neg e] at h1
    rw [if_neg (Ne.symm e)] at h2;have h1:=of_decide_eq_false h1;have h2:=of_decide_eq_false h2;omega
theorem CV {α:Type} (key:α->List Int):Swo fun a b=>gP (key a) (key b):=⟨fun a=>yU _,fun a b c=>Dw _ _ _,fun a b c=>yR _ _ _⟩
end
end Tim
set_option Elab.async false
set_option linter.all false
set_option maxRecDepth 100000
set_option maxHeartbeats 4000000
namespace L2
open PySem PySem.Spec PyProof.Rows PySem.W
section
variable {X:Cx}
def keyOf (h:Heap):Value->List Int
 | .int n _=>[n]
 | .ref a=>match h.get? a with
   | some o=>match o.data with
     | .seq xs _=>xs.toList.map numOf
     | _=>[]
   | none=>[]
 | _=>[]
theorem Dv {prog:Program} {w:World} {A:Around} {s:Shared} {Q:Bool->Shared->Prop}:∀(xs ys:List Value) (ns ms:List Int) (i:Nat),IntsAre xs ns->IntsAre ys ms -> ∀(fin:Bool),(ns.length=ms.length->fin=false)->ns.length=ms.length->Q (Tim.gP ns ms) s->KatLex prog w A true fin Q (xs.zip ys) i s
 | _,_,[],[],i,.nil,.nil,fin,hf,_,h=>by
   show Q fin s;rw [hf rfl];exact h
 | _,_,_::_,[],_,_,_,_,_,hl,_=>by cases hl
 | _,_,[],_::_,_,_,_,_,_,hl,_=>by cases hl
 | _,_,n::ns,m::ms,i,.cons _ t hx,.cons _ u hy,fin,hf,hl,h=>by
   rw [List.zip_cons_cons];refine kat_cons (wpAny_eqBool_int ?_);have hl':ns.length=ms.length:=by simpa using hl
   by_cases e:n=m
   ·subst e
    rw [show (n==n)=true by simp];refine kat_yes (Dv _ _ ns ms (i+1) hx hy fin (fun z=>hf (by simpa using z)) hl' ?_);unfold Tim.gP at h;rwa [if_pos rfl] at h
   ·rw [show (n==m)=false by simpa using e]
    unfold Tim.gP at h;rw [if_neg e] at h;refine kat_no ?_;cases (true&&i==0) with
    | true=>exact oneLt_int h
    | false=>exact kat_one _ _ (lt_int (show W.BoolBack Q (.bool (decide (n<m))) s from h))
theorem lW {h:Heap} {a:Addr} {its:List Value} {ns:List Int} (ht:IsTup h a its.toArray) (hi:IntsAre its ns):keyOf h (.ref a)=ns:=by
 obtain ⟨o,e,_,n,d⟩:=ht
 show (match h.get? a with
  | some o=>match o.data with
    | .seq xs _=>xs.toList.map numOf
    | _=>[]
  | none=>[])=ns
 rw [e];dsimp only;rw [d];dsimp only;exact hi.nums
def Eh (h:Heap) (k:Nat) (vs:List Value):Prop:=∀v∈vs,∃a its ns,v = .ref a/\IsTup h a its.toArray/\IntsAre its ns/\ns.length=k
theorem G7 {prog:Program} {w:World} {A:Around} {s:Shared} {vs:List Value} {k:Nat} {h0:Heap} (T:Eh h0 k vs) (kp:∀b o,h0.get? b=some o->s.heap.get? b=some o):
 Tim.Cz prog w A s (tuples' true) (pairsOf vs) (Tim.kI (fun a b=>Tim.gP (keyOf h0 a) (keyOf h0 b)) vs):=by
 refine ⟨fun p hp q hq E Q h=> ?_⟩;rw [pairsOf_toList] at hp hq;obtain ⟨_,mp⟩:=mem_zip_self hp;obtain ⟨_,mq⟩:=mem_zip_self hq;rw [Tim.Dh (Tim.CV (keyOf h0)) mp] at h;obtain ⟨a,its,ns,ep,ta,ia,la⟩:=T _ mp;obtain ⟨b,jts,ms,eq,tb,ib,lb⟩:=T _ mq;rw [ep,eq] at h ⊢;rw [lW ta ia,lW tb ib] at h;obtain ⟨oa,ea,ca,n1,da⟩:=ta;obtain ⟨ob,eb,cb,n2,db⟩:=tb;have l1:its.length=ns.length:=ia.length;have l2:jts.length=ms.length:=ib.length;refine kat_lt (kp _ _ ea) da (kp _ _ eb) db ?_;have e1:its.toArray.toList=its:=by simp
 have e2:jts.toArray.toList=jts:=by simp
 rw [e1,e2];exact Dv its jts ns ms 0 ia ib _ (fun z=>decide_eq_false (by rw [List.size_toArray,List.size_toArray];omega)) (by omega) h
theorem qu {h0 h1:Heap} {k:Nat} (hk:1<=k) (kp:∀b o,h0.get? b=some o->h1.get? b=some o):∀{vs:List Value},Eh h0 k vs -> ∃fs,KatTups h1 vs fs/\fs.length=vs.length /\ ∀f∈fs,∃n t,f=Value.int n t
 | [],_=>⟨[],trivial,rfl,fun _ z=>absurd z (by simp)⟩
 | v::vs,T=>by
   obtain ⟨fs,t1,t2,t3⟩:=qu hk kp (vs:=vs) fun u hu=>T u (List.mem_cons_of_mem _ hu);obtain ⟨a,its,ns,rfl,⟨o,e,c,n,d⟩,ia,la⟩:=T v (List.mem_cons_self ..)
   match its,ns,ia,la,d with
   | _,_,.nil,la,d=>simp at la;omega
   | _,_,.cons m t r,la,d=>
     refine ⟨_::fs,KatTups.cons (kp _ _ e) c d rfl t1,by simp [t2],fun f hf=> ?_⟩;rcases List.mem_cons.mp hf with rfl|hf
     ·exact ⟨_,_,rfl⟩
     ·exact t3 f hf
theorem Ep {prog:Program} {w:World} {A:Around} {s:Shared} {vs:List Value} {k:Nat} {h0:Heap} {Q:SortKind->Shared->Prop} {E:Value->Shared->Prop} (hk:1<=k) (T:Eh h0 k vs) (hv:2<=vs.length) (kp:∀b o,h0.get? b=some o->s.heap.get? b=some o)
 (h:Q (tuples' true) s):wpAny (model prog w) A (keyKind' vs.toArray) Q E s:=by
 obtain ⟨fs,t1,t2,t3⟩:=qu hk kp T;refine kat_kind (T:= .type "int") t1 (by omega) (fun v hv=> ?_) rfl h;obtain ⟨n,t,rfl⟩:=t3 v hv;exact .now
theorem El {ys:List V} {us out:List Value} (r:Vals ys us) (p:out.Perm us):∃zs,Vals zs out/\zs.Perm ys:=by
 induction p generalizing ys with
 | nil=>cases r;exact ⟨[],.nil,.refl _⟩
 | cons x p ih=>
   cases r with
   | cons rx rt=>
     obtain ⟨zs,z1,z2⟩:=ih rt;exact ⟨_::zs,.cons rx z1,.cons _ z2⟩
 | swap x y l=>
   cases r with
   | cons rx rt=>
     cases rt with
     | cons ry rl=>exact ⟨_,.cons ry (.cons rx rl),.swap _ _ _⟩
 | trans p q ih1 ih2=>
   obtain ⟨zs,z1,z2⟩:=ih2 r;obtain ⟨ws,w1,w2⟩:=ih1 z1;exact ⟨ws,w1,w2.trans z2⟩
theorem vq:∀{ns:List Int} {vs:List Value},Vals (ns.map V.int) vs->IntsAre vs ns
 | [],_,.nil=> .nil
 | n::ns,_,.cons ⟨t,e⟩ r=>by subst e;exact .cons n t (vq r)
theorem u9 {R:Value->Value->Prop} {S:V->V->Prop} (hRS:∀x y u v,RelV x u->RelV y v->R u v->S x y):∀{zs:List V} {out:List Value},Vals zs out->out.Pairwise R->zs.Pairwise S
 | _,_,.nil,_=> .nil
 | _,_,.cons rx rt,p=>by
   rw [List.pairwise_cons] at p;refine .cons (fun y hy=> ?_) (u9 hRS rt p.2);obtain ⟨i,hi,e⟩:=List.getElem_of_mem hy;obtain ⟨v,hv,ry⟩:=Vals.get rt (i:=i) (x:=y) (by rw [List.getElem?_eq_getElem hi,e]);exact hRS _ _ _ _ rx ry (p.1 v (List.mem_of_getElem? hv))
def acu (K:PySem.W.Frag) (H:Hp) (k:Nat) (f:V->List Int) (x:V):Prop:=∃a,x = .ref a/\dZ K H a ((f x).map V.int)/\(f x).length=k
def Ax (K:PySem.W.Frag):List V->Hp->VK->Prop:=fun xs H Q=>∃(p:Addr) (ys:List V) (k:Nat) (f:V->List Int),xs=[.ref p]/\bf K H p ys/\1<=k/\(∀y∈ys,acu K H k f y) /\
 ∀l zs,H l=none->zs.Perm ys->zs.Pairwise (fun x y=>Tim.gP (f y) (f x)=false)->Q (.ref l) (upd H l (.lst zs))
theorem Ce:gq X (.builtin "sorted") (Ax X.K):=by
 intro pins s σ H xs us Q I r h;obtain ⟨p,ys,k,f,rfl,hq,hk,ht,q⟩:=h;obtain ⟨u,rfl,rx⟩:=vals1 r;cases rx;obtain ⟨its,rv,pl,hz⟩:=I.list hq;have hlen:its.length=ys.length:=by rw [←rv.length]
 have item:∀x v,x∈ys->RelV x v -> ∃a jts,v = .ref a/\IsTup s.heap a jts.toArray/\IntsAre jts (f x)/\(f x).length=k:=by
  intro x v hx rxv;obtain ⟨a,rfl,sq,hl⟩:=ht x hx;cases rxv;obtain ⟨jts,rj,tj,_⟩:=I.tuple sq;exact ⟨a,jts,rfl,tj,vq rj,hl⟩
 have T:Eh s.heap k its:=fun v hv=>by
  obtain ⟨i,hi,e⟩:=List.getElem_of_mem hv;have hy:i<ys.length:=by omega
  obtain ⟨v',hv',ry⟩:=rv.get (i:=i) (x:=ys[i]) (by rw [List.getElem?_eq_getElem hy]);rw [List.getElem?_eq_getElem hi,e] at hv';cases hv';obtain ⟨a,jts,e1,e2,e3,e4⟩:=item _ _ (List.getElem_mem hy) ry;exact ⟨a,jts,_,e1,e2,e3,e4⟩
 refine Tim.Am (κ:=tuples' true) (rk:=Tim.kI (fun a b=>Tim.gP (keyOf s.heap a) (keyOf s.heap b)) its) pl.isList (by omega)
  (fun h2 h' kp=>⟨fun Q E hQ=>Ep hk T h2 kp hQ,G7 T kp⟩) fun h' D c out kp hD hd hp hs=> ?_
 obtain ⟨zs,z1,z2⟩:=El rv hp;have hzl:zs.length<=sizeLine:=by rw [z2.length_eq];omega
 refine ⟨.ref D,_,I.laid (t':=s.toks) kp hD (show cH X.prog X.w _ h' _ (.lst zs) from ⟨hzl,out,c,z1,hd⟩),rfl,q D zs (I.hok.fresh hD) z2 ?_⟩
 have hs':out.Pairwise (fun u v=>u∈its/\v∈its/\Tim.gP (keyOf s.heap v) (keyOf s.heap u)=false):=by
  refine List.Pairwise.imp_of_mem (fun {u v} hu hv huv=> ?_) hs;have mu:=hp.mem_iff.mp hu;have mv:=hp.mem_iff.mp hv;exact ⟨mu,mv,Tim.K4 (Tim.CV (keyOf s.heap)) mv huv⟩
 have zin:∀z∈zs,z∈ys:=fun z hz=>z2.mem_iff.mp hz
 have zp:zs.Pairwise (fun x y=>x∈zs/\y∈zs):=by
  rw [List.pairwise_iff_getElem];intro i j hi hj _;exact ⟨List.getElem_mem hi,List.getElem_mem hj⟩
 have:=u9 (S:=fun x y=>x∈ys->y∈ys->Tim.gP (f y) (f x)=false) (fun x y u v rx ry huv hx hy=>by
  obtain ⟨a,jts,rfl,e2,e3,e4⟩:=item x u hx rx;obtain ⟨b,kts,rfl,g2,g3,g4⟩:=item y v hy ry;have:=huv.2.2;rwa [lW e2 e3,lW g2 g3] at this) z1 hs'
 exact List.Pairwise.imp₂ (fun {x y} (h1:x∈ys->y∈ys->Tim.gP (f y) (f x)=false) (h2:x∈zs/\y∈zs)=>h1 (zin _ h2.1) (zin _ h2.2)) this zp
theorem je {K:PySem.W.Frag} (hK:X.K=K):gq X (.builtin "sorted") (Ax K):=by subst hK;exact Ce
end
end L2
set_option Elab.async false
set_option linter.all false
set_option maxRecDepth 100000
set_option maxHeartbeats 4000000
namespace L2
open PySem PySem.Spec PyProof.Rows
section
variable {X:Cx} {k:Nat} {C:Addr} {sp:Sp}
theorem KY {pins:List (Addr×Obj)} {σ:St} {H:Hp} {s:Shared} {Q:VK} {us:List Value} {vs:List V} {f:Addr} {fd:FuncData} {ps:List Str} (G:cJ X.prog X.w X.K X.mg X.base jf k f fd ps sp) (hr:dj (k+1) X.A) (hb:Binds X.K fd ps [])
 (I:Inv X pins σ H s) (r:Vals vs us) (q:sp vs H Q E0):wpAny (model X.prog X.w) X.A.in1 (call (.ref f) us) (EP X pins σ Q) X.xe s:=by
 have hlen:us.length=ps.length:=by rw [←r.length];exact G.len _ _ _ _ q
 have hbd:=hb s us I.nj (by rw [List.append_nil];exact hlen);rw [List.append_nil] at hbd;refine wpAny_call (codeAny_mono (G.run X.A.in1 X.stack s H ⟨us,[]⟩ us vs Q E0 hr.in1 I.env0.in1 hbd r q) fun res s' hq=> ?_)
 match res,hq with
 | .error ev,hq=>exact False.elim hq
 | .ok (.ret u),hq=>exact I.after hq
def Sq (C:Addr) (sp:Sp):List V->Hp->VK->Prop:=fun xs H Q=>∃(a dx:Addr) (fs:List (Str×V)),xs=[.ref a]/\H a=some (.ins C dx fs)/\sp [.ref a] H (fun v H'=>∃n:Int,v = .int n/\0<=n/\n<2 ^ 62/\Q (.int n) H') E0
theorem Gm (M:MethAt X.prog X.w X.K X.mg X.base k C "__len__" ["self"] sp) (hr:dj (k+1) X.A):gq X (.builtin "len") (Sq C sp):=by
 intro pins s σ H xs us Q I rv h;obtain ⟨f,fd,G,hm,hb⟩:=M;obtain ⟨a,dx,fs,rfl,ea,q⟩:=h;obtain ⟨u,rfl,ru⟩:=rv.one;obtain rfl:u=Value.ref a:=ru;obtain ⟨mm,Fm⟩:=I.fr;obtain ⟨mA,O,_⟩:=lZ I.hok ea;obtain ⟨od,J,_⟩:=O.look;refine PySem.W.len_K Fm I.mod.Rt J hm.at_ hm.fn (cU (KY (us:=[.ref a]) (vs:=[.ref a]) G hr hb I (.cons rfl .nil) q) fun v s' hv=> ?_)
 obtain ⟨x,H',I',rx,n,rfl,n0,n1,q'⟩:=hv;obtain ⟨t,rfl⟩:=rx;exact ⟨⟨n0,by omega⟩,.int n,H',I'.tok _,⟨_,rfl⟩,q'⟩
end
end L2
set_option Elab.async false
set_option linter.all false
set_option maxRecDepth 100000
set_option maxHeartbeats 4000000
namespace L2
open PySem PySem.Spec PyProof.Rows
section
variable {X:Cx} {k:Nat} {C:Addr} {sp:Sp}
theorem KR {pins:List (Addr×Obj)} {σ:St} {H:Hp} {s:Shared} {Q:VK} {us:List Value} {vs:List V} {f:Addr} {fd:FuncData} {ps:List Str} (G:cJ X.prog X.w X.K X.mg X.base jf k f fd ps sp) (hr:dj (k+2) X.A) (hb:Binds X.K fd ps [])
 (I:Inv X pins σ H s) (r:Vals vs us) (q:sp vs H Q E0):wpAny (model X.prog X.w) X.A.in1.in1 (call (.ref f) us) (EP X pins σ Q) X.xe s:=by
 have hlen:us.length=ps.length:=by rw [←r.length];exact G.len _ _ _ _ q
 have hbd:=hb s us I.nj (by rw [List.append_nil];exact hlen);rw [List.append_nil] at hbd;refine wpAny_call (codeAny_mono (G.run X.A.in1.in1 X.stack s H ⟨us,[]⟩ us vs Q E0 (dj.in1 (dj.in1 hr)) I.env0.in1.in1 hbd r q) fun res s' hq=> ?_)
 match res,hq with
 | .error ev,hq=>exact False.elim hq
 | .ok (.ret u),hq=>exact I.after hq
def R_ (C:Addr) (sp:Sp):List V->Hp->VK->Prop:=fun xs H Q=>∃(a dx:Addr) (fs:List (Str×V)),xs=[.ref a]/\H a=some (.ins C dx fs)/\sp [.ref a] H (fun v H'=>∃t:Str,v = .str t/\Q (.str t) H') E0
theorem Gk (M:MethAt X.prog X.w X.K X.mg X.base k C "__str__" ["self"] sp) (hr:dj (k+2) X.A):gq X (.type "str") (R_ C sp):=by
 intro pins s σ H xs us Q I rv h;obtain ⟨f,fd,G,hm,hb⟩:=M;obtain ⟨a,dx,fs,rfl,ea,q⟩:=h;obtain ⟨u,rfl,ru⟩:=rv.one;obtain rfl:u=Value.ref a:=ru;obtain ⟨mA,O,_⟩:=lZ I.hok ea;obtain ⟨od,J,_⟩:=O.look;refine PySem.W.kso_call (dj.O7 (dj.in1 (dj.in1 hr))) I.nj J hm.at_ hm.fn (cU (KR (us:=[.ref a]) (vs:=[.ref a]) G hr hb I (.cons rfl .nil) q) fun v s' hv=> ?_)
 obtain ⟨x,H',I',rx,t,rfl,q'⟩:=hv;obtain ⟨tk,rfl⟩:=rx;exact ⟨.str t,H',I',⟨_,rfl⟩,q'⟩
end
end L2
set_option Elab.async false
set_option linter.all false
set_option maxRecDepth 100000
set_option maxHeartbeats 4000000
namespace Prf
open PySem L2
def top (i:Nat):Stmt:=PySem.Challenge.pw_fewnotes_k45_what_is_recorded_so_far.main.body.getD i (.Pass ⟨0,0,0,0⟩)
abbrev dH:Stmt:=top 5
abbrev dJ:Stmt:=top 6
abbrev bU:Stmt:=top 9
abbrev d_:Stmt:=top 10
abbrev dG:Stmt:=top 12
abbrev cN:Stmt:=top 13
abbrev dI:Stmt:=top 14
abbrev iy:Stmt:=top 15
abbrev cu:Stmt:=top 17
abbrev cX:Stmt:=top 18
abbrev cL:Stmt:=top 19
abbrev bN:Stmt:=inClass (top 21) 0
abbrev bV:Stmt:=inClass (top 21) 1
abbrev bI:Stmt:=inClass (top 21) 2
abbrev bD:Stmt:=inClass (top 21) 3
abbrev bJ:Stmt:=inClass (top 21) 4
abbrev bw:Stmt:=inClass (top 21) 7
abbrev bh:Stmt:=inClass (top 21) 8
abbrev cM:Stmt:=top 22
abbrev jM:Stmt:=top 24
abbrev iB:Stmt:=top 25
abbrev iD:Stmt:=top 26
abbrev fV:Stmt:=top 27
abbrev fQ:Stmt:=top 28
abbrev dM:Stmt:=top 29
abbrev fU:Stmt:=top 30
abbrev eU:Stmt:=top 31
abbrev iC:Stmt:=top 32
abbrev jL:Stmt:=top 33
abbrev iz:Stmt:=top 34
abbrev fW:Stmt:=top 35
abbrev oG:Stmt:=top 36
structure qL (mg:Str->Option Value):Prop where
 Nm:mg "ValueError" = none
 O1:mg "all" = none
 J3:mg "bool" = none
 OJ:mg "enumerate" = none
 OD:mg "int" = none
 cO:mg "isinstance" = none
 gn:mg "len" = none
 uw:mg "list" = none
 Oz:mg "max" = none
 ad0:mg "min" = none
 eF:mg "range" = none
 o9:mg "sorted" = none
 o8:mg "str" = none
 adZ:mg "sum" = none
 w6:mg "tuple" = none
 U_:mg "zip" = none
theorem xZ:aZ ["value"] ["value"] (aA dH):=⟨rfl,rfl,rfl,by decide +kernel,rfl,by decide +kernel,by decide +kernel⟩
theorem yd:aZ ["value","count"] ["value","count"] (aA dJ):=⟨rfl,rfl,rfl,by decide +kernel,rfl,by decide +kernel,by decide +kernel⟩
theorem qM:aZ ["one","other"] ["one","other"] (aA bU):=⟨rfl,rfl,rfl,by decide +kernel,rfl,by decide +kernel,by decide +kernel⟩
theorem Ar:aZ ["web","place","later"] ["web","place","later"] (aA d_):=⟨rfl,rfl,rfl,by decide +kernel,rfl,by decide +kernel,by decide +kernel⟩
theorem xX:aZ ["named","bare","name"] ["named","bare","name"] (aA dG):=⟨rfl,rfl,rfl,by decide +kernel,rfl,by decide +kernel,by decide +kernel⟩
theorem gJ:aZ ["web","named","knowns","place","bare","known","earlier"] ["web","named","knowns","place"] (aA cN):=⟨rfl,rfl,rfl,by decide +kernel,rfl,by decide +kernel,by decide +kernel⟩
theorem yc:aZ ["name","known"] ["name","known"] (aA dI):=⟨rfl,rfl,rfl,by decide +kernel,rfl,by decide +kernel,by decide +kernel⟩
theorem xY:aZ ["known","more","hand"] ["known","more"] (aA iy):=⟨rfl,rfl,rfl,by decide +kernel,rfl,by decide +kernel,by decide +kernel⟩
theorem kE:aZ ["record","lines"] ["record"] (aA cu):=⟨rfl,rfl,rfl,by decide +kernel,rfl,by decide +kernel,by decide +kernel⟩
theorem wg:aZ ["note"] ["note"] (aA cX):=⟨rfl,rfl,rfl,by decide +kernel,rfl,by decide +kernel,by decide +kernel⟩
theorem uN:aZ ["touch"] ["touch"] (aA cL):=⟨rfl,rfl,rfl,by decide +kernel,rfl,by decide +kernel,by decide +kernel⟩
theorem pN:aZ ["self","hands"] ["self","hands"] (aA bN):=⟨rfl,rfl,rfl,by decide +kernel,rfl,by decide +kernel,by decide +kernel⟩
theorem dN:aZ ["self","hand","kind","cell","place","name","found","brought"] ["self","hand","kind","cell"] (aA bV):=⟨rfl,rfl,rfl,by decide +kernel,rfl,by decide +kernel,by decide +kernel⟩
theorem oF:aZ ["self"] ["self"] (aA bI):=⟨rfl,rfl,rfl,by decide +kernel,rfl,by decide +kernel,by decide +kernel⟩
theorem m8:aZ ["self"] ["self"] (aA bD):=⟨rfl,rfl,rfl,by decide +kernel,rfl,by decide +kernel,by decide +kernel⟩
theorem iY:aZ ["self","hand","known"] ["self","hand"] (aA bJ):=⟨rfl,rfl,rfl,by decide +kernel,rfl,by decide +kernel,by decide +kernel⟩
theorem mJ:aZ ["self"] ["self"] (aA bw):=⟨rfl,rfl,rfl,by decide +kernel,rfl,by decide +kernel,by decide +kernel⟩
theorem mH:aZ ["self"] ["self"] (aA bh):=⟨rfl,rfl,rfl,by decide +kernel,rfl,by decide +kernel,by decide +kernel⟩
theorem uO:aZ ["places","hand"] ["places","hand"] (aA cM):=⟨rfl,rfl,rfl,by decide +kernel,rfl,by decide +kernel,by decide +kernel⟩
theorem q_:aZ ["script","total","cell"] ["script"] (aA jM):=⟨rfl,rfl,rfl,by decide +kernel,rfl,by decide +kernel,by decide +kernel⟩
theorem sH:aZ ["number","place","one","two"] ["number","place"] (aA iB):=⟨rfl,rfl,rfl,by decide +kernel,rfl,by decide +kernel,by decide +kernel⟩
theorem sJ:aZ ["bag","many","cell","found"] ["bag","many"] (aA iD):=⟨rfl,rfl,rfl,by decide +kernel,rfl,by decide +kernel,by decide +kernel⟩
theorem Ew:aZ ["bag"] ["bag"] (aA fV):=⟨rfl,rfl,rfl,by decide +kernel,rfl,by decide +kernel,by decide +kernel⟩
theorem lK:aZ ["bag","hands","cells","loads","apart","kinds","hand","kind"] ["bag","hands","cells","loads","apart"] (aA fQ):=⟨rfl,rfl,rfl,by decide +kernel,rfl,by decide +kernel,by decide +kernel⟩
theorem fG:aZ ["bag","hands","size","cells","loads","apart","many"] ["bag","hands"] (aA dM):=⟨rfl,rfl,rfl,by decide +kernel,rfl,by decide +kernel,by decide +kernel⟩
theorem bY:aZ ["touches","hands","rows","called","brought","many","hand","kind","cell","got","fresh","i","other","sort","there","meets"] ["touches","hands"] (aA fU):=⟨rfl,rfl,rfl,by decide +kernel,rfl,by decide +kernel,by decide +kernel⟩
theorem vd:aZ ["found","due"] ["found","due"] (aA eU):=⟨rfl,rfl,rfl,by decide +kernel,rfl,by decide +kernel,by decide +kernel⟩
theorem sI:aZ ["lists","found","row"] ["lists"] (aA iC):=⟨rfl,rfl,rfl,by decide +kernel,rfl,by decide +kernel,by decide +kernel⟩
theorem qZ:aZ ["touches","table","hands","done","counts","known","at"] ["touches","table","hands","done"] (aA jL):=⟨rfl,rfl,rfl,by decide +kernel,rfl,by decide +kernel,by decide +kernel⟩
theorem eO:aZ ["due","found","count","hand","k","other","m"] ["due"] (aA iz):=⟨rfl,rfl,rfl,by decide +kernel,rfl,by decide +kernel,by decide +kernel⟩
theorem lM:aZ ["recorder","due","kind","hand","held","found"] ["recorder","due","kind","hand","held"] (aA fW):=⟨rfl,rfl,rfl,by decide +kernel,rfl,by decide +kernel,by decide +kernel⟩
theorem cZ:aZ ["script","bag","hands","touches","table","recorder","held","done","due","turn","one","hand","keep","kind","cell","kinds","together"] ["script"] (aA oG):=⟨rfl,rfl,rfl,by decide +kernel,rfl,by decide +kernel,by decide +kernel⟩
structure cR (K:PySem.W.Frag) (C:Addr):Prop where
 cls:Cls K C
 Du:iV K C "web"
 rE:iV K C "named"
 oO:iV K C "knowns"
 rD:iV K C "taken"
 fX:iV K C "places"
section
variable {P:Program} {w:World} {K:PySem.W.Frag} {mg:Str->Option Value} {base:Heap}
def cF (H:Hp) (r b:Addr) (n:Nat):Prop:=∃(ns:List Int) (i f c t:Int),H r=some (.lst [.ref b,.int i,.int f,.int c,.int t])/\H b=some (.lst (ns.map V.int))/\b≠r/\0<=i/\i<=ns.length/\0<=f/\0<=c/\c<=n
theorem cF.keep {H H':Hp} {r b:Addr} {n:Nat} (h:cF H r b n) (k:Same H H'):cF H' r b n:=by
 obtain ⟨ns,i,f,c,t,e1,e2,q⟩:=h;exact ⟨ns,i,f,c,t,k _ _ e1,k _ _ e2,q⟩
theorem cF.kp {H H':Hp} {r b p:Addr} {n:Nat} (h:cF H r b n) (k:Kp p H H') (n1:r≠p) (n2:b≠p):cF H' r b n:=by
 obtain ⟨ns,i,f,c,t,e1,e2,q⟩:=h;exact ⟨ns,i,f,c,t,k _ _ e1 n1,k _ _ e2 n2,q⟩
theorem cF.mono {H:Hp} {r b:Addr} {n m:Nat} (h:cF H r b n) (k:n<=m):cF H r b m:=by
 obtain ⟨ns,i,f,c,t,e1,e2,q0,q1,q2,q3,q4,q5⟩:=h;exact ⟨ns,i,f,c,t,e1,e2,q0,q1,q2,q3,q4,by (clear q4 q3 q2 q1 q0 e2 e1;omega)⟩
theorem cF.lst {H:Hp} {r b:Addr} {n:Nat} (h:cF H r b n):∃ys,H r=some (.lst ys):=by
 obtain ⟨ns,i,f,c,t,e1,_⟩:=h;exact ⟨_,e1⟩
theorem cF.ne {H:Hp} {r b p:Addr} {n:Nat} (h:cF H r b n) (hp:H p=none):p≠r/\p≠b:=by
 obtain ⟨ns,i,f,c,t,e1,e2,_⟩:=h;exact ⟨(au e1 hp).symm,(au e2 hp).symm⟩
theorem Kp.new {H H':Hp} {r p:Addr} (k:Kp r H H') (hp:H' p=none) (hr:∃o,H' r=some o):H p=none:=by
 cases e:H p with
 | none=>rfl
 | some o=>
   by_cases n:p=r
   ·subst n
    obtain ⟨o',ho⟩:=hr;rw [hp] at ho;cases ho
   ·rw [k _ _ e n] at hp
    cases hp
theorem cF.at {H:Hp} {r b:Addr} {n:Nat} (h:cF H r b n):∃o,H r=some o:=by
 obtain ⟨ns,i,f,c,t,e1,_⟩:=h;exact ⟨_,e1⟩
theorem cF.tups {H H':Hp} {r b:Addr} {n:Nat} (h:cF H r b n) (k:Kp r H H'):∀a xs,H a=some (HO.tup xs)->H' a=some (HO.tup xs):=by
 obtain ⟨ys,e⟩:=h.lst;exact k.tups e
def Ag (K:PySem.W.Frag):Sp:=fun vs H Q _=>∃(x p:Int),vs=[.int x,.int p]/\0<=p/\p<2 ^ 62 /\ ∀z:Int,0<=z->Q (.int z) H
theorem LQ {f:Addr} {fd:FuncData} (F:j4 K "_law_stir" "_law_stir" iB f fd):cJ P w K mg base jf 1 f fd ["number","place"] (Ag K):=by
 refine F.ok sH (fun vs H Q E h=> ?_) (fun cdv A outer s H vs Q E hr h=> ?_)
 ·obtain ⟨x,p,rfl,_⟩:=h
  rfl
 ·obtain ⟨x,p,rfl,p0,p1,k⟩:=h
  refine ⟨_,(aC (aR (i:=2) sH.nd rfl (Or.inl rfl) (aY ji (aY fB (aY fB (aY kW (pv 0) aD) (aY kW (pv 1) aD)) aD) aD))
   (aC (aR (i:=3) sH.nd rfl (Or.inl rfl) (aY ji (aY kW (pv 2) (pv 2)) aD))
   (aG (aX (aY rA (aY ji (aY fB (aY fB (aY kW (pv 3) aD) (aY kW (aY kW (pv 1) (pv 1)) aD)) (aY rA (pv 2) aD)) aD) aD))))), ?_⟩
  refine ⟨_,rfl,_,_,rfl,rfl,.inr ⟨by decide,by decide⟩,_,rfl,_,_,rfl,rfl,.inr ⟨by decide,by decide⟩,_,_,rfl,rfl,_,_,rfl,rfl,_,_,rfl,rfl,(by show (0:Int)<2305843009213693951;decide), ?_⟩;have o0:(0:Int)<=(x*998244353+p*1000000007+5) % 2305843009213693951:=Int.emod_nonneg _ (by decide);have o1:(x*998244353+p*1000000007+5) % 2305843009213693951<2305843009213693951:=Int.emod_lt_of_pos _ (by decide);generalize (x*998244353+p*1000000007+5) % 2305843009213693951=one at o0 o1;refine ⟨_,rfl,_,rfl,_,_,rfl,rfl,.inl ⟨by (clear o1 o0 p1 p0;omega),by (clear o1 o0 p1 p0;omega)⟩,_,_,rfl,rfl,(by show (0:Int)<2305843009213693951;decide), ?_⟩;refine ⟨_,rfl,_,_,rfl,rfl,.inr ⟨by decide,by decide⟩,_,rfl,_,rfl,_,_,rfl,rfl,.inl ⟨by (clear o1 o0 p1;omega),by (clear o1 o0 p0;omega)⟩,_,_,rfl,rfl,.inr ⟨by decide,by decide⟩,_,_,rfl,rfl,_,rfl,_,_,rfl,rfl,(by show Kh _ 3;exact ⟨by decide,by decide⟩),_,_,rfl,rfl,_,_,rfl,rfl,(by show (0:Int)<2305843009213693921;decide),_,_,rfl,rfl,(by show Kh _ 1024;exact ⟨by decide,by decide⟩), ?_⟩;exact k _ (Int.ediv_nonneg (Int.emod_nonneg _ (by decide)) (by decide))
def pJ (K:PySem.W.Frag):Sp:=fun vs H Q _=>∃(r b:Addr) (m:Int) (n:Nat),vs=[.ref r,.int m]/\cF H r b n/\n<1099511627776/\0<m/\m<1329227995784915872903807060280344576 /\ ∀(z:Int) (H':Hp),0<=z->z<m->cF H' r b (n+1)->Kp r H H'->Q (.int z) H'
theorem Mf {f:Addr} {fd:FuncData} (F:j4 K "_law_draw" "_law_draw" iD f fd) (Ej:FnAt P w K mg base 1 "_law_stir" ["number","place"] (Ag K)) (Bt:qL mg):cJ P w K mg base jf 2 f fd ["bag","many"] (pJ K):=by
 refine F.ok sJ (fun vs H Q E h=> ?_) (fun cdv A outer s H vs Q E hr h=> ?_)
 ·obtain ⟨r,b,m,n,rfl,_⟩:=h
  rfl
 ·obtain ⟨r,b,m,n,rfl,⟨ns,i,f,c,t,hR,hB,nb,i0,i1,f0,c0,c1⟩,hn,m0,m1,k⟩:=h
  have jk:=hr.units
  refine ⟨_,(aC (dF (bZ iZ (pv 1) aD (bK _)) (aG (aX aD)) bW)
   (aC (jg (aY fB (aM (aL (K:=K) rfl) (pv 0) aD (fun _ _=>rfl)) aD) (kJ (pv 0) aD set_list))
   (aC (dF (PW.pt (wz (bZ tu (aM (aL (K:=K) rfl) (pv 0) aD (fun _ _=>rfl)) aD (bK _)) (rm (bZ iZ (aM (aL (K:=K) rfl) (pv 0) aD (fun _ _=>rfl)) (aP (aV (K:=K) rfl) (by rfl) Bt.gn dU (aj (aM (aL (K:=K) rfl) (pv 0) aD (fun _ _=>rfl)) aq)) (bK _))))) (aG (aX (aY ji (bF Ej (hr.mono (by decide)) (by rfl) (aj (aM (aL (K:=K) rfl) (pv 0) aD (fun _ _=>rfl)) (aj (aM (aL (K:=K) rfl) (pv 0) aD (fun _ _=>rfl)) aq))) (pv 1)))) bW)
   (aC (dF (bZ tu (aM (aL (K:=K) rfl) (pv 0) aD (fun _ _=>rfl)) aD (bK _)) (aC (aR (i:=2) sJ.nd rfl (Or.inl rfl) (aM (aL (K:=K) rfl) (aM (aL (K:=K) rfl) (pv 0) aD (fun _ _=>rfl)) (aM (aL (K:=K) rfl) (pv 0) aD (fun _ _=>rfl)) (fun _ _=>rfl)))
   (aC (jg (aY fB (aM (aL (K:=K) rfl) (pv 0) aD (fun _ _=>rfl)) aD) (kJ (pv 0) aD set_list))
   (aC (dF (bZ tu (pv 2) (aY Ik aD aD) (bK _)) (aG (aX (aY ji (bF Ej (hr.mono (by decide)) (by rfl) (aj (aY ji (pv 2) aD) (aj (aM (aL (K:=K) rfl) (pv 0) aD (fun _ _=>rfl)) aq))) (pv 1)))) bW)
   (aG (jg (aY Bb (pv 2) (aY Ik aD aD)) (kJ (pv 0) aD set_list)))))) bW)
   (aC (aR (i:=3) sJ.nd rfl (Or.inl rfl) (aY ji (aM (aL (K:=K) rfl) (pv 0) aD (fun _ _=>rfl)) (pv 1)))
   (aC (jg (aY Im (aM (aL (K:=K) rfl) (pv 0) aD (fun _ _=>rfl)) (pv 1)) (kJ (pv 0) aD set_list))
   (aG (aX (pv 3))))))))), ?_⟩
  refine ⟨_,rfl,rfl,_,rfl, ?_⟩;refine mK (fun h0=> ?_) (fun h0=> ?_)
  ·have e:m=1:=by injection (of_decide_eq_true h0)
   subst e;exact k 0 H (by decide) (by decide) ⟨ns,i,f,c,t,hR,hB,nb,i0,i1,f0,c0,by (clear h0 m1 m0 jk hn c0 f0 i1 i0 nb hB hR;omega)⟩ (Kp.refl _ _)
  ·
   refine ⟨_,rfl,_,_,_,_,rfl,rfl,bf.of hR,rfl,_,_,rfl,rfl,_,rfl,_,_,_,_,rfl,rfl,hR,rfl, ?_⟩;have k1:Kp r H (upd H r (.lst [.ref b,.int i,.int f,.int (c+1),.int t])):=Kp.set;have m5:(upd H r (.lst [.ref b,.int i,.int f,.int (c+1),.int t])) r=some (.lst [.ref b,.int i,.int f,.int (c+1),.int t]):=ao;have jA:=k1 _ _ hB nb;have ln:(List.map V.int ns).length=ns.length:=List.length_map ..;have uJ:(0:Int)<=c+1:=by (clear ln jA m5 h0 jk m1 m0 hn c1 f0 i1 i0 nb hB hR;omega)
   have yu:c+1<2 ^ 62:=by (clear uJ ln jA m5 h0 jk m1 m0 c0 f0 i1 i0 nb hB hR;omega)
   have VL:∀z:Int,0<=z % m:=fun z=>Int.emod_nonneg _ (by (clear yu uJ ln jA m5 h0 jk m1 hn c1 c0 f0 i1 i0 nb hB hR;omega));have VJ:∀z:Int,z % m<m:=fun z=>Int.emod_lt_of_pos _ m0;refine ⟨_,rfl,_,_,_,_,rfl,rfl,bf.of m5,rfl,_,_,rfl,rfl,_,rfl, ?_⟩
   by_cases f2:f<2
   ·rw [decide_eq_true f2]
    refine iW ?_;refine ⟨_,rfl,_,_,_,_,rfl,rfl,bf.of m5,rfl,_,rfl,_,_,_,_,rfl,rfl,bf.of m5,rfl,b,_,rfl,.inl (bf.of jA),rfl,_,rfl, ?_⟩;refine mK (fun h1=> ?_) (fun h1=> ?_)
    ·refine ⟨_,rfl,_,_,_,_,rfl,rfl,bf.of m5,rfl,_,rfl,_,_,_,_,rfl,rfl,bf.of m5,rfl,t,c+1,rfl,uJ,yu,fun z z0=> ?_⟩
     refine ⟨_,rfl,_,_,rfl,rfl,m0, ?_⟩;exact k _ _ (VL z) (VJ z) ⟨ns,i,f,c+1,t,m5,jA,nb,i0,i1,f0,uJ,by (clear z0 h1 f2 yu uJ ln jA m5 h0 jk m1 m0 hn c0 f0 i1 i0 nb hB hR;omega)⟩ k1
    ·have hlt:i<ns.length:=by
      have:¬i=(ns.length:Int):=fun z=>h1 (decide_eq_true (by rw [ln,z]));omega
     obtain ⟨cell,hc,_⟩:∃cell:Int,rN (ns.map V.int) i=some (V.int cell)/\True:=by
      obtain ⟨m',rfl⟩:=Int.eq_ofNat_of_zero_le i0;have:m'<ns.length:=by (clear h1 jA m5 i1 i0 hR f2 yu uJ ln h0 jk m1 m0 hn c1 c0 f0 nb hB;omega)
      exact ⟨ns[m'],bB (by simp [this]),trivial⟩
     refine ⟨_,rfl,_,_,_,_,rfl,rfl,bf.of m5,rfl,_,_,rfl,rfl,_,rfl, ?_⟩;rw [decide_eq_true f2];refine iW ?_;refine ⟨_,rfl,_,_,_,_,rfl,rfl,bf.of m5,rfl,_,rfl,_,_,_,_,rfl,rfl,bf.of m5,rfl,_,_,_,_,rfl,rfl,bf.of jA,hc, ?_⟩;refine ⟨_,rfl,_,_,_,_,rfl,rfl,bf.of m5,rfl,_,_,rfl,rfl,_,rfl,_,_,_,_,rfl,rfl,m5,rfl, ?_⟩;have k2:Kp r (upd H r (.lst [.ref b,.int i,.int f,.int (c+1),.int t])) (upd (upd H r (.lst [.ref b,.int i,.int f,.int (c+1),.int t])) r (.lst [.ref b,.int (i+1),.int f,.int (c+1),.int t])):=Kp.set;have Jv:(upd (upd H r (.lst [.ref b,.int i,.int f,.int (c+1),.int t])) r (.lst [.ref b,.int (i+1),.int f,.int (c+1),.int t])) r=some (.lst [.ref b,.int (i+1),.int f,.int (c+1),.int t]):=ao;have hB2:=k2 _ _ jA nb;refine ⟨_,rfl,_,_,rfl,rfl,(by show Ri 10 18;exact ⟨by decide,by decide,by decide⟩),_,_,rfl,rfl,_,rfl, ?_⟩;refine mK (fun h2=> ?_) (fun h2=> ?_)
     ·refine ⟨_,rfl,_,_,rfl,rfl,(by show (0:Int)<2305843009213693951;decide),_,rfl,_,_,_,_,rfl,rfl,bf.of Jv,rfl,_,c+1,rfl,uJ,yu,fun z z0=> ?_⟩
      refine ⟨_,rfl,_,_,rfl,rfl,m0, ?_⟩;exact k _ _ (VL z) (VJ z) ⟨ns,i+1,f,c+1,t,Jv,hB2,nb,by (clear z0 h2 hB2 Jv hc hlt h1 f2 yu uJ ln jA m5 h0 jk m1 m0 hn c1 c0 f0 i1 nb hB hR;omega),by (clear z0 h2 hB2 Jv hc h1 f2 yu uJ ln jA m5 h0 jk m1 m0 hn c1 c0 f0 i1 i0 nb hB hR;omega),f0,uJ,by (clear z0 h2 hB2 Jv hc hlt h1 f2 yu uJ ln jA m5 h0 jk m1 m0 hn c0 f0 i1 i0 nb hB hR;omega)⟩ (k1.trans k2)
     ·have hbig:(0:Int)<=cell - 10 ^ ((18:Int).toNat):=by
       have h2':(1000000000000000000:Int)<=cell:=by simpa using h2
       show (0:Int)<=cell - 1000000000000000000
       (clear h2 hB2 Jv hc hlt h1 f2 yu uJ ln jA m5 h0 jk m1 m0 hn c1 c0 f0 i1 i0 nb hB hR;omega)
      refine ⟨_,rfl,_,_,rfl,rfl,(by show Ri 10 18;exact ⟨by decide,by decide,by decide⟩),_,_,rfl,rfl,_,rfl,_,_,_,_,rfl,rfl,Jv,rfl, ?_⟩;have QL:(upd (upd (upd H r (.lst [.ref b,.int i,.int f,.int (c+1),.int t])) r (.lst [.ref b,.int (i+1),.int f,.int (c+1),.int t])) r (.lst [.ref b,.int (i+1),.int (cell - 10 ^ ((18:Int).toNat)),.int (c+1),.int t])) r=some (.lst [.ref b,.int (i+1),.int (cell - 10 ^ ((18:Int).toNat)),.int (c+1),.int t]):=ao;have k3:Kp r (upd (upd H r (.lst [.ref b,.int i,.int f,.int (c+1),.int t])) r (.lst [.ref b,.int (i+1),.int f,.int (c+1),.int t])) (upd (upd (upd H r (.lst [.ref b,.int i,.int f,.int (c+1),.int t])) r (.lst [.ref b,.int (i+1),.int f,.int (c+1),.int t])) r (.lst [.ref b,.int (i+1),.int (cell - 10 ^ ((18:Int).toNat)),.int (c+1),.int t])):=Kp.set;have hB3:=k3 _ _ hB2 nb;refine ⟨_,rfl,_,_,_,_,rfl,rfl,bf.of QL,rfl,_,rfl,_,_,rfl,rfl,m0, ?_⟩;refine ⟨_,rfl,_,_,_,_,rfl,rfl,bf.of QL,rfl,_,rfl,_,_,rfl,rfl,⟨m0,m1⟩,_,rfl,_,_,_,_,rfl,rfl,QL,rfl, ?_⟩;refine ⟨_,rfl, ?_⟩;refine k _ _ (VL _) (VJ _) ⟨ns,i+1,_,c+1,t,ao, ?_,nb,by (clear hB3 QL hbig h2 hB2 Jv hc hlt h1 f2 yu uJ ln jA m5 h0 jk m1 m0 hn c1 c0 f0 i1 nb hB hR;omega),by (clear hB3 QL hbig h2 hB2 Jv hc h1 f2 yu uJ ln jA m5 h0 jk m1 m0 hn c1 c0 f0 i1 i0 nb hB hR;omega),Int.ediv_nonneg hbig (by (clear hB3 QL hbig h2 hB2 Jv hc hlt h1 f2 yu uJ ln jA m5 h0 jk m1 hn c1 c0 f0 i1 i0 nb hB hR;omega)),uJ,by (clear hB3 QL hbig h2 hB2 Jv hc hlt h1 f2 yu uJ ln jA m5 h0 jk m1 m0 hn c0 f0 i1 i0 nb hB hR;omega)⟩ (((k1.trans k2).trans k3).trans Kp.set);rw [aQ nb];exact hB3
   ·have QZ:decide (f<2)=false:=decide_eq_false f2
    rw [QZ];refine gB ?_;refine ⟨_,rfl,_,_,_,_,rfl,rfl,bf.of m5,rfl,_,_,rfl,rfl,_,rfl, ?_⟩;rw [QZ];refine gB ?_;refine ⟨_,rfl,_,_,_,_,rfl,rfl,bf.of m5,rfl,_,rfl,_,_,rfl,rfl,m0, ?_⟩;refine ⟨_,rfl,_,_,_,_,rfl,rfl,bf.of m5,rfl,_,rfl,_,_,rfl,rfl,⟨m0,m1⟩,_,rfl,_,_,_,_,rfl,rfl,m5,rfl, ?_⟩;refine ⟨_,rfl, ?_⟩;refine k _ _ (VL _) (VJ _) ⟨ns,i,_,c+1,t,ao, ?_,nb,by (clear QZ f2 yu uJ ln jA m5 h0 jk m1 m0 hn c1 c0 f0 i1 nb hB hR;omega),by (clear QZ f2 yu uJ ln jA m5 h0 jk m1 m0 hn c1 c0 f0 i0 nb hB hR;omega),Int.ediv_nonneg f0 (by (clear QZ f2 yu uJ ln jA m5 h0 jk m1 hn c1 c0 f0 i1 i0 nb hB hR;omega)),uJ,by (clear QZ f2 yu uJ ln jA m5 h0 jk m1 m0 hn c0 f0 i1 i0 nb hB hR;omega)⟩ (k1.trans Kp.set);rw [aQ nb];exact jA
def Hr (K:PySem.W.Frag):Sp:=fun vs H Q _=>∃(a:Addr) (ns:List Int),vs=[.ref a]/\bf K H a (ns.map V.int)/\ns.length<=63 /\ ∀(r b:Addr) (H':Hp),H r=none->H b=none->cF H' r b 0->Same H H'->Q (.ref r) H'
theorem Qi {f:Addr} {fd:FuncData} (F:j4 K "_law_bag" "_law_bag" jM f fd) (Bt:qL mg):cJ P w K mg base jf 1 f fd ["script"] (Hr K):=by
 refine F.ok q_ (fun vs H Q E h=> ?_) (fun cdv A outer s H vs Q E hr h=> ?_)
 ·obtain ⟨a,ns,rfl,_⟩:=h
  rfl
 ·obtain ⟨a,ns,rfl,hs,hlen,k⟩:=h
  refine ⟨_,(aC (aR (i:=1) q_.nd rfl (Or.inl rfl) aD)
   (aC (gA PassesOwn.never rfl (eV (K:=K) rfl (pv 0)) (aU (i:=2) q_.nd rfl (Or.inl rfl))
   (aG (aR (i:=1) q_.nd rfl (Or.inl rfl) (aY ji (aY fB (aY fB (aY kW (pv 1) aD) (aY ji (pv 2) aD)) aD) aD))))
   (aG (aX (bT (aj (dD (m6 (K:=K) rfl) (by rfl) Bt.uw oY (aj (pv 0) aq)) (aj aD (aj aD (aj aD (aj (pv 1) aq)))))))))), ?_⟩
  refine ⟨_,rfl,a,rfl,⟨_,hs⟩,lu (K:=K) (a:=a) (xs:=ns.map V.int) (fun i σ H2=>∃(t:Int) (v:Option V),σ=[some (.ref a),some (.int t),v]/\H2=H)
   ⟨1,none,rfl,rfl⟩ (fun i σ H2 _ ⟨_,_,_,e⟩=>by rw [e];exact hs) ?_ ?_⟩
  ·rintro i y σ H2 hi ⟨t,v,rfl,rfl⟩
   obtain ⟨z,rfl⟩:∃z,y=V.int z:=by
    rw [List.getElem?_map] at hi;cases e:ns[i]? with
    | none=>rw [e] at hi;cases hi
    | some z=>rw [e] at hi;exact ⟨z,(Option.some.inj hi).symm⟩
   refine ⟨_,rfl,_,_,rfl,rfl,.inr ⟨by decide,by decide⟩,_,rfl,_,_,rfl,rfl,(by show (0:Int)<2305843009213693951;decide),_,_,rfl,rfl,_,_,rfl,rfl,_,_,rfl,rfl,(by show (0:Int)<2305843009213693951;decide), ?_⟩;exact ⟨_,_,rfl,rfl⟩
  ·rintro σ H2 ⟨t,v,rfl,rfl⟩
   refine ⟨_,rfl,a,_,rfl,.inl hs,fun b hb=> ?_⟩;refine ⟨_,rfl,(by show 5<=sizeLine;decide),fun r hr'=> ?_⟩;have sm:=aF (o:=HO.lst (ns.map V.int)) hb;exact k r b _ (sm.free hr') hb ⟨ns,0,0,0,t,ao,aF hr' _ _ ao,au ao hr',by decide,by (clear hr' hb hlen;omega),by decide,by decide,by decide⟩ (sm.trans (aF hr'))
section
variable {D r b:Addr} {te:TE} {Q:VK} {rest:St} {H1:Hp} {n bn:Nat}
end
abbrev bC:=Int×Str×Int
def tD (x:bC):PyData:= .tuple [.int x.1,.str x.2.1,.int x.2.2]
theorem wO (x:bC):Kq (tD x)=true:=rfl
def Vb (x:bC):Prop:=(0<=x.1/\x.1<8)/\(x.2.1 = "load" \/ x.2.1 = "store" \/ x.2.1 = "swap")/\(0<=x.2.2/\x.2.2<20)
theorem D_ {H:Hp} {t:Addr} {x:bC} (h:H t=some (.tup [.int x.1,.str x.2.1,.int x.2.2])):Dat H (.ref t) (tD x):=by
 simp only [tD,Dat];exact ⟨t,_,rfl,h,by simp only [aJ,Dat,and_self]⟩
theorem zy {H:Hp} {v:V} {d:PyData} (h:Dat H v d):aJ H [v] [d]:=by
 simp only [aJ,and_true];exact h
def gU (H:Hp) (a:Addr) (ws:List bC):Prop:=∃vs,H a=some (.lst vs)/\aJ H vs (ws.map tD)
theorem gU.same {H H':Hp} {a:Addr} {ws:List bC} (h:gU H a ws) (k:Same H H'):gU H' a ws:=by
 obtain ⟨vs,e,d⟩:=h;exact ⟨vs,k _ _ e,aJ.keep k.tups _ (bH _ wO ws) d⟩
theorem gU.kp {H H':Hp} {a r:Addr} {ws:List bC} {ys:List V} (h:gU H a ws) (hr:H r=some (.lst ys)) (k:Kp r H H') (n:a≠r):gU H' a ws:=by
 obtain ⟨vs,e,d⟩:=h;exact ⟨vs,k _ _ e n,aJ.keep (k.tups hr) _ (bH _ wO ws) d⟩
theorem qH {H:Hp} {v:V} {x:bC} (h:Dat H v (tD x)):∃t,v = .ref t/\H t=some (.tup [.int x.1,.str x.2.1,.int x.2.2]):=by
 simp only [tD,Dat] at h;obtain ⟨t,vs,e,q,d⟩:=h
 match vs,d with
 | [a,b,c],d=>
   simp only [aJ,Dat,and_true] at d;obtain ⟨rfl,rfl,rfl⟩:=d;exact ⟨t,e,q⟩
 | [],d=>simp only [aJ] at d
 | [_],d=>simp only [aJ,and_false] at d
 | [_,_],d=>simp only [aJ,and_false] at d
 | _::_::_::_::_,d=>simp only [aJ,and_false] at d
theorem lG {H:Hp} {a:Addr} {ws:List bC} {i:Nat} {x:bC} (h:gU H a ws) (e:ws[i]? = some x):∃vs t,H a=some (.lst vs)/\vs[i]? = some (.ref t)/\H t=some (.tup [.int x.1,.str x.2.1,.int x.2.2]):=by
 obtain ⟨vs,ha,d⟩:=h;obtain ⟨v,ev,dv⟩:=d.getD (i:=i) (d:=tD x) (by rw [List.getElem?_map,e];rfl);obtain ⟨t,rfl,ht⟩:=qH dv;exact ⟨vs,t,ha,ev,ht⟩
def vY (K:PySem.W.Frag):Sp:=fun vs H Q _=>∃(r b:Addr) (n:Nat),vs=[.ref r]/\cF H r b n/\n<549755813888 /\ ∀(z:Int) (H':Hp),1<=z->z<=8->cF H' r b (n+2)->Kp r H H'->Q (.int z) H'
theorem Td (n:Int) (h0:0<=n) (h1:n<6):∃z:Int,rN [V.int 2,V.int 3,V.int 4,V.int 2,V.int 3,V.int 1] n=some (V.int z)/\1<=z/\z<=4:=by
 have:n=0\/n=1\/n=2\/n=3\/n=4\/n=5:=by omega
 rcases this with rfl|rfl|rfl|rfl|rfl|rfl
 ·exact ⟨2,rfl,by decide,by decide⟩
 ·exact ⟨3,rfl,by decide,by decide⟩
 ·exact ⟨4,rfl,by decide,by decide⟩
 ·exact ⟨2,rfl,by decide,by decide⟩
 ·exact ⟨3,rfl,by decide,by decide⟩
 ·exact ⟨1,rfl,by decide,by decide⟩
theorem Iz {f:Addr} {fd:FuncData} (F:j4 K "_law_hands" "_law_hands" fV f fd) (cP:FnAt P w K mg base 2 "_law_draw" ["bag","many"] (pJ K)):cJ P w K mg base jf 3 f fd ["bag"] (vY K):=by
 refine F.ok Ew (fun vs H Q E h=> ?_) (fun cdv A outer s H vs Q E hr h=> ?_)
 ·obtain ⟨r,b,n,rfl,_⟩:=h
  rfl
 ·obtain ⟨r,b,n,rfl,B0,hn,k⟩:=h
  refine ⟨_,(aC (dF (bZ iZ (bF cP (hr.mono (by decide)) (by rfl) (aj (pv 0) (aj aD aq))) aD (bK _)) (aG (aX (aY fB aD (bF cP (hr.mono (by decide)) (by rfl) (aj (pv 0) (aj aD aq)))))) bW)
   (aG (aX (aM (aL (K:=K) rfl) (bT (aj aD (aj aD (aj aD (aj aD (aj aD (aj aD aq))))))) (bF cP (hr.mono (by decide)) (by rfl) (aj (pv 0) (aj aD aq))) (fun _ _=>rfl))))), ?_⟩
  refine ⟨_,rfl,r,b,8,n,rfl,B0,by omega,by decide,by decide,fun z H1 z0 z1 B1 k1=>⟨rfl,_,rfl, ?_⟩⟩;refine mK (fun _=> ?_) (fun _=> ?_)
  ·refine ⟨_,rfl,r,b,4,_,rfl,B1,by (clear z1 z0;omega),by decide,by decide,fun y H2 y0 y1 B2 k2=>⟨_,_,rfl,rfl, ?_⟩⟩
   exact k _ H2 (by (clear y1 z1 z0 hn;omega)) (by (clear y0 z1 z0 hn;omega)) B2 (k1.trans k2)
  ·refine ⟨(by show 6<=sizeLine;decide),fun p hp=> ?_⟩
   have sp:=aF (o:=HO.lst [V.int 2,V.int 3,V.int 4,V.int 2,V.int 3,V.int 1]) hp;obtain ⟨wG,_⟩:=B1.ne hp;refine ⟨_,rfl,r,b,6,_,rfl,B1.keep sp,by (clear wG hp z1 z0;omega),by decide,by decide,fun y H2 y0 y1 B2 k2=> ?_⟩;obtain ⟨v,ev,v0,v1⟩:=Td y y0 y1;exact ⟨_,_,_,_,rfl,rfl,bf.of (k2 _ _ ao wG),ev,k v H2 v0 (by (clear v0 ev y1 y0 wG hp z1 z0 hn;omega)) B2 ((k1.trans (.of_same sp)).trans k2)⟩
theorem Nq {α:Type} {xs:List α} {n:Int} (h0:0<=n) (h1:n<xs.length):∃v,rN xs n=some v/\xs[n.toNat]? = some v:=by
 obtain ⟨m,rfl⟩:=Int.eq_ofNat_of_zero_le h0;have:m<xs.length:=by (clear h0;omega)
 exact ⟨xs[m],bB (by simp [this]),by simp [this]⟩
def Vp (k:Str):Prop:=k = "load" \/ k = "store" \/ k = "swap"
theorem Qu {H:Hp} {p1 p2 p3:Addr} (h1:H p1=some (.lst [.str "load",.str "store",.str "swap"])) (h2:H p2=some (.lst [.str "load",.str "load",.str "swap",.str "load"])) (h3:H p3=some (.lst [.str "store",.str "swap",.str "load",.str "store"])) (n:Int) (n0:0<=n) (n1:n<3):
 ∃(q:Addr) (ks:List Str),rN [V.ref p1,V.ref p2,V.ref p3] n=some (V.ref q)/\H q=some (.lst (ks.map V.str))/\3<=ks.length/\ks.length<=4/\(∀k∈ks,Vp k)/\(q=p1\/q=p2\/q=p3):=by
 have:n=0\/n=1\/n=2:=by (clear h3 h2 h1;omega)
 rcases this with rfl|rfl|rfl
 ·refine ⟨p1,["load","store","swap"],rfl,h1,by decide,by decide,fun k hk=> ?_,.inl rfl⟩
  simp only [List.mem_cons,List.not_mem_nil,or_false] at hk;exact hk
 ·refine ⟨p2,["load","load","swap","load"],rfl,h2,by decide,by decide,fun k hk=> ?_,.inr (.inl rfl)⟩
  simp only [List.mem_cons,List.not_mem_nil,or_false] at hk;rcases hk with h|h|h|h
  ·exact .inl h
  ·exact .inl h
  ·exact .inr (.inr h)
  ·exact .inl h
 ·refine ⟨p3,["store","swap","load","store"],rfl,h3,by decide,by decide,fun k hk=> ?_,.inr (.inr rfl)⟩
  simp only [List.mem_cons,List.not_mem_nil,or_false] at hk;rcases hk with h|h|h|h
  ·exact .inr (.inl h)
  ·exact .inr (.inr h)
  ·exact .inl h
  ·exact .inr (.inl h)
def lE (hn:Int) (x:bC):Prop:=(0<=x.1/\x.1<hn)/\Vp x.2.1/\(0<=x.2.2/\x.2.2<20)
def vR (K:PySem.W.Frag):Sp:=fun vs H Q _=>∃(r b:Addr) (n:Nat) (hn cl ld ap:Int),vs=[.ref r,.int hn,.int cl,.int ld,.int ap]/\cF H r b n/\n<549755813888/\1<=hn/\hn<=8/\1<=cl/\cl<=20/\0<=ld/\ld<3 /\
 ∀(t:Addr) (x:bC) (H':Hp),H t=none->H' t=some (.tup [.int x.1,.str x.2.1,.int x.2.2])->lE hn x->cF H' r b (n+3)->Kp r H H'->Q (.ref t) H'
theorem Ip {f:Addr} {fd:FuncData} (F:j4 K "_law_touch" "_law_touch" fQ f fd) (cP:FnAt P w K mg base 2 "_law_draw" ["bag","many"] (pJ K)) (Bt:qL mg):cJ P w K mg base jf 3 f fd ["bag","hands","cells","loads","apart"] (vR K):=by
 refine F.ok lK (fun vs H Q E h=> ?_) (fun cdv A outer s H vs Q E hr h=> ?_)
 ·obtain ⟨r,b,n,hn,cl,ld,ap,rfl,_⟩:=h
  rfl
 ·obtain ⟨r,b,n,hn,cl,ld,ap,rfl,B0,nn,hn0,hn1,Nh,cl1,qP,qO,k⟩:=h
  refine ⟨_,(aC (aR (i:=5) lK.nd rfl (Or.inl rfl) (aM (aL (K:=K) rfl) (bT (aj (bT (aj cC (aj cC (aj cC aq)))) (aj (bT (aj cC (aj cC (aj cC (aj cC aq))))) (aj (bT (aj cC (aj cC (aj cC (aj cC aq))))) aq)))) (pv 3) (fun _ _=>rfl)))
   (aC (aR (i:=6) lK.nd rfl (Or.inl rfl) (bF cP (hr.mono (by decide)) (by rfl) (aj (pv 0) (aj (pv 1) aq))))
   (aC (aR (i:=7) lK.nd rfl (Or.inl rfl) (aM (aL (K:=K) rfl) (pv 5) (bF cP (hr.mono (by decide)) (by rfl) (aj (pv 0) (aj (aP (aV (K:=K) rfl) (by rfl) Bt.gn dU (aj (pv 5) aq)) aq))) (fun _ _=>rfl)))
   (aG (aX (jh (aj (pv 6) (aj (pv 7) (aj (aY ji (aY fB (pv 4) (aY kW aD (bF cP (hr.mono (by decide)) (by rfl) (aj (pv 0) (aj (pv 2) aq))))) aD) aq))))))))), ?_⟩
  refine ⟨(by show 3<=sizeLine;decide),fun p1 h1=> ?_⟩;have s1:=aF (o:=HO.lst [V.str "load",V.str "store",V.str "swap"]) h1;refine ⟨(by show 4<=sizeLine;decide),fun p2 h2=> ?_⟩;have s2:=aF (o:=HO.lst [V.str "load",V.str "load",V.str "swap",V.str "load"]) h2;refine ⟨(by show 4<=sizeLine;decide),fun p3 h3=> ?_⟩;have s3:=aF (o:=HO.lst [V.str "store",V.str "swap",V.str "load",V.str "store"]) h3;refine ⟨(by show 3<=sizeLine;decide),fun p h4=> ?_⟩;have s4:=aF (o:=HO.lst [V.ref p1,V.ref p2,V.ref p3]) h4;obtain ⟨q,ks,eq,hq,Mz,Mx,kok,qq⟩:=Qu (s4 _ _ (s3 _ _ (s2 _ _ ao))) (s4 _ _ (s3 _ _ ao)) (s4 _ _ ao) ld qP qO;have KQ:=((s1.trans s2).trans s3).trans s4;have B4:=B0.keep KQ;refine ⟨_,rfl,_,_,_,_,rfl,rfl,bf.of ao,eq, ?_⟩
  have Dt:q≠r:=by
   have a1:=(B0.ne h1).1;have a2:=((B0.keep s1).ne h2).1;have a3:=((B0.keep (s1.trans s2)).ne h3).1;rcases qq with rfl|rfl|rfl<;>assumption
  generalize (upd (upd (upd (upd H p1 (HO.lst [V.str "load",V.str "store",V.str "swap"])) p2 (HO.lst [V.str "load",V.str "load",V.str "swap",V.str "load"])) p3 (HO.lst [V.str "store",V.str "swap",V.str "load",V.str "store"])) p (HO.lst [V.ref p1,V.ref p2,V.ref p3]))=H4 at KQ hq B4 ⊢;refine ⟨_,rfl,_,rfl,r,b,hn,n,rfl,B4,by (clear hq Dt qq Mx Mz eq h4 h3 h2 h1 qO qP cl1 Nh hn1 hn0;omega),by (clear hq Dt qq Mx Mz eq h4 h3 h2 h1 qO qP cl1 Nh hn1 nn;omega),by (clear hq Dt qq Mx Mz eq h4 h3 h2 h1 qO qP cl1 Nh hn0 nn;omega),fun z H5 z0 z1 B5 k5=> ?_⟩;have MN:=k5 _ _ hq Dt;refine ⟨_,rfl,_,rfl,_,rfl,q,_,rfl,.inl (bf.of MN),r,b,_,_,rfl,B5,by (clear MN z1 z0 hq Dt qq Mx Mz eq h4 h3 h2 h1 qO qP cl1 Nh hn1 hn0;omega),by rw [List.length_map];(clear MN z1 z0 hq Dt qq Mx eq h4 h3 h2 h1 qO qP cl1 Nh hn1 hn0 nn;omega),by rw [List.length_map];(clear MN z1 z0 hq Dt qq Mz eq h4 h3 h2 h1 qO qP cl1 Nh hn1 hn0 nn;omega),fun y H6 y0 y1 B6 k6=> ?_⟩;rw [List.length_map] at y1;obtain ⟨v,ev,gv⟩:=Nq (xs:=ks.map V.str) y0 (by rw [List.length_map];(clear y0 MN z1 z0 hq Dt qq Mx Mz eq h4 h3 h2 h1 qO qP cl1 Nh hn1 hn0 nn;omega));rw [List.getElem?_map] at gv;cases ek:ks[y.toNat]? with
  | none=>rw [ek] at gv;cases gv
  | some kd=>
    rw [ek] at gv;cases gv;refine ⟨_,_,_,_,rfl,rfl,bf.of (k6 _ _ MN Dt),ev, ?_⟩;refine ⟨_,rfl,_,rfl,_,rfl,_,rfl,_,rfl,r,b,_,_,rfl,B6,by (clear ev ek y1 y0 MN z1 z0 hq Dt qq Mx Mz eq h4 h3 h2 h1 qO qP cl1 Nh hn1 hn0;omega),by (clear ev ek y1 y0 MN z1 z0 hq Dt qq Mx Mz eq h4 h3 h2 h1 qO qP cl1 hn1 hn0 nn;omega),by (clear ev ek y1 y0 MN z1 z0 hq Dt qq Mx Mz eq h4 h3 h2 h1 qO qP Nh hn1 hn0 nn;omega),fun u H7 u0 u1 B7 k7=>⟨_,_,rfl,rfl,.inl ⟨by decide,by decide⟩,_,_,rfl,rfl,_,_,rfl,rfl,(by show (0:Int)<20;decide), ?_⟩⟩;refine ⟨(by show 3<=sizeLine;decide),fun t ht=> ?_⟩;have st:=aF (o:=HO.tup [V.int z,V.str kd,V.int ((ap+7*u) % 20)]) ht;have kk:Kp r H H7:=(((Kp.of_same KQ).trans k5).trans k6).trans k7;exact k t (z,kd,(ap+7*u) % 20) _ (Kp.new kk ht B7.at) ao ⟨⟨z0,z1⟩,kok kd (List.mem_of_getElem? ek),Int.emod_nonneg _ (by decide),Int.emod_lt_of_pos _ (by decide)⟩ (B7.keep st) (kk.trans (.of_same st))
def pG (K:PySem.W.Frag):Sp:=fun vs H Q _=>∃(r b:Addr) (n:Nat) (hn:Int),vs=[.ref r,.int hn]/\cF H r b n/\n<274877906944/\1<=hn/\hn<=8 /\
 ∀(a:Addr) (ws:List bC) (H':Hp),H a=none->gU H' a ws->(∀x∈ws,lE hn x)->ws.length<=300->cF H' r b (n+1000)->Kp r H H'->Q (.ref a) H'
theorem Qp (n:Int) (h0:0<=n) (h1:n<4):∃z:Int,rN [V.int 1,V.int 2,V.int 3,V.int 20] n=some (V.int z)/\1<=z/\z<=20:=by
 have:n=0\/n=1\/n=2\/n=3:=by omega
 rcases this with rfl|rfl|rfl|rfl
 ·exact ⟨1,rfl,by decide,by decide⟩
 ·exact ⟨2,rfl,by decide,by decide⟩
 ·exact ⟨3,rfl,by decide,by decide⟩
 ·exact ⟨20,rfl,by decide,by decide⟩
theorem Qq (n:Int) (h0:0<=n) (h1:n<32):∃z:Int,rN [V.int 31,V.int 101,V.int 301] (n / 28+n / 31)=some (V.int z)/\1<=z/\z<=301:=by
 have:n / 28+n / 31=0\/n / 28+n / 31=1\/n / 28+n / 31=2:=by omega
 rcases this with e|e|e<;>rw [e]
 ·exact ⟨31,rfl,by decide,by decide⟩
 ·exact ⟨101,rfl,by decide,by decide⟩
 ·exact ⟨301,rfl,by decide,by decide⟩
theorem Bf {f:Addr} {fd:FuncData} (F:j4 K "_law_touches" "_law_touches" dM f fd) (cP:FnAt P w K mg base 2 "_law_draw" ["bag","many"] (pJ K)) (Ka:FnAt P w K mg base 3 "_law_touch" ["bag","hands","cells","loads","apart"] (vR K)) (Bt:qL mg):cJ P w K mg base jf 4 f fd ["bag","hands"] (pG K):=by
 refine F.ok fG (fun vs H Q E h=> ?_) (fun cdv A outer s H vs Q E hr h=> ?_)
 ·obtain ⟨r,b,n,hn,rfl,_⟩:=h
  rfl
 ·obtain ⟨r,b,n,hn,rfl,B0,nn,hn0,hn1,k⟩:=h
  refine ⟨_,(aC (aR (i:=2) fG.nd rfl (Or.inl rfl) (bF cP (hr.mono (by decide)) (by rfl) (aj (pv 0) (aj aD aq))))
   (aC (aR (i:=3) fG.nd rfl (Or.inr rfl) (aM (aL (K:=K) rfl) (bT (aj aD (aj aD (aj aD (aj aD aq))))) (bF cP (hr.mono (by decide)) (by rfl) (aj (pv 0) (aj aD aq))) (fun _ _=>rfl)))
   (aC (aR (i:=4) fG.nd rfl (Or.inr rfl) (bF cP (hr.mono (by decide)) (by rfl) (aj (pv 0) (aj aD aq))))
   (aC (aR (i:=5) fG.nd rfl (Or.inr rfl) (bF cP (hr.mono (by decide)) (by rfl) (aj (pv 0) (aj aD aq))))
   (aC (aR (i:=6) fG.nd rfl (Or.inl rfl) (bF cP (hr.mono (by decide)) (by rfl) (aj (pv 0) (aj (aM (aL (K:=K) rfl) (bT (aj aD (aj aD (aj aD aq)))) (aY fB (aY rA (pv 2) aD) (aY rA (pv 2) aD)) (fun _ _=>rfl)) aq))))
   (aG (aX (gK rfl (N:=["step","bag","hands","cells","loads","apart"]) (own:=["step"]) (caps:=[0,1,3,4,5]) (aW.of (by kernel_rfl)) (dB (by rfl) Bt.eF (aj (pv 6) aq)) (fun _ _ _ _=>(aU (i:=0) (show List.Nodup (["step","bag","hands","cells","loads","apart"]:List Str) by decide +kernel) rfl (Or.inl rfl))) (fun _ _ _ _=>eX) (fun _ _ _ _=>(bF Ka (hr.mono (by decide)) (by rfl) (aj (pv 1) (aj (pv 2) (aj (pv 3) (aj (pv 4) (aj (pv 5) aq))))))))))))))), ?_⟩
  refine ⟨_,rfl,r,b,32,n,rfl,B0,by (clear hn1 hn0;omega),by decide,by decide,fun sz H1 Af Ae B1 k1=> ?_⟩;refine ⟨(by show 4<=sizeLine;decide),fun p hp=> ?_⟩;have sp:=aF (o:=HO.lst [V.int 1,V.int 2,V.int 3,V.int 20]) hp;obtain ⟨wG,_⟩:=B1.ne hp;refine ⟨_,rfl,r,b,4,_,rfl,B1.keep sp,by (clear wG hp Ae Af hn1 hn0;omega),by decide,by decide,fun y H2 y0 y1 B2 k2=> ?_⟩;obtain ⟨cl,ec,c0,c1⟩:=Qp y y0 y1;refine ⟨_,_,_,_,rfl,rfl,bf.of (k2 _ _ ao wG),ec, ?_⟩;have kk2:Kp r H H2:=(k1.trans (.of_same sp)).trans k2;refine ⟨_,rfl,r,b,3,_,rfl,B2,by (clear c1 c0 ec y1 y0 wG hp Ae Af hn1 hn0;omega),by decide,by decide,fun ld H3 qP qO B3 k3=> ?_⟩;refine ⟨_,rfl,r,b,20,_,rfl,B3,by (clear qO qP c1 c0 ec y1 y0 wG hp Ae Af hn1 hn0;omega),by decide,by decide,fun ap H4 J8 J7 B4 k4=> ?_⟩;have kk4:=(kk2.trans k3).trans k4;refine ⟨_,rfl,(by show 3<=sizeLine;decide),fun p2 hp2=> ?_⟩;have sp2:=aF (o:=HO.lst [V.int 31,V.int 101,V.int 301]) hp2;obtain ⟨mn,em,m0,m1⟩:=Qq sz Af Ae;refine ⟨_,rfl,_,_,rfl,rfl,(by show Kh _ 28;exact ⟨by decide,by decide⟩),_,rfl,_,_,rfl,rfl,(by show Kh _ 31;exact ⟨by decide,by decide⟩),_,_,rfl,rfl,_,_,_,_,rfl,rfl,bf.of ao,em,r,b,mn,_,rfl,B4.keep sp2,by (clear m1 m0 em hp2 J7 J8 qO qP c1 c0 ec y1 y0 wG hp Ae Af hn1 hn0;omega),by (clear m1 em hp2 J7 J8 qO qP c1 c0 ec y1 y0 wG hp Ae Af hn1 hn0 nn;omega),by (clear m0 em hp2 J7 J8 qO qP c1 c0 ec y1 y0 wG hp Ae Af hn1 hn0 nn;omega),fun many H5 y0 y1 B5 k5=> ?_⟩;have VP:=(kk4.trans (.of_same sp2)).trans k5;refine ⟨_,rfl,many,rfl,by (clear y1 m1 m0 em hp2 J7 J8 qO qP c1 c0 ec wG hp Ae Af hn1 hn0 nn;omega),by (clear y0 m0 em hp2 J7 J8 qO qP c1 c0 ec wG hp Ae Af hn1 hn0 nn;omega),fun D hD=> ?_⟩;obtain ⟨ml,rfl⟩:=Int.eq_ofNat_of_zero_le y0;rw [show ((ml:Int)).toNat=ml by (clear y1 y0 hD m1 m0 em hp2 J7 J8 qO qP c1 c0 ec wG hp Ae Af hn1 hn0 nn;omega)];obtain ⟨Qo,Rq⟩:=B5.ne hD;have mv:∀{H:Hp} {o:HO},Kp r H5 H->Kp r H5 (upd H D o):=fun k c u e m=>by rw [aQ (au e hD)];exact k c u e m
  refine iU (lo:=0) (n:=ml) (fun i σ H6=>(∃v,σ=[v,some (.ref r),some (.int hn),some (.int cl),some (.int ld),some (.int ap)]) /\ ∃ws:List bC,ws.length=i/\(∀x∈ws,lE hn x)/\gU H6 D ws/\Kp r H5 H6/\cF H6 r b (n+1+1+1+1+1+3*i))
   ⟨⟨none,rfl⟩,[],rfl,fun _ z=>absurd z (by simp),⟨[],ao,by simp [aJ]⟩,.of_same (aF hD),B5.keep (aF hD)⟩ ?_ ?_
  ·rintro i σ H6 hi ⟨⟨v,rfl⟩,ws,wl,CG,W,k6,B6⟩
   refine ⟨_,rfl,_,rfl,_,rfl,_,rfl,_,rfl,r,b,_,hn,cl,ld,ap,rfl,B6,by (clear wl Rq Qo y0 hD m0 em hp2 J7 J8 qO qP c1 c0 ec wG hp Ae Af hn1 hn0;omega),hn0,hn1,c0,c1,qP,qO,fun t x H7 ht0 ht xok B7 k7=> ?_⟩;obtain ⟨vs,hv,dv⟩:=id W;have vl:vs.length=i:=by rw [dv.length,List.length_map,wl]
   have Wc:=k7 _ _ hv Qo;have k8:Kp D H7 (upd H7 D (.lst (vs++[V.ref t]))):=Kp.set;have t8:=k8.tups Wc;refine ⟨vs,Wc,by rw [sizeLine_eq];(clear Wc hv ht ht0 wl Rq Qo y0 hD m0 em hp2 J7 J8 qO qP c1 c0 ec wG hp Ae Af hn1 hn0 nn;omega),⟨_,rfl⟩,ws++[x],by simp [wl],fun y hy=> ?_,⟨_,ao, ?_⟩,mv (k6.trans k7),(B7.mono (by (clear Wc vl hv ht ht0 wl hi Rq Qo y1 y0 hD m1 m0 em hp2 J7 J8 qO qP c1 c0 ec wG hp Ae Af hn1 hn0 nn;omega))).kp k8 Qo.symm Rq.symm⟩
   ·rcases List.mem_append.mp hy with hy|hy
    ·exact CG y hy
    ·have:y=x:=by simpa using hy
     subst this;exact xok
   ·rw [List.map_append]
    refine aJ.append (aJ.keep (fun a xs h=>t8 _ _ (B6.tups k7 _ _ h)) _ (bH _ wO _) dv) (zy (D_ (t8 _ _ ht)))
  ·rintro σ H6 ⟨⟨v,rfl⟩,ws,wl,CG,W,k6,B6⟩
   exact k D ws H6 (Kp.new VP hD B5.at) W CG (by (clear Rq Qo y0 hD m0 em hp2 J7 J8 qO qP c1 c0 ec wG hp Ae Af hn1 hn0 nn;omega)) (B6.mono (by (clear wl Rq Qo y0 hD m0 em hp2 J7 J8 qO qP c1 c0 ec wG hp Ae Af hn1 hn0 nn;omega))) (VP.trans k6)
def mt (x y:bC):Bool:=if x.1=y.1 then false else if x.2.2=y.2.2 then (if x.2.1 = "load" then !decide (y.2.1 = "load") else true) else false
def Pk (K:PySem.W.Frag):Sp:=fun vs H Q _=>∃(a b:Addr) (x y:bC),vs=[.ref a,.ref b]/\H a=some (.tup [.int x.1,.str x.2.1,.int x.2.2])/\H b=some (.tup [.int y.1,.str y.2.1,.int y.2.2])/\Q (.bl (mt x y)) H
theorem Ms {K:PySem.W.Frag} {a b:Addr} {x y:bC} {H:Hp} {Q:VK} (ha:H a=some (.tup [.int x.1,.str x.2.1,.int x.2.2])) (hb:H b=some (.tup [.int y.1,.str y.2.1,.int y.2.2])) (k:Q (.bl (mt x y)) H) {D:Ends} (hD:D.rt=Q):
 (O9 (RN (tOr (CK (CN rEq (CN (wk K) (rY 0) (tC (.int 0))) (CN (wk K) (rY 1) (tC (.int 0))))) (CK (CN VB (CN (wk K) (rY 0) (tC (.int 2))) (CN (wk K) (rY 1) (tC (.int 2)))))) (Kz (tC (.bl false))) G_)
   (Kz (RL (CN VB (CN (wk K) (rY 0) (tC (.int 1))) (tC (.str "load"))) (CN VB (CN (wk K) (rY 1) (tC (.int 1))) (tC (.str "load")))))) D [some (.ref a),some (.ref b)] H:=by
 refine ⟨_,rfl,_,_,_,_,rfl,rfl,dZ.of ha,rfl,_,rfl,_,_,_,_,rfl,rfl,dZ.of hb,rfl,rfl,_,rfl, ?_⟩;refine mK (fun h1=> ?_) (fun h1=> ?_)
 ·have e:x.1=y.1:=by injection (of_decide_eq_true h1)
  have em:mt x y=false:=by unfold mt;rw [if_pos e]
  refine (show D.rt (.bl false) H from ?_);rw [hD,←em];exact k
 ·have e:¬x.1=y.1:=fun z=>h1 (decide_eq_true (by rw [z]))
  refine ⟨_,rfl,_,_,_,_,rfl,rfl,dZ.of ha,rfl,_,rfl,_,_,_,_,rfl,rfl,dZ.of hb,rfl,rfl,_,rfl, ?_⟩
  by_cases e2:x.2.2=y.2.2
  ·refine qF (by rw [e2]) ?_
   refine ⟨_,rfl,_,_,_,_,rfl,rfl,dZ.of ha,rfl,rfl,_,rfl, ?_⟩
   by_cases e3:x.2.1 = "load"
   ·refine qF (by rw [e3]) ?_
    refine ⟨_,rfl,_,_,_,_,rfl,rfl,dZ.of hb,rfl,rfl, ?_⟩
    have em:mt x y = !decide (V.str y.2.1=V.str "load"):=by
     unfold mt;rw [if_neg e,if_pos e2,if_pos e3];congr 1;rw [Bool.eq_iff_iff,decide_eq_true_iff,decide_eq_true_iff];exact ⟨fun z=>by rw [z],fun z=>by injection z⟩
    rw [←em,hD];exact k
   ·have ne:¬V.str x.2.1=V.str "load" :=fun z=>e3 (by injection z)
    rw [decide_eq_false ne];refine iW ?_;have em:mt x y=true:=by unfold mt;rw [if_neg e,if_pos e2,if_neg e3]
    rw [←em,hD];exact k
  ·have ne:¬V.int x.2.2=V.int y.2.2:=fun z=>e2 (by injection z)
   rw [decide_eq_false ne];refine iW ?_;have em:mt x y=false:=by unfold mt;rw [if_neg e,if_neg e2]
   refine (show D.rt (.bl false) H from ?_);rw [hD,←em];exact k
theorem qN {f:Addr} {fd:FuncData} (F:j4 K "touches_meet" "touches_meet" bU f fd):cJ P w K mg base jf 1 f fd ["one","other"] (Pk K):=by
 refine F.ok qM (fun vs H Q E h=> ?_) (fun cdv A outer s H vs Q E hr h=> ?_)
 ·obtain ⟨a,b,x,y,rfl,_⟩:=h
  rfl
 ·obtain ⟨a,b,x,y,rfl,ha,hb,k⟩:=h
  exact ⟨_,(aC (dF (PW.pt (Dj (bZ iZ (aM (bA (K:=K) rfl) (pv 0) aD (fun _ _=>rfl)) (aM (bA (K:=K) rfl) (pv 1) aD (fun _ _=>rfl)) (bK _)) (wu (bZ mX (aM (bA (K:=K) rfl) (pv 0) aD (fun _ _=>rfl)) (aM (bA (K:=K) rfl) (pv 1) aD (fun _ _=>rfl)) (bK _))))) (aG (aX mW)) bW)
   (aG (aX (Ib (eY mX (aM (bA (K:=K) rfl) (pv 0) aD (fun _ _=>rfl)) cC (bK _)) (m9 (eY mX (aM (bA (K:=K) rfl) (pv 1) aD (fun _ _=>rfl)) cC (bK _))))))),Ms (K:=K) ha hb k rfl⟩
def Ph (ws:List bC) (i j:Nat):Bool:=match ws[i]?,ws[j]? with |some x,some y=>decide (x.1=y.1)||mt x y|_,_=>false
def qw (ws:List bC) (i j:Nat):Bool:=decide (i<j)&&Ph ws i j
theorem pF {ws:List bC} {i j:Nat} (h:qw ws i j=true):i<j/\j<ws.length:=by
 unfold qw Ph at h;simp only [Bool.and_eq_true,decide_eq_true_eq] at h;refine ⟨h.1, ?_⟩
 by_cases l:j<ws.length
 ·exact l
 ·have e:ws[j]? = none:=by simp;(clear h;omega)
  rw [e] at h;cases ws[i]? <;> simp at h
theorem rM {vs:List V} {i:Nat} {v:V} (h:vs[i]? = some v):rN vs (i:Int)=some v:=bB h
def Ah (K:PySem.W.Frag):Sp:=fun vs H Q _=>∃(a:Addr) (ws:List bC) (i j:Nat),vs=[.ref a,.int i,.int j]/\gU H a ws/\i<ws.length/\j<ws.length/\Q (.bl (qw ws i j)) H
theorem Bh {f:Addr} {fd:FuncData} (F:j4 K "is_step" "is_step" d_ f fd) (uG:FnAt P w K mg base 1 "touches_meet" ["one","other"] (Pk K)):cJ P w K mg base jf 2 f fd ["web","place","later"] (Ah K):=by
 refine F.ok Ar (fun vs H Q E h=> ?_) (fun cdv A outer s H vs Q E hr h=> ?_)
 ·obtain ⟨a,ws,i,j,rfl,_⟩:=h
  rfl
 ·obtain ⟨a,ws,i,j,rfl,W,hi,hj,k⟩:=h
  refine ⟨_,(aC (dF (bZ Og (pv 1) (pv 2) (bK _)) (aG (aX mW)) bW)
   (aG (aX (Ib (eY iZ (aM (bA (K:=K) rfl) (aM (aL (K:=K) rfl) (pv 0) (pv 1) (fun _ _=>rfl)) aD (fun _ _=>rfl)) (aM (bA (K:=K) rfl) (aM (aL (K:=K) rfl) (pv 0) (pv 2) (fun _ _=>rfl)) aD (fun _ _=>rfl)) (bK _)) (m9 (bF uG (hr.mono (by decide)) (by rfl) (aj (aM (aL (K:=K) rfl) (pv 0) (pv 1) (fun _ _=>rfl)) (aj (aM (aL (K:=K) rfl) (pv 0) (pv 2) (fun _ _=>rfl)) aq)))))))), ?_⟩
  refine ⟨_,rfl,_,rfl,_,_,rfl,rfl,_,rfl, ?_⟩
  by_cases l:i<j
  ·rw [decide_eq_false (show ¬(j:Int)<=(i:Int) by omega)]
   refine gB ?_;obtain ⟨x,ex⟩:∃x,ws[i]? = some x:=⟨ws[i],by simp [hi]⟩;obtain ⟨y,ey⟩:∃y,ws[j]? = some y:=⟨ws[j],by simp [hj]⟩;obtain ⟨vs,t1,ha,e1,ht1⟩:=lG W ex;obtain ⟨vs',t2,ha',e2,Wd⟩:=lG W ey;have ev:vs=vs':=by rw [ha] at ha';injection ha' with q;injection q
   subst ev;have es:qw ws i j=(decide (x.1=y.1)||mt x y):=by unfold qw Ph;rw [ex,ey,decide_eq_true l,Bool.true_and]
   refine ⟨_,rfl,_,rfl,_,_,_,_,rfl,rfl,bf.of ha,rM e1,_,_,_,_,rfl,rfl,dZ.of ht1,rfl,_,rfl,_,rfl,_,_,_,_,rfl,rfl,bf.of ha,rM e2,_,_,_,_,rfl,rfl,dZ.of Wd,rfl,rfl,_,rfl, ?_⟩
   by_cases q:x.1=y.1
   ·rw [show decide (V.int x.1=V.int y.1)=true by simp [q]]
    refine iW ?_;rw [decide_eq_true q,Bool.true_or] at es;rw [←es];exact k
   ·rw [show decide (V.int x.1=V.int y.1)=false by simp [q]]
    refine gB ?_;rw [decide_eq_false q,Bool.false_or] at es;exact ⟨_,rfl,_,rfl,_,_,_,_,rfl,rfl,bf.of ha,rM e1,_,rfl,_,rfl,_,_,_,_,rfl,rfl,bf.of ha,rM e2,t1,t2,x,y,rfl,ht1,Wd,by rw [←es];exact k⟩
  ·rw [decide_eq_true (show (j:Int)<=(i:Int) by omega)]
   refine iW ?_;have es:qw ws i j=false:=by unfold qw;rw [decide_eq_false l,Bool.false_and]
   rw [←es];exact k
inductive qY (ws:List bC) (j:Nat):Nat->Prop
 | one {i:Nat} (h:qw ws i j=true):qY ws j i
 | more {i k:Nat} (h:qw ws i k=true) (r:qY ws j k):qY ws j i
theorem qY.lt {ws:List bC} {i j:Nat} (r:qY ws j i):i<j/\j<ws.length:=by
 induction r with
 | one h=>exact pF h
 | more h _ ih=>exact ⟨Nat.lt_trans (pF h).1 ih.1,ih.2⟩
abbrev Nt:=Int×Int×Int×Int
def nD (x:Nt):PyData:= .tuple [.int x.1,.int x.2.1,.int x.2.2.1,.int x.2.2.2]
def nV (x:Nt):List V:=[.int x.1,.int x.2.1,.int x.2.2.1,.int x.2.2.2]
theorem gC (x:Nt):Kq (nD x)=true:=rfl
theorem BZ {H:Hp} {t:Addr} {x:Nt} (h:H t=some (.tup (nV x))):Dat H (.ref t) (nD x):=by
 simp only [nD,Dat];exact ⟨t,_,rfl,h,by simp only [nV,aJ,Dat,and_self]⟩
theorem uc {H:Hp} {v:V} {x:Nt} (h:Dat H v (nD x)):∃t,v = .ref t/\H t=some (.tup (nV x)):=by
 simp only [nD,Dat] at h;obtain ⟨t,vs,e,q,d⟩:=h
 match vs,d with
 | [a,b,c,z],d=>
   simp only [aJ,Dat,and_true] at d;obtain ⟨rfl,rfl,rfl,rfl⟩:=d;exact ⟨t,e,q⟩
 | [],d=>simp only [aJ] at d
 | [_],d=>simp only [aJ,and_false] at d
 | [_,_],d=>simp only [aJ,and_false] at d
 | [_,_,_],d=>simp only [aJ,and_false] at d
 | _::_::_::_::_::_,d=>simp only [aJ,and_false] at d
def d9 (H:Hp) (a:Addr) (ns:List Nt):Prop:=∃vs,H a=some (.lst vs)/\aJ H vs (ns.map nD)
theorem d9.kp {H H':Hp} {a r:Addr} {ns:List Nt} (h:d9 H a ns) (hr:∀a xs,H a=some (HO.tup xs)->H' a=some (HO.tup xs)) (k:Kp r H H') (n:a≠r):d9 H' a ns:=by
 obtain ⟨vs,e,d⟩:=h;exact ⟨vs,k _ _ e n,aJ.keep hr _ (bH _ gC ns) d⟩
theorem d9.same {H H':Hp} {a:Addr} {ns:List Nt} (h:d9 H a ns) (k:Same H H'):d9 H' a ns:=by
 obtain ⟨vs,e,d⟩:=h;exact ⟨vs,k _ _ e,aJ.keep k.tups _ (bH _ gC ns) d⟩
theorem rB {H:Hp} {vs:List V} {ns:List Nt} {i:Nat} {v:V} (d:aJ H vs (ns.map nD)) (e:vs[i]? = some v):∃x t,ns[i]? = some x/\v = .ref t/\H t=some (.tup (nV x)):=by
 obtain ⟨q,eq,dq⟩:=d.get e;rw [List.getElem?_map] at eq;cases ex:ns[i]? with
 | none=>rw [ex] at eq;cases eq
 | some x=>
   rw [ex] at eq;cases eq;obtain ⟨t,rfl,ht⟩:=uc dq;exact ⟨x,t,rfl,rfl,ht⟩
def gI (cs:List Int) (h:Int):Int:=(cs[h.toNat]?).getD 0
theorem qm {cs:List Int} {h:Int} (h0:0<=h) (h1:h<cs.length):rN (cs.map V.int) h=some (.int (gI cs h)):=by
 obtain ⟨m,rfl⟩:=Int.eq_ofNat_of_zero_le h0;have:m<cs.length:=by (clear h0;omega)
 refine bB ?_;simp [gI,this]
theorem tW {cs:List Int} {i:Nat} {c:Int} (h:cs[i]? = some c):gI cs i=c:=by simp [gI,h]
theorem rG {n:Nat} {i:Int} (h0:0<=i) (h1:i<n):Jo n i=some i.toNat:=by unfold Jo;rw [if_pos h0,if_pos h1]
theorem wR {cs:List Int} {h k v:Int} (h0:0<=h) (h1:h<cs.length) (k0:0<=k):gI (cs.set h.toNat v) k=if k=h then v else gI cs k:=by
 unfold gI;rw [List.getElem?_set]
 by_cases e:k=h
 ·subst e
  have:k.toNat<cs.length:=by (clear h0;omega)
  simp [this]
 ·have:¬h.toNat=k.toNat:=by (clear h1;omega)
  simp [e,this]
def J9 (cs:List Int) (x:Nt):Prop:=(0<=x.1/\x.1<cs.length)/\(0<=x.2.1/\x.2.1<gI cs x.1)/\(0<=x.2.2.1/\x.2.2.1<cs.length)/\(0<=x.2.2.2/\x.2.2.2<gI cs x.2.2.1)/\x.1≠x.2.2.1
def Kf (cs:List Int):Prop:=cs.length<=8 /\ ∀c∈cs,0<=c/\c<=300
theorem Kf.gI {cs:List Int} (h:Kf cs) (i:Int):0<=gI cs i/\gI cs i<=300:=by
 unfold Prf.gI;cases e:cs[i.toNat]? with
 | none=>simp
 | some c=>exact h.2 c (List.mem_of_getElem? e)
abbrev Kr:=Int×Int
def pD (x:Kr):PyData:= .tuple [.int x.1,.int x.2]
theorem BJ (x:Kr):Kq (pD x)=true:=rfl
theorem M_ {H:Hp} {t:Addr} {x:Kr} (h:H t=some (.tup [.int x.1,.int x.2])):Dat H (.ref t) (pD x):=by
 simp only [pD,Dat];exact ⟨t,_,rfl,h,by simp only [aJ,Dat,and_self]⟩
theorem zA {H:Hp} {v:V} {x:Kr} (h:Dat H v (pD x)):∃t,v = .ref t/\H t=some (.tup [.int x.1,.int x.2]):=by
 simp only [pD,Dat] at h;obtain ⟨t,vs,e,q,d⟩:=h
 match vs,d with
 | [a,b],d=>
   simp only [aJ,Dat,and_true] at d;obtain ⟨rfl,rfl⟩:=d;exact ⟨t,e,q⟩
 | [],d=>simp only [aJ] at d
 | [_],d=>simp only [aJ,and_false] at d
 | _::_::_::_,d=>simp only [aJ,and_false] at d
def jZ (H:Hp) (a:Addr) (ps:List Kr):Prop:=∃vs,H a=some (.lst vs)/\aJ H vs (ps.map pD)
theorem jZ.same {H H':Hp} {a:Addr} {ws:List Kr} (h:jZ H a ws) (k:Same H H'):jZ H' a ws:=by
 obtain ⟨vs,e,d⟩:=h;exact ⟨vs,k _ _ e,aJ.keep k.tups _ (bH _ BJ ws) d⟩
theorem jZ.kp {H H':Hp} {a r:Addr} {ws:List Kr} {ys:List V} (h:jZ H a ws) (hr:H r=some (.lst ys)) (k:Kp r H H') (n:a≠r):jZ H' a ws:=by
 obtain ⟨vs,e,d⟩:=h;exact ⟨vs,k _ _ e n,aJ.keep (k.tups hr) _ (bH _ BJ ws) d⟩
def cnt (ws:List bC) (h:Int):Int:=((ws.filter fun x=>decide (x.1=h)).length:Int)
theorem d8 (ws:List bC) (x:bC) (h:Int):cnt (ws++[x]) h=if h=x.1 then cnt ws h+1 else cnt ws h:=by
 unfold cnt;rw [List.filter_append,List.length_append]
 by_cases e:h=x.1
 ·subst e;simp
 ·rw [if_neg e]
  have:¬x.1=h:=fun z=>e z.symm;simp [this]
def hnd (ws:List bC) (i:Nat):Int:=match ws[i]? with |some x=>x.1|none=>0
theorem pY {ws:List bC} {i:Nat} {x:bC} (h:ws[i]? = some x):hnd ws i=x.1:=by unfold hnd;rw [h]
def nm (ws:List bC):List Kr:=(List.range ws.length).map fun i=>(hnd ws i,cnt (ws.take i) (hnd ws i))
theorem Mq (ws:List bC) (x:bC):nm (ws++[x])=nm ws++[(x.1,cnt ws x.1)]:=by
 unfold nm;rw [List.length_append,List.length_singleton,List.range_succ,List.map_append];congr 1
 ·refine List.map_congr_left fun i hi=> ?_
  have hi':i<ws.length:=by simpa using hi
  unfold hnd;rw [List.getElem?_append_left hi',List.take_append_of_le_length (by omega)]
 ·simp [hnd]
theorem Fq (ws:List bC):(nm ws).length=ws.length:=by unfold nm;simp
theorem HF {ws:List bC} {j m:Nat} (r:qY ws j m):∃i,qw ws i j=true/\(m=i\/qY ws i m):=by
 induction r with
 | one h=>exact ⟨_,h,.inl rfl⟩
 | more h _ ih=>
   obtain ⟨i,st,q⟩:=ih;refine ⟨i,st,.inr ?_⟩;rcases q with rfl|q
   ·exact .one h
   ·exact .more h q
theorem HD {ws:List bC} {i j m:Nat} (st:qw ws i j=true) (r:qY ws i m):qY ws j m:=by
 induction r with
 | one h=>exact .more h (.one st)
 | more h _ ih=>exact .more h ih
theorem gQ (ws:List bC) (h:Int) (i:Nat):∀d:Nat,cnt (ws.take i) h<=cnt (ws.take (i+d)) h
 | 0=>Int.le_refl _
 | d+1=>by
   have ih:=gQ ws h i d;have e:ws.take (i+(d+1))=ws.take (i+d)++(ws[i+d]?).toList:=by rw [←Nat.add_assoc,List.take_add_one]
   rw [e];cases ws[i+d]? with
   | none=>simpa using ih
   | some x=>
     show _<=cnt (ws.take (i+d)++[x]) h;rw [d8];split<;>(clear e;omega)
theorem iu (ws:List bC) (h:Int):0<=cnt ws h:=by unfold cnt;omega
theorem Bo {ws:List bC} {i:Nat} {x:bC} (e:ws[i]? = some x):(nm ws)[i]? = some (x.1,cnt (ws.take i) x.1):=by
 have:i<ws.length:=(List.getElem?_eq_some_iff.mp e).1;unfold nm;rw [List.getElem?_map,List.getElem?_range this];simp only [Option.map_some,pY e]
theorem Ay {H:Hp} {a:Addr} {ps:List Kr} {i:Nat} {x:Kr} (h:jZ H a ps) (e:ps[i]? = some x):∃vs t,H a=some (.lst vs)/\vs[i]? = some (.ref t)/\H t=some (.tup [.int x.1,.int x.2]):=by
 obtain ⟨vs,ha,d⟩:=h;obtain ⟨v,ev,dv⟩:=d.getD (i:=i) (d:=pD x) (by rw [List.getElem?_map,e];rfl);obtain ⟨t,rfl,ht⟩:=zA dv;exact ⟨vs,t,ha,ev,ht⟩
def mx (a b:Int):Int:=if b>a then b else a
theorem Jh {c a b:Int}:c<mx a b↔c<a\/c<b:=by unfold mx;split<;>omega
theorem Tc {a b:Int} (h:0<=a):0<=mx a b:=by unfold mx;split<;>omega
def vX (K:PySem.W.Frag):Sp:=fun vs H Q _=>∃(t d:Addr) (h k:Int) (g:Int->Int),vs=[.ref t,.ref d]/\H t=some (.tup [.int h,.int k])/\iw H d g/\Q (.bl (decide (k<g h))) H
theorem Iw {f:Addr} {fd:FuncData} (F:j4 K "is_known" "is_known" dI f fd):cJ P w K mg base jf 1 f fd ["name","known"] (vX K):=by
 refine F.ok yc (fun vs H Q E h=> ?_) (fun cdv A outer s H vs Q E hr h=> ?_)
 ·obtain ⟨t,d,h,k,g,rfl,_⟩:=h
  rfl
 ·obtain ⟨t,d,h,k,g,rfl,ht,kd,q⟩:=h
  have hu:=DN hr;refine ⟨_,(aG (aX (eY tu (aM (bA (K:=K) rfl) (pv 0) aD (fun _ _=>rfl)) (sZ hu (pv 1) (aM (bA (K:=K) rfl) (pv 0) aD (fun _ _=>rfl)) aD ⟨rfl,rfl,rfl,rfl⟩) (bK _)))), ?_⟩;obtain ⟨kvs,hd,_,val⟩:=kd.get;refine ⟨_,rfl,_,_,_,_,rfl,rfl,dZ.of ht,rfl,_,rfl,d,rfl,.inl ⟨_,.inl hd⟩,_,rfl,_,_,_,_,rfl,rfl,dZ.of ht,rfl,_,uH.k (k:=Sum.inl h) hd, ?_⟩;rw [val h];exact ⟨_,_,rfl,rfl,q⟩
def vW (K:PySem.W.Frag):Sp:=fun vs H Q _=>∃(d m:Addr) (g1 g2:Int->Int),vs=[.ref d,.ref m]/\iw H d g1/\iw H m g2/\d≠m /\ ∀H',iw H' d (fun h=>mx (g1 h) (g2 h))->Kp d H H'->Q .non H'
def Rx (hs:List Int) (g1 g2:Int->Int):Int->Int:=fun h=>if h∈hs then mx (g1 h) (g2 h) else g1 h
theorem Iv {f:Addr} {fd:FuncData} (F:j4 K "learn" "learn" iy f fd) (Bt:qL mg):cJ P w K mg base jf 1 f fd ["known","more"] (vW K):=by
 refine F.ok xY (fun vs H Q E h=> ?_) (fun cdv A outer s H vs Q E hr h=> ?_)
 ·obtain ⟨d,m,g1,g2,rfl,_⟩:=h
  rfl
 ·obtain ⟨d,m,g1,g2,rfl,k1,k2,ne,q⟩:=h
  have hu:=DN hr
  refine ⟨_,(aG (K_ (gA PassesOwn.never rfl (Ln (pv 1)) (aU (i:=2) xY.nd rfl (Or.inl rfl))
   (aG (Lg hu (pv 0) (pv 2) (aP (vH rfl) (by rfl) Bt.Oz JR (aj (sZ hu (pv 0) (pv 2) aD ⟨rfl,rfl,rfl,rfl⟩) (aj (Lw hu (pv 1) (pv 2) (fun _ _=>rfl)) aq))) rfl))))), ?_⟩
  obtain ⟨hs,hm,nd,rg,zz⟩:=k2.ex;refine ⟨_,rfl,m,_,rfl,hm,fun o=> ?_⟩;have kf:Kp m H (upd H m (.mz o (.dK (uR hs g2)))):=Kp.set
  refine JB (fun i σ H2=>∃v:Option V,σ=[some (.ref d),some (.ref m),v]/\iw H2 d (Rx (hs.take i) g1 g2)/\H2 m=some (.mz o (.dK (uR hs g2)))/\Kp d (upd H m (.mz o (.dK (uR hs g2)))) H2)
   ⟨none,rfl,(k1.kp kf ne).ext (fun h=>by simp [Rx]),ao,Kp.refl _ _⟩ (fun i σ H2 _ ⟨_,_,_,e,_⟩=>e) ?_ ?_
  ·rintro i kk v σ H2 hi ⟨x,rfl,kd,fz,kp⟩
   have hi':(uR hs g2)[i]? = some (kk,v):=hi;unfold uR at hi';rw [List.getElem?_map] at hi';cases eh:hs[i]? with
   | none=>rw [eh] at hi';cases hi'
   | some h=>
     rw [eh] at hi';cases hi';have hm':h∈hs:=List.mem_of_getElem? eh;obtain ⟨h0,h1⟩:=rg h hm';have tk:hs.take (i+1)=hs.take i++[h]:=by rw [List.take_add_one,eh];rfl
     have nin:h∉hs.take i:=by
      intro z;have:(hs.take i++[h]).Nodup:=by rw [←tk];exact nd.sublist (List.take_sublist _ _)
      rw [List.nodup_append] at this;exact this.2.2 h z h (by simp) rfl
     obtain ⟨kvs,hd2,_,val⟩:=kd.get;have gi:Rx (hs.take i) g1 g2 h=g1 h:=by unfold Rx;rw [if_neg nin]
     refine ⟨_,rfl,d,rfl,.inl ⟨_,.inl hd2⟩,_,rfl,_,uH.k (k:=Sum.inl h) hd2, ?_⟩;rw [val h,gi];have gm:uH H2 m (kV (Sum.inl h)) (some (V.int (g2 h))):= .inl ⟨_,Sum.inl h,.inr ⟨o,fz⟩,rfl,by rw [wK,if_pos hm']⟩;refine ⟨_,rfl,_,rfl,m,_,rfl,gm,_,_,rfl, ?_⟩;obtain ⟨kvs',Wg,hz,put⟩:=kd.put (v:=mx (g1 h) (g2 h)) h0 h1 (Tc (k1.nn h));refine ⟨_,rfl,_,rfl,d,_,rfl,Ke.k (k:=Sum.inl h) Wg hz, ?_⟩;refine ⟨_,rfl,(put _ ao).ext fun x=> ?_,by rw [aQ ne.symm];exact fz,kp.trans Kp.set⟩;unfold zc Rx;rw [tk]
     by_cases e:x=h
     ·subst e;simp
     ·simp [e]
  ·rintro σ H2 ⟨x,rfl,kd,fz,kp⟩
   refine ⟨_,⟨m,_,o,_,hm,fz,rfl⟩, ?_⟩;have kt:Kp m H2 (upd H2 m (.dK (uR hs g2))):=Kp.set;refine q _ ((kd.kp kt ne).ext fun h=> ?_) fun b u e nb=> ?_
   ·have el:hs.take (uR hs g2).length=hs:=by rw [uR,List.length_map,List.take_length]
    rw [el];unfold Rx
    by_cases hh:h∈hs
    ·rw [if_pos hh]
    ·rw [if_neg hh,zz h hh]
     have:=k1.nn h;unfold mx;rw [if_neg (by (clear hh el fz hm hu ne;omega))]
   ·by_cases eb:b=m
    ·subst eb
     rw [hm] at e;rw [ao];exact e
    ·rw [aQ eb]
     exact kp _ _ (by rw [aQ eb];exact e) nb
def Ny (ws:List bC) (g:Int->Int) (R:Nat->Prop):Prop:=∀m x,ws[m]? = some x->(cnt (ws.take m) x.1<g x.1↔R m)
def mU (ws:List bC) (j:Nat) (g:Int->Int):Prop:=Ny ws g (fun m=>m=j\/qY ws j m) /\ ∀h,g h<=cnt (ws.take (j+1)) h
def Ek (ws:List bC) (j lo m:Nat):Prop:=∃x,lo<=x/\qw ws x j=true/\(m=x\/qY ws x m)
def Bare (ws:List bC) (j e:Nat):Prop:=qw ws e j=true /\ ¬Ek ws j (e+1) e
noncomputable instance (ws:List bC) (j e:Nat):Decidable (Bare ws j e):=Classical.propDecidable _
theorem Ey {ws:List bC} {a b c:Nat} (h:qY ws b a) (g:qY ws c b):qY ws c a:=by
 induction h with
 | one h=>exact .more h g
 | more h _ ih=>exact .more h ih
theorem Ny.iff {ws:List bC} {g:Int->Int} {R S:Nat->Prop} (h:Ny ws g R) (e:∀m,R m↔S m):Ny ws g S:=fun m x ex=>(h m x ex).trans (e m)
theorem zE {ws:List bC} {j e m:Nat} (h:¬qw ws e j=true):Ek ws j (e+1) m↔Ek ws j e m:=by
 constructor
 ·rintro ⟨x,a,b,c⟩
  exact ⟨x,by omega,b,c⟩
 ·rintro ⟨x,a,b,c⟩
  have:x≠e:=fun z=>h (z▸b);exact ⟨x,by omega,b,c⟩
theorem Gf {ws:List bC} {j e m:Nat} (k:Ek ws j (e+1) e):Ek ws j (e+1) m↔Ek ws j e m:=by
 constructor
 ·rintro ⟨x,a,b,c⟩
  exact ⟨x,by omega,b,c⟩
 ·rintro ⟨x,a,b,c⟩
  by_cases z:x=e
  ·subst z
   obtain ⟨y,y1,y2,y3⟩:=k;have r:qY ws y x:=y3.resolve_left (by (clear y3 y2 a c b;omega));rcases c with c|c
   ·subst c;exact ⟨y,y1,y2,.inr r⟩
   ·exact ⟨y,y1,y2,.inr (Ey c r)⟩
  ·exact ⟨x,by omega,b,c⟩
theorem Eb {ws:List bC} {j e m:Nat} (h:qw ws e j=true):(Ek ws j (e+1) m\/(m=e\/qY ws e m))↔Ek ws j e m:=by
 constructor
 ·rintro (⟨x,a,b,c⟩|c)
  ·exact ⟨x,by omega,b,c⟩
  ·exact ⟨e,Nat.le_refl _,h,c⟩
 ·rintro ⟨x,a,b,c⟩
  by_cases z:x=e
  ·subst z;exact .inr c
  ·exact .inl ⟨x,by (clear c b h;omega),b,c⟩
theorem Mw {ws:List bC} {g g':Int->Int} {R S:Nat->Prop} (h:Ny ws g R) (h':Ny ws g' S):Ny ws (fun x=>mx (g x) (g' x)) fun m=>R m\/S m:=fun m x ex=>by
 show cnt _ _<mx _ _↔_;rw [Jh,h m x ex,h' m x ex]
theorem Ea {ws:List bC} {j m:Nat}:Ek ws j 0 m↔qY ws j m:=by
 constructor
 ·rintro ⟨x,_,b,c|c⟩
  ·subst c;exact .one b
  ·exact HD b c
 ·intro r
  obtain ⟨i,s,q⟩:=HF r;exact ⟨i,Nat.zero_le _,s,q⟩
theorem Mv {ws:List bC} {j:Nat} {y:bC} {g:Int->Int} (h:Ny ws g (qY ws j)) (bd:∀h,g h<=cnt (ws.take j) h) (ey:ws[j]? = some y):mU ws j (fun x=>mx (g x) (if x=y.1 then cnt (ws.take j) y.1+1 else 0)):=by
 have tk:ws.take (j+1)=ws.take j++[y]:=by rw [List.take_add_one,ey];rfl
 refine ⟨?_,fun h=> ?_⟩
 rotate_left
 ·have b1:=bd h
  have b2:=iu (ws.take j) h;rw [tk,d8];show mx _ _<=_;unfold mx
  by_cases e:h=y.1
  ·rw [if_pos e,if_pos e];subst e;split<;>(clear b2 tk ey;omega)
  ·rw [if_neg e,if_neg e];split<;>(clear e tk ey;omega)
 intro m x ex;show cnt _ _<mx _ _↔_;rw [Jh,h m x ex]
 by_cases e:x.1=y.1
 ·rw [if_pos e]
  constructor
  ·rintro (z|z)
   ·exact .inr z
   ·rw [e] at z
    by_cases l:m<=j
    ·by_cases em:m=j
     ·exact .inl em
     ·refine .inr (.one ?_)
      unfold qw Ph;rw [ex,ey,decide_eq_true (show m<j by (clear z e ex tk ey;omega))];simp [e]
    ·have:=gQ ws y.1 (j+1) (m - (j+1))
     rw [show j+1+(m - (j+1))=m by (clear this z e ex tk ey;omega)] at this;have t:ws.take (j+1)=ws.take j++[y]:=by rw [List.take_add_one,ey];rfl
     rw [t,d8,if_pos rfl] at this;omega
  ·rintro (z|z)
   ·subst z
    rw [e];exact .inr (by (clear tk ey e ex;omega))
   ·exact .inl z
 ·rw [if_neg e]
  constructor
  ·rintro (z|z)
   ·exact .inr z
   ·have:=iu (ws.take m) x.1;(clear e ex tk ey;omega)
  ·rintro (z|z)
   ·subst z
    rw [ex] at ey;cases ey;exact absurd rfl e
   ·exact .inl z
def jw (H:Hp) (kn:Addr) (ws:List bC) (n:Nat):Prop:=∃rs:List Addr,H kn=some (.lst (rs.map V.ref))/\rs.length=n /\ ∀j r,rs[j]? = some r -> ∃g,iw H r g/\mU ws j g
theorem jw.same {H H':Hp} {kn:Addr} {ws:List bC} {n:Nat} (h:jw H kn ws n) (k:Same H H'):jw H' kn ws n:=by
 obtain ⟨rs,e,l,q⟩:=h;refine ⟨rs,k _ _ e,l,fun j r hj=> ?_⟩;obtain ⟨g,a,b⟩:=q j r hj;exact ⟨g,a.same k,b⟩
theorem jw.kp {H H':Hp} {kn r:Addr} {ys:List V} {ws:List bC} {n:Nat} (h:jw H kn ws n) (k:Kp r H H') (hr:H r=some (.lst ys)) (ne:kn≠r):jw H' kn ws n:=by
 obtain ⟨rs,e,l,q⟩:=h;refine ⟨rs,k _ _ e ne,l,fun j r' hj=> ?_⟩;obtain ⟨g,a,b⟩:=q j r' hj;obtain ⟨hs,e',_⟩:=a.ex;exact ⟨g,a.kp k (qz e' hr (by intro z;cases z)),b⟩
noncomputable def cj (ws:List bC) (j i:Nat):List Nat:=((List.range i).map fun t=>j - 1 - t).filter fun e=>decide (Bare ws j e)
theorem ux (ws:List bC) (j i:Nat):cj ws j (i+1)=cj ws j i++(if Bare ws j (j - 1 - i) then [j - 1 - i] else []):=by
 unfold cj;rw [List.range_succ,List.map_append,List.filter_append];congr 1
 by_cases h:Bare ws j (j - 1 - i)<;>simp [h]
theorem ju (ws:List bC) (j i:Nat):(cj ws j i).length<=i:=by
 unfold cj;exact Nat.le_trans (List.length_filter_le _ _) (by simp)
def dz (l:List Nat):List V:=l.map fun n:Nat=>V.int (n:Int)
def Al (K:PySem.W.Frag):Sp:=fun vs H Q _=>∃(a nd kn:Addr) (ws:List bC) (j:Nat),vs=[.ref a,.ref nd,.ref kn,.int j]/\gU H a ws/\jZ H nd (nm ws)/\jw H kn ws j/\j<ws.length/\ws.length<=300/\(∀x∈ws,0<=x.1/\x.1<8) /\
 ∀(p b d:Addr) (g:Int->Int) (H':Hp),H' p=some (.tup [.ref b,.ref d])->H' b=some (.lst (dz (cj ws j j)))->iw H' d g->mU ws j g->H b=none->H d=none->H p=none->Same H H'->Q (.ref p) H'
theorem Jl {H:Hp} {d:Addr} (h:H d=some (.dK [])):iw H d fun _=>0:=⟨⟨[],h,List.nodup_nil,fun _ z=>absurd z (by simp),fun _ _=>rfl⟩,fun _=>Int.le_refl _⟩
theorem Mh {f:Addr} {fd:FuncData} (F:j4 K "bare_steps" "bare_steps" cN f fd) (Gu:FnAt P w K mg base 2 "is_step" ["web","place","later"] (Ah K)) (Cv:FnAt P w K mg base 1 "is_known" ["name","known"] (vX K)) (Ei:FnAt P w K mg base 1 "learn" ["known","more"] (vW K)) (Bt:qL mg):cJ P w K mg base jf 3 f fd ["web","named","knowns","place"] (Al K):=by
 refine F.ok gJ (fun vs H Q E h=> ?_) (fun cdv A outer s H vs Q E hr h=> ?_)
 ·obtain ⟨a,nd,kn,ws,j,rfl,_⟩:=h
  rfl
 ·obtain ⟨a,nd,kn,ws,j,rfl,W,N,Kn,jl,wl,Oh,k⟩:=h
  have hu:=DN hr
  refine ⟨_,(aC (aR (i:=4) gJ.nd rfl (Or.inl rfl) (bT aq))
   (aC (aR (i:=5) gJ.nd rfl (Or.inl rfl) yt)
   (aC (gA PassesOwn.never rfl (vf (by rfl) Bt.eF (aj (aY Bb (pv 3) aD) (aj (yr rW aD) (aj (yr rW aD) aq)))) (aU (i:=6) gJ.nd rfl (Or.inl rfl))
   (aG (dF (PW.pt (wz (g_ (bF Gu (hr.mono (by decide)) (by rfl) (aj (pv 0) (aj (pv 6) (aj (pv 3) aq))))) (rm (jN (g_ (bF Cv (hr.mono (by decide)) (by rfl) (aj (aM (aL (K:=K) rfl) (pv 1) (pv 6) (fun _ _=>rfl)) (aj (pv 5) aq)))))))) (aC (cV (dg (K:=K) rfl (pv 4) (aj (pv 6) aq)))
   (aG (cV (bF Ei (hr.mono (by decide)) (by rfl) (aj (pv 5) (aj (aM (aL (K:=K) rfl) (pv 2) (pv 6) (fun _ _=>rfl)) aq)))))) bW)))
   (aC (cV (bF Ei (hr.mono (by decide)) (by rfl) (aj (pv 5) (aj (Ls (HY (aM (bA (K:=K) rfl) (aM (aL (K:=K) rfl) (pv 1) (pv 3) (fun _ _=>rfl)) aD (fun _ _=>rfl)) (aY fB (aM (bA (K:=K) rfl) (aM (aL (K:=K) rfl) (pv 1) (pv 3) (fun _ _=>rfl)) aD (fun _ _=>rfl)) aD) Lh) rfl rfl (by simp) (by decide)) aq))))
   (aG (aX (jh (aj (pv 4) (aj (pv 5) aq))))))))), ?_⟩
  refine ⟨(by show 0<=sizeLine;decide),fun b hb=> ?_⟩;have s1:=aF (o:=HO.lst []) hb;intro d hd;have s2:=aF (o:=HO.dK []) hd;have s12:=s1.trans s2;have hd0:H d=none:=s1.free hd;have yJ:b≠d:=au ao hd;refine ⟨_,rfl,_,_,rfl,rfl,_,rfl,_,rfl,(j:Int) - 1, -1,rfl,⟨by (clear yJ hd0 hd hb hu wl jl;omega),by (clear yJ hd0 hd hb hu;omega),by (clear yJ hd0 hd hb hu wl jl;omega),by (clear yJ hd0 hd hb hu wl jl;omega)⟩, ?_⟩;have en:((j:Int) - 1 - (-1)).toNat=j:=by (clear yJ hd0 hd hb hu wl jl;omega)
  rw [en]
  refine tX (hi:=(j:Int) - 1) (n:=j) (fun i σ H2=>∃(x1:Option V) (g:Int->Int),σ=[some (.ref a),some (.ref nd),some (.ref kn),some (.int j),some (.ref b),some (.ref d),x1]/\Same H H2/\H2 b=some (.lst (dz (cj ws j i)))/\iw H2 d g/\Ny ws g (Ek ws j (j - i)) /\ ∀h,g h<=cnt (ws.take j) h)
   ⟨none,fun _=>0,rfl,s12,s2 _ _ (by rw [ao];rfl),Jl ao,⟨fun m x ex=>⟨fun z=> ?_,fun ⟨x,x1,x2,_⟩=> ?_⟩,fun h=>iu _ _⟩⟩ ?_ ?_
  ·have:=iu (ws.take m) x.1
   have z:cnt (ws.take m) x.1<0:=z;omega
  ·have:=(pF x2).1
   omega
  ·rintro i σ H2 hi ⟨x1,g,rfl,sm,hb2,kd,kp,bd⟩
   have ee:(j:Int) - 1 - (i:Int)=((j - 1 - i:Nat):Int):=by (clear hb2 en yJ hd0 hd hb hu wl jl;omega)
   rw [ee];have bs:=ux ws j i;have bl:=ju ws j i;generalize he:j - 1 - i=e at bs;have el:e<ws.length:=by (clear bs bl ee hb2 hi en yJ hd0 hd hb hu wl;omega)
   have e1:j - i=e+1:=by (clear el bs bl ee hb2 en yJ hd0 hd hb hu wl jl;omega)
   have e2:j - (i+1)=e:=by (clear e1 el bs bl ee hb2 hi en yJ hd0 hd hb hu wl jl;omega)
   rw [e1] at kp;rw [e2];obtain ⟨x,ex⟩:∃x,ws[e]? = some x:=⟨ws[e],by simp [el]⟩;refine ⟨_,rfl,_,rfl,_,rfl,a,ws,e,j,rfl,W.same sm,el,jl,_,rfl, ?_⟩
   by_cases st:qw ws e j=true
   ·rw [st]
    refine iW ?_;obtain ⟨ns,t,hn,en,ht⟩:=Ay (N.same sm) (Bo ex);refine ⟨_,rfl,_,rfl,_,_,_,_,rfl,rfl,bf.of hn,bB en,_,rfl,t,d,_,_,g,rfl,ht,kd,_,rfl, ?_⟩;have kx:=kp e x ex
    by_cases kk:Ek ws j (e+1) e
    ·rw [decide_eq_true (kx.mpr kk)]
     refine gB ?_;have nb:¬Bare ws j e:=fun z=>z.2 kk;rw [if_neg nb,List.append_nil] at bs;exact ⟨_,g,rfl,sm,by rw [bs];exact hb2,kd,kp.iff fun m=>Gf kk,bd⟩
    ·rw [decide_eq_false (fun z=>kk (kx.mp z))]
     refine iW ?_;have nb:Bare ws j e:=⟨st,kk⟩;rw [if_pos nb] at bs;refine ⟨_,rfl,.inl ⟨rfl,_,bf.of hb2⟩,_,rfl,b,_,_,rfl,rfl,hb2,by rw [dz,List.length_map,sizeLine_eq];(clear kk kx ht en hn st ex e2 e1 el bs he ee hb2 yJ hd0 hd hb hu;omega), ?_⟩;have k3:Kp b H2 (upd H2 b (.lst (dz (cj ws j i)++[V.int (e:Int)]))):=Kp.set;obtain ⟨rs,hk,rl,rq⟩:=id (Kn.same sm);have er:e<rs.length:=by (clear hk kk kx ht en hn st ex e2 e1 el bs bl ee hb2 yJ hd0 hd hb hu wl jl;omega)
     obtain ⟨r,err⟩:∃r,rs[e]? = some r:=⟨rs[e],by simp [er]⟩;obtain ⟨ge,kde,kne⟩:=rq e r err
     have S9:kn≠b:=by
      obtain ⟨_,hk0,_⟩:=Kn;exact au hk0 hb
     obtain ⟨_,QJ,_⟩:=kde.ex;have Zv:r≠b:=qz QJ hb2 (by intro z;cases z)
     have Zu:d≠r:=by
      obtain ⟨rs0,hk0,_,rq0⟩:=Kn
      have er0:rs=rs0:=by
       have:=(sm _ _ hk0).symm.trans hk;injection this with this
       injection this with this
       exact (List.map_inj_right (fun x y e=>by injection e)).mp this.symm
      subst er0;obtain ⟨g0,kd0,_⟩:=rq0 e r err;obtain ⟨_,h0,_⟩:=kd0.ex;exact (au h0 hd0).symm
     have hk3:=k3 _ _ hk S9;have kd3:=kd.kp k3 yJ.symm;have Z_:=kde.kp k3 Zv;refine ⟨_,rfl,_,rfl,_,rfl,_,_,_,_,rfl,rfl,bf.of hk3,bB (by rw [List.getElem?_map,err];rfl),d,r,g,ge,rfl,kd3,Z_,Zu,fun H4 kd4 k4=> ?_⟩;refine ⟨_,_,rfl,fun y u hy=>k4 _ _ (k3 _ _ (sm _ _ hy) (au hy hb)) (au hy hd0), ?_,kd4, ?_,fun h=> ?_⟩
     ·have:=k4 _ _ (ao (H:=H2) (a:=b) (o:= .lst (dz (cj ws j i)++[V.int (e:Int)]))) yJ
      rw [this,bs];unfold dz;rw [List.map_append];rfl
     ·exact (Mw kp kne.1).iff fun m=>Eb st
     ·have b1:=bd h
      have b2:=kne.2 h;have b3:=gQ ws h (e+1) (j - (e+1));rw [show e+1+(j - (e+1))=j by (clear b3 b2 b1 hk3 Zu Zv QJ S9 err er rl hk kk kx ht en hn st ex e2 e1 el bs bl ee hb2 yJ hd0 hd hb hu wl jl;omega)] at b3;show mx _ _<=_;unfold mx;split<;>(clear hk3 Zu Zv QJ S9 err er rl hk kk kx ht en hn st ex e2 e1 el bs he bl ee hb2 hi yJ hd0 hd hb hu wl jl;omega)
   ·have st':qw ws e j=false:=by simpa using st
    rw [st'];refine gB ?_;have nb:¬Bare ws j e:=fun z=>st z.1;rw [if_neg nb,List.append_nil] at bs;exact ⟨_,g,rfl,sm,by rw [bs];exact hb2,kd,kp.iff fun m=>zE st,bd⟩
  ·rintro σ H2 ⟨x1,g,rfl,sm,hb2,kd,kp,bd⟩
   rw [Nat.sub_self] at kp;obtain ⟨y,ey⟩:∃y,ws[j]? = some y:=⟨ws[j],by simp [jl]⟩;obtain ⟨y0,y1⟩:=Oh y (List.mem_of_getElem? ey);obtain ⟨ns,t,hn,en,ht⟩:=Ay (N.same sm) (Bo ey);refine ⟨_,rfl,fun m hm=> ?_⟩;have s3:=aF (o:=HO.dK []) hm;refine ⟨_,rfl,_,rfl,_,_,_,_,rfl,rfl,bf.of (s3 _ _ hn),bB en,_,_,_,_,rfl,rfl,dZ.of (s3 _ _ ht),rfl,_,rfl,_,rfl,_,_,_,_,rfl,rfl,bf.of (s3 _ _ hn),bB en,_,_,_,_,rfl,rfl,dZ.of (s3 _ _ ht),rfl,_,_,rfl,rfl,ao,[(Sum.inl y.1,V.int (cnt (ws.take j) y.1+1))],rfl,by show 1<=15;decide, ?_⟩
   have e1:upd (upd H2 m (.dK [])) m (.dK (pR [] [(Sum.inl y.1,V.int (cnt (ws.take j) y.1+1))]))=upd H2 m (.dK (uR [y.1] fun x=>if x=y.1 then cnt (ws.take j) y.1+1 else 0)):=by
    rw [Kw];congr 2;show [(Sum.inl y.1,V.int (cnt (ws.take j) y.1+1))]=_;simp [uR]
   rw [e1];have s4:Same H2 (upd H2 m (.dK (uR [y.1] fun x=>if x=y.1 then cnt (ws.take j) y.1+1 else 0))):=aF hm
   have hmd:d≠m:=by
    obtain ⟨_,h,_⟩:=kd.ex;exact au h hm
   have kdm:iw (upd H2 m (.dK (uR [y.1] fun x=>if x=y.1 then cnt (ws.take j) y.1+1 else 0))) m (fun x=>if x=y.1 then cnt (ws.take j) y.1+1 else 0):=by
    refine ⟨⟨[y.1],ao,by simp,fun h hh=> ?_,fun h hh=> ?_⟩,fun h=> ?_⟩
    ·have:h=y.1:=by simpa using hh
     subst this;exact ⟨y0,y1⟩
    ·have:h≠y.1:=by simpa using hh
     rw [if_neg this]
    ·have:=iu (ws.take j) y.1
     show (0:Int)<=if h=y.1 then _ else 0;split<;>(clear hmd e1 hm ht en hn y1 y0 ey hb2 yJ hd0 hd hb hu wl jl;omega)
   refine ⟨d,m,g,_,rfl,kd.same s4,kdm,hmd,fun H5 kd5 k5=> ?_⟩;have hb5:H5 b=some (.lst (dz (cj ws j j))):=k5 _ _ (s4 _ _ hb2) yJ;refine ⟨_,rfl,_,rfl,(by show 2<=sizeLine;decide),fun p hp=> ?_⟩;have s6:=aF (o:=HO.tup [V.ref b,V.ref d]) hp;have s05:Same H H5:=fun y u hy=>k5 _ _ (s4 _ _ (sm _ _ hy)) (au hy hd0);exact k p b d _ _ ao (s6 _ _ hb5) (kd5.same s6) (Mv (kp.iff fun m=>Ea) bd ey) hb hd0 (s05.free hp) (s05.trans s6)
def nK (x:Nt):List Int:=[x.1,x.2.1,x.2.2.1,x.2.2.2]
theorem Qm (x:Nt):(nK x).map V.int=nV x:=rfl
theorem Qn {x y:Nt} (h:nK x=nK y):x=y:=by
 obtain ⟨a,b,c,d⟩:=x;obtain ⟨a',b',c',d'⟩:=y;simp only [nK,List.cons.injEq,and_true] at h;obtain ⟨rfl,rfl,rfl,rfl⟩:=h;rfl
def uE (ns:List Nt):Prop:=ns.Pairwise fun x y=>Tim.gP (nK y) (nK x)=false
theorem lU:∀{a b:List Nt},a.Perm b->uE a->uE b->a=b
 | [],_,p,_,_=>p.nil_eq
 | x::r,b,p,ha,hb=>by
   cases b with
   | nil=>exact absurd p.length_eq (by simp)
   | cons y t=>
     have hx:x∈y::t:=p.mem_iff.mp (.head _);have hy:y∈x::r:=p.mem_iff.mpr (.head _)
     have e:x=y:=by
      rcases List.mem_cons.mp hx with h|h
      ·exact h
      ·rcases List.mem_cons.mp hy with h'|h'
       ·exact h'.symm
       ·exact Qn (Tim.yQ _ _ ((List.pairwise_cons.mp hb).1 x h) ((List.pairwise_cons.mp ha).1 y h'))
     subst e;rw [lU (List.perm_cons _ |>.mp p) (List.pairwise_cons.mp ha).2 (List.pairwise_cons.mp hb).2]
def vInt:V->Int
 | .int n=>n
 | _=>0
def tupK (H:Hp) (v:V):List Int:=match v with
 | .ref t=>match H t with
   | some (.tup xs)=>xs.map vInt
   | _=>[]
 | _=>[]
def toN:List Int->Nt
 | [a,b,c,d]=>(a,b,c,d)
 | _=>(0,0,0,0)
theorem lH {H:Hp} {t:Addr} {x:Nt} (h:H t=some (.tup (nV x))):tupK H (.ref t)=nK x:=by
 unfold tupK;dsimp only;rw [h];rfl
theorem G8 (x:Nt):toN (nK x)=x:=rfl
theorem Dr {H:Hp} {vs:List V} {ns:List Nt} (d:aJ H vs (ns.map nD)) {v:V} (hv:v∈vs):∃t x,v = .ref t/\x∈ns/\H t=some (.tup (nV x)):=by
 obtain ⟨i,hi,e⟩:=List.getElem_of_mem hv;obtain ⟨x,t,ex,ev,ht⟩:=rB d (i:=i) (v:=v) (by rw [List.getElem?_eq_getElem hi,e]);exact ⟨t,x,ev,List.mem_of_getElem? ex,ht⟩
theorem Ds {H:Hp}:∀{vs:List V} {ns:List Nt},aJ H vs (ns.map nD)->vs.map (fun v=>toN (tupK H v))=ns
 | [],[],_=>rfl
 | [],_::_,h=>by simp only [List.map_cons,aJ] at h
 | _::_,[],h=>by simp only [List.map_nil,aJ] at h
 | v::vs,n::ns,h=>by
   simp only [List.map_cons,aJ] at h;obtain ⟨t,rfl,ht⟩:=uc h.1;rw [List.map_cons,Ds h.2,lH ht,G8]
theorem IW {H:Hp}:∀{vs:List V},(∀v∈vs,∃t x,v=V.ref t/\H t=some (.tup (nV x)))->aJ H vs ((vs.map fun v=>toN (tupK H v)).map nD)
 | [],_=>by simp [aJ]
 | v::vs,h=>by
   obtain ⟨t,x,rfl,ht⟩:=h v (.head _);simp only [List.map_cons,aJ];exact ⟨by rw [lH ht,G8];exact BZ ht,IW fun v hv=>h v (.tail _ hv)⟩
theorem oE {K:PySem.W.Frag} {H:Hp} {p:Addr} {ns:List Nt} {Q:VK} (N:d9 H p ns) (k:∀l ns' H',H l=none->d9 H' l ns'->ns'.Perm ns->uE ns'->Same H H'->Q (.ref l) H'):Ax K [.ref p] H Q:=by
 obtain ⟨ys,hp,d⟩:=N;refine ⟨p,ys,4,tupK H,rfl,bf.of hp,by decide,fun y hy=> ?_,fun l zs hl pz sz=> ?_⟩
 ·obtain ⟨t,x,rfl,_,ht⟩:=Dr d hy
  exact ⟨t,rfl,by rw [lH ht,Qm];exact dZ.of ht,by rw [lH ht];rfl⟩
 ·have sm:=aF (o:=HO.lst zs) hl
  have all:∀v∈zs,∃t x,v=V.ref t/\H t=some (.tup (nV x)):=fun v hv=>by
   obtain ⟨t,x,e,_,ht⟩:=Dr d (pz.mem_iff.mp hv);exact ⟨t,x,e,ht⟩
  refine k l (zs.map fun v=>toN (tupK H v)) _ hl ⟨zs,ao,aJ.keep sm.tups _ (bH _ gC _) (IW all)⟩ ?_ ?_ sm
  ·rw [←Ds d]
   exact pz.map _
  ·unfold uE
   rw [List.pairwise_map];refine List.Pairwise.imp_of_mem (fun {x y} hx hy h=> ?_) sz;obtain ⟨t,a,rfl,ht⟩:=all x hx;obtain ⟨u,b,rfl,hu⟩:=all y hy;rw [lH ht,lH hu] at h ⊢;exact h
def iR (ws:List bC) (i j:Nat):Nt:=(hnd ws i,cnt (ws.take i) (hnd ws i),hnd ws j,cnt (ws.take j) (hnd ws j))
def bx (ws:List bC) (j:Nat) (l:List Nat):List Nt:=(l.filter fun e=>decide (¬hnd ws e=hnd ws j)).map fun e=>iR ws e j
def pI (K:PySem.W.Frag):Sp:=fun vs H Q _=>∃(nd b t:Addr) (ws:List bC) (j:Nat) (l:List Nat),vs=[.ref nd,.ref b,.ref t]/\jZ H nd (nm ws)/\H b=some (.lst (dz l))/\H t=some (.tup [.int (hnd ws j),.int (cnt (ws.take j) (hnd ws j))])/\(∀e∈l,e<ws.length)/\l.length<=300 /\
 ∀(r:Addr) (H':Hp),H r=none->d9 H' r (bx ws j l)->Same H H'->Q (.ref r) H'
theorem QW {α β:Type} (l:List α) (f:α->Option β):(List.range l.length).filterMap (fun i=>(l[i]?).bind f)=l.filterMap f:=by
 induction l with
 | nil=>rfl
 | cons x l ih=>
   rw [List.length_cons,List.range_succ_eq_map,List.filterMap_cons,List.filterMap_map,List.filterMap_cons];have e:List.filterMap ((fun i=>((x::l)[i]?).bind f)∘Nat.succ) (List.range l.length)=l.filterMap f:=by rw [←ih];rfl
   rw [e];rfl
theorem Bl (ws:List bC) (j:Nat) (l:List Nat):(l.filterMap fun e=>if hnd ws e=hnd ws j then none else some (nD (iR ws e j)))=(bx ws j l).map nD:=by
 unfold bx
 induction l with
 | nil=>rfl
 | cons e l ih=>
   rw [List.filterMap_cons,List.filter_cons]
   by_cases h:hnd ws e=hnd ws j
   ·rw [if_pos h]
    simp only [h,not_true_eq_false,decide_false,Bool.false_eq_true,if_false];exact ih
   ·rw [if_neg h]
    simp only [h,not_false_eq_true,decide_true,if_true,List.map_cons];rw [ih]
theorem Bg {f:Addr} {fd:FuncData} (F:j4 K "notes_to" "notes_to" dG f fd):cJ P w K mg base jf 1 f fd ["named","bare","name"] (pI K):=by
 refine F.ok xX (fun vs H Q E h=> ?_) (fun cdv A outer s H vs Q E hr h=> ?_)
 ·obtain ⟨nd,b,t,ws,j,l,rfl,_⟩:=h
  rfl
 ·obtain ⟨nd,b,t,ws,j,l,rfl,N,hb,ht,el,ll,k⟩:=h
  refine ⟨_,(aG (aX (gK rfl (N:=["earlier","name","named"]) (own:=["earlier"]) (caps:=[2,0]) (aW.of (by kernel_rfl)) (eV (K:=K) rfl (pv 1)) (fun _ _ _ _=>(aU (i:=0) (show List.Nodup (["earlier","name","named"]:List Str) by decide +kernel) rfl (Or.inl rfl))) (fun _ _ _ _=>(K9 (bZ mX (aM (bA (K:=K) rfl) (aM (aL (K:=K) rfl) (pv 2) (pv 0) (fun _ _=>rfl)) aD (fun _ _=>rfl)) (aM (bA (K:=K) rfl) (pv 1) aD (fun _ _=>rfl)) (bK _)))) (fun _ _ _ _=>(aY (Io (K:=K) rfl) (aM (aL (K:=K) rfl) (pv 2) (pv 0) (fun _ _=>rfl)) (pv 1)))))), ?_⟩;have il:(dz l).length=l.length:=by rw [dz,List.length_map]
  refine ⟨_,rfl,b,rfl,⟨_,bf.of hb⟩,fun D hD=> ?_⟩;refine Gi (K:=K) (xs:=dz l) (fun i=>(l[i]?).bind fun e=>if hnd ws e=hnd ws j then none else some (nD (iR ws e j))) (fun i d h=> ?_) hD (bf.of hb) (by (clear hD ht hb;omega)) (fun i x H2 G F hi s2 kG kF=> ?_) (fun H2 vs s2 e2 d2=> ?_)
  ·cases e:l[i]? with
   | none=>rw [e] at h;cases h
   | some z=>
     rw [e] at h;simp only [Option.bind_some] at h;split at h
     ·cases h
     ·cases h;rfl
  ·unfold dz at hi
   rw [List.getElem?_map] at hi;cases e:l[i]? with
   | none=>rw [e] at hi;cases hi
   | some z=>
     rw [e] at hi;cases hi;have zl:=el z (List.mem_of_getElem? e);obtain ⟨x,ex⟩:∃x,ws[z]? = some x:=⟨ws[z],by simp [zl]⟩;have hx:=pY ex;obtain ⟨ns,tz,hn,en,htz⟩:=Ay (N.same s2) (Bo ex);rw [←hx] at htz;refine ⟨_,rfl,_,rfl,_,_,_,_,rfl,rfl,bf.of hn,bB en,_,_,_,_,rfl,rfl,dZ.of htz,rfl,_,rfl,_,_,_,_,rfl,rfl,dZ.of (s2 _ _ ht),rfl,rfl,_,rfl, ?_⟩
     by_cases eh:hnd ws z=hnd ws j
     ·rw [show (!decide (V.int (hnd ws z)=V.int (hnd ws j)))=false by simp [eh]]
      refine gB ?_;exact kG _ (Same.refl _) (by rw [e];simp [eh])
     ·rw [show (!decide (V.int (hnd ws z)=V.int (hnd ws j)))=true by simp [eh]]
      refine iW ?_;refine ⟨_,rfl,_,rfl,_,_,_,_,rfl,rfl,bf.of hn,bB en,_,rfl,tz,t,_,_,rfl,rfl,dZ.of htz,dZ.of (s2 _ _ ht),by simp,by show 4<=sizeLine;decide,fun z=>absurd z (by simp),fun _ p hp=> ?_⟩;exact kF _ (nD (iR ws z j)) _ (aF hp) (by rw [e];simp [eh]) (BZ (x:=iR ws z j) (by rw [ao];rfl))
  ·rw [il,QW,Bl] at d2
   exact k D H2 hD ⟨vs,e2,d2⟩ s2
noncomputable def iG (ws:List bC) (n:Nat):List Nt:=(List.range n).flatMap fun j=>bx ws j (cj ws j j)
theorem mG (ws:List bC) (n:Nat):iG ws (n+1)=iG ws n++bx ws n (cj ws n n):=by
 unfold iG;rw [List.range_succ,List.flatMap_append];simp
theorem i_ (ws:List bC) (j:Nat) (l:List Nat):(bx ws j l).length<=l.length:=by
 unfold bx;rw [List.length_map];exact List.length_filter_le _ _
theorem lC (ws:List bC):∀n,(iG ws n).length<=n*n
 | 0=>Nat.le_refl _
 | n+1=>by
   rw [mG,List.length_append];have h1:=lC ws n;have h2:=Nat.le_trans (i_ ws n (cj ws n n)) (ju ws n n);have:(n+1)*(n+1)=n*n+n+n+1:=by rw [Nat.add_mul,Nat.mul_add];(clear h2 h1;omega)
   omega
theorem J5 {ws:List bC} {j i e:Nat} (h:e∈cj ws j i):e<j\/j=0:=by
 unfold cj at h;obtain ⟨h1,_⟩:=List.mem_filter.mp h;obtain ⟨t,_,rfl⟩:=List.mem_map.mp h1;omega
def nG (ws:List bC) (hn:Nat) (row:List Int) (R:Nat->Prop) (B:Nat):Prop:=row.length=hn/\(∀m x,ws[m]? = some x->(cnt (ws.take m) x.1<gI row x.1↔R m)) /\ ∀h:Nat,0<=gI row (h:Int)/\gI row (h:Int)<=cnt (ws.take B) (h:Int)
theorem nG.mono {ws:List bC} {hn:Nat} {row:List Int} {R:Nat->Prop} {B B':Nat} (h:nG ws hn row R B) (l:B<=B'):nG ws hn row R B':=⟨h.1,h.2.1,fun x=>⟨(h.2.2 x).1,by
 have:=gQ ws (x:Int) B (B' - B);rw [show B+(B' - B)=B' by omega] at this;exact Int.le_trans (h.2.2 x).2 this⟩⟩
def bL (H:Hp) (t:Addr) (ex:List Addr) (n:Nat) (C:Hp->Nat->Addr->Prop):Prop:=∃rs:List Addr,H t=some (.lst (rs.map V.ref))/\rs.length=n /\ ∀j r,rs[j]? = some r->(∀e∈ex,r≠e)/\C H j r
def RowC (ws:List bC) (hn:Nat):Hp->Nat->Addr->Prop:=fun H j r=>∃a:List Int,H r=some (.lst (a.map V.int))/\nG ws hn a (fun m=>m=j\/qY ws j m) (j+1)
def RD (ws:List bC):Hp->Nat->Addr->Prop:=fun H j r=>∃ns:List Nt,d9 H r ns/\ns.Perm (bx ws j (cj ws j j))/\uE ns
def Keeps (C:Hp->Nat->Addr->Prop):Prop:=∀(H H':Hp) (j:Nat) (r:Addr),C H j r->(∃o,H r=some o)/\((∀a xs,H a=some (HO.tup xs)->H' a=some (HO.tup xs))->(∀o,H r=some o->H' r=some o)->C H' j r)
theorem iJ (ws:List bC) (hn:Nat):Keeps (RowC ws hn):=fun H H' j r ⟨a,h,q⟩=>⟨⟨_,h⟩,fun _ k=>⟨a,k _ h,q⟩⟩
theorem jq (ws:List bC):Keeps (RD ws):=fun H H' j r ⟨ns,⟨vs,h,d⟩,q⟩=>⟨⟨_,h⟩,fun t k=>⟨ns,⟨vs,k _ h,aJ.keep t _ (bH _ gC ns) d⟩,q⟩⟩
theorem bL.same {H H':Hp} {t:Addr} {ex:List Addr} {n:Nat} {C:Hp->Nat->Addr->Prop} (kc:Keeps C) (h:bL H t ex n C) (k:Same H H'):bL H' t ex n C:=by
 obtain ⟨rs,e,l,q⟩:=h;exact ⟨rs,k _ _ e,l,fun j r hj=>⟨(q j r hj).1,((kc H H' j r (q j r hj).2).2 k.tups fun o ho=>k _ _ ho)⟩⟩
theorem bL.kp {H H':Hp} {t x:Addr} {ys:List V} {ex:List Addr} {n:Nat} {C:Hp->Nat->Addr->Prop} (kc:Keeps C) (h:bL H t ex n C) (k:Kp x H H') (hx:H x=some (.lst ys)) (ne:t≠x) (m:x∈ex):bL H' t ex n C:=by
 obtain ⟨rs,e,l,q⟩:=h;exact ⟨rs,k _ _ e ne,l,fun j r hj=>⟨(q j r hj).1,((kc H H' j r (q j r hj).2).2 (k.tups hx) fun o ho=>k _ _ ho ((q j r hj).1 x m))⟩⟩
theorem bL.move {H2 H':Hp} {t:Addr} {ex:List Addr} {n:Nat} {C:Hp->Nat->Addr->Prop} (kc:Keeps C) (h:bL H2 t ex n C) (W:List Addr) (k:∀b o,H2 b=some o->b∉W->H' b=some o) (tw:t∉W) (hw:∀x∈W,x∈ex\/H2 x=none) (tp:∀a xs,H2 a=some (HO.tup xs)->H' a=some (HO.tup xs)):bL H' t ex n C:=by
 obtain ⟨rs,e,l,q⟩:=h;refine ⟨rs,k _ _ e tw,l,fun j r hj=>⟨(q j r hj).1, ?_⟩⟩;have c:=(q j r hj).2;refine (kc H2 H' j r c).2 tp fun o ho=>k _ _ ho fun m=> ?_;rcases hw r m with z|z
 ·exact (q j r hj).1 r z rfl
 ·rw [ho] at z;cases z
theorem bL.push {H:Hp} {t r:Addr} {ex:List Addr} {n:Nat} {C:Hp->Nat->Addr->Prop} (kc:Keeps C) (h:bL H t ex n C) (te:t∈ex) (re:∀e∈ex,r≠e) (c:C H n r):∃rs:List Addr,H t=some (.lst (rs.map V.ref))/\rs.length=n/\bL (upd H t (.lst (rs.map V.ref++[V.ref r]))) t ex (n+1) C:=by
 obtain ⟨rs,e,l,q⟩:=h;have k:Kp t H (upd H t (.lst (rs.map V.ref++[V.ref r]))):=Kp.set;have mv:∀j r',(∀e∈ex,r'≠e)->C H j r'->C (upd H t (.lst (rs.map V.ref++[V.ref r]))) j r':=fun j r' x c=>(kc _ _ j r' c).2 (k.tups e) fun o ho=>k _ _ ho (x t te);refine ⟨rs,e,l,rs++[r],by rw [ao,List.map_append];rfl,by simp [l],fun j r' hj=> ?_⟩
 by_cases hl:j<rs.length
 ·rw [List.getElem?_append_left hl] at hj
  exact ⟨(q j r' hj).1,mv _ _ (q j r' hj).1 (q j r' hj).2⟩
 ·have h2:=(List.getElem?_eq_some_iff.mp hj).1
  rw [List.length_append,List.length_singleton] at h2;have em:j=rs.length:=by (clear hj l e;omega)
  subst em;rw [List.getElem?_append_right (Nat.le_refl _)] at hj;simp at hj;subst hj;rw [l];exact ⟨re,mv _ _ re c⟩
def Mr (hn:Nat) (a b:List Int):List Int:=(List.range hn).map fun h:Nat=>mx (gI a (h:Int)) (gI b (h:Int))
theorem Jy {hn:Nat} {a b:List Int} {h:Int} (h0:0<=h) (h1:h<hn):gI (Mr hn a b) h=mx (gI a h) (gI b h):=by
 obtain ⟨m,rfl⟩:=Int.eq_ofNat_of_zero_le h0;have hm:m<hn:=by (clear h0;omega)
 refine tW ?_;unfold Mr;rw [List.getElem?_map,List.getElem?_range hm];rfl
theorem Hv {ws:List bC} {hn B:Nat} {a b:List Int} {R S:Nat->Prop} (ok:∀x∈ws,0<=x.1/\x.1<(hn:Int)) (p:nG ws hn a R B) (q:nG ws hn b S B):nG ws hn (Mr hn a b) (fun m=>R m\/S m) B:=by
 refine ⟨by unfold Mr;simp,fun m x ex=> ?_,fun h=> ?_⟩
 ·obtain ⟨x0,x1⟩:=ok x (List.mem_of_getElem? ex)
  rw [Jy x0 x1,Jh,p.2.1 m x ex,q.2.1 m x ex]
 ·by_cases hl:h<hn
  ·rw [Jy (by omega) (by omega)]
   have p':=p.2.2 h;have q':=q.2.2 h;unfold mx;split<;>exact ⟨by omega,by omega⟩
  ·have e:gI (Mr hn a b) (h:Int)=0:=by
    unfold gI Mr;rw [Int.toNat_natCast,List.getElem?_eq_none (by simp;omega)];rfl
   rw [e];exact ⟨Int.le_refl _,iu _ _⟩
theorem nG.iff {ws:List bC} {hn B:Nat} {a:List Int} {R S:Nat->Prop} (h:nG ws hn a R B) (e:∀m,R m↔S m):nG ws hn a S B:=⟨h.1,fun m x ex=>(h.2.1 m x ex).trans (e m),h.2.2⟩
theorem Hw {ws:List bC} {hn j:Nat} {a:List Int} {y:bC} (ok:∀x∈ws,0<=x.1/\x.1<(hn:Int)) (p:nG ws hn a (qY ws j) j) (ey:ws[j]? = some y):nG ws hn (a.set y.1.toNat (cnt (ws.take j) y.1+1)) (fun m=>m=j\/qY ws j m) (j+1):=by
 obtain ⟨y0,y1⟩:=ok y (List.mem_of_getElem? ey);have al:=p.1;refine ⟨by simp [al],fun m x ex=> ?_,fun h=> ?_⟩
 rotate_left
 ·have t:ws.take (j+1)=ws.take j++[y]:=by rw [List.take_add_one,ey];rfl
  have ph:=p.2.2 h;have c0:=iu (ws.take j) y.1;rw [wR y0 (by omega) (by omega),t,d8]
  by_cases e:(h:Int)=y.1
  ·rw [if_pos e,if_pos e,e]
   exact ⟨by omega,by omega⟩
  ·rw [if_neg e,if_neg e]
   exact ph
 obtain ⟨x0,x1⟩:=ok x (List.mem_of_getElem? ex);rw [wR y0 (by (clear x1 x0 ex y0 ey;omega)) x0]
 by_cases e:x.1=y.1
 ·rw [if_pos e,e]
  by_cases l:m<=j
  ·have:=gQ ws y.1 m (j - m)
   rw [show m+(j - m)=j by (clear this e x1 x0 ex al y1 y0 ey;omega)] at this;refine ⟨fun _=> ?_,fun _=>by (clear l e x1 x0 ex al y1 y0 ey;omega)⟩
   by_cases em:m=j
   ·exact .inl em
   ·refine .inr (.one ?_)
    unfold qw Ph;rw [ex,ey,decide_eq_true (show m<j by (clear this e x1 x0 ex al y1 y0 ey;omega))];simp [e]
  ·have:=gQ ws y.1 (j+1) (m - (j+1))
   rw [show j+1+(m - (j+1))=m by (clear this e x1 x0 ex al y1 y0 ey;omega)] at this;have t:ws.take (j+1)=ws.take j++[y]:=by rw [List.take_add_one,ey];rfl
   rw [t,d8,if_pos rfl] at this;refine ⟨fun h=>by (clear t l e x1 x0 ex al y1 y0 ey;omega),fun h=> ?_⟩;rcases h with h|h
   · (clear t this e x1 x0 ex al y1 y0 ey;omega)
   ·have:=h.lt;(clear t e x1 x0 ex al y1 y0 ey;omega)
 ·rw [if_neg e,p.2.1 m x ex]
  constructor
  ·intro z;exact .inr z
  ·rintro (z|z)
   ·subst z
    rw [ex] at ey;cases ey;exact absurd rfl e
   ·exact z
theorem K3 (hn:Int):(List.replicate hn.toNat [V.int 0]).flatten=(List.replicate hn.toNat (0:Int)).map V.int:=by
 generalize hn.toNat=n
 induction n with
 | zero=>rfl
 | succ n ih=>rw [List.replicate_succ,List.flatten_cons,ih,List.replicate_succ,List.map_cons];rfl
theorem wU (n:Nat) (h:Int):gI (List.replicate n 0) h=0:=by unfold gI;rw [List.getElem?_replicate];split<;>rfl
def xO (ws:List bC) (n:Nat):List Int:=(List.range n).map fun i=>cnt (ws.take i) (hnd ws i)
theorem Ng {ws:List bC} {n i:Nat} (h:i<n):(xO ws n)[i]? = some (cnt (ws.take i) (hnd ws i)):=by
 unfold xO;rw [List.getElem?_map,List.getElem?_range h];rfl
theorem JN (ws:List bC) (n:Nat):xO ws (n+1)=xO ws n++[cnt (ws.take n) (hnd ws n)]:=by
 unfold xO;rw [List.range_succ,List.map_append];rfl
theorem qy (ws:List bC) (j:Nat) (l l':List Nat):bx ws j (l++l')=bx ws j l++bx ws j l':=by
 unfold bx;rw [List.filter_append,List.map_append]
def sE (K:PySem.W.Frag):Sp:=fun vs H Q _=>∃(a:Addr) (hn:Int) (ws:List bC),vs=[.ref a,.int hn]/\gU H a ws/\(∀x∈ws,lE hn x)/\1<=hn/\hn<=8/\ws.length<=300 /\
 ∀(p t1 t2:Addr) (H':Hp),H' p=some (.tup [.ref t1,.ref t2])->bL H' t1 [] ws.length (RowC ws hn.toNat)->bL H' t2 [] ws.length (RD ws)->H t1=none->H t2=none->Same H H'->Q (.ref p) H'
theorem bL.any {H:Hp} {t:Addr} {ex:List Addr} {n:Nat} {C:Hp->Nat->Addr->Prop} (h:bL H t ex n C):bL H t [] n C:=by
 obtain ⟨rs,e,l,q⟩:=h;exact ⟨rs,e,l,fun j r hj=>⟨fun _ z=>absurd z (by simp),(q j r hj).2⟩⟩
def Ry (a:Addr) (hn:Int) (rw' cl br mn:Addr) (x1 x2 x3 x4 x5 x6 x7 x8 x9 x10:Option V):St:=[some (.ref a),some (.int hn),some (.ref rw'),some (.ref cl),some (.ref br),some (.ref mn),x1,x2,x3,x4,x5,x6,x7,x8,x9,x10]
structure Vs (ws:List bC) (hn:Int) (H H2:Hp) (a rw' cl br mn:Addr) (j:Nat):Prop where
 sm:Same H H2
 rows:bL H2 rw' [rw',cl,br,mn] j (RowC ws hn.toNat)
 Wz:bL H2 br [rw',cl,br,mn] j (RD ws)
 called:H2 cl=some (.lst ((xO ws j).map V.int))
 many:∃ms:List Int,H2 mn=some (.lst (ms.map V.int))/\ms.length=hn.toNat /\ ∀h:Int,0<=h->h<hn->gI ms h=cnt (ws.take j) h
theorem MJ {c:Bool} {A B:Prop} (a:A) (b:¬c=true->A->B):if c=true then A else B:=by
 split
 ·exact a
 ·rename_i h
  exact b h a
theorem Fj {f:Addr} {fd:FuncData} (F:j4 K "_law_table" "_law_table" fU f fd) (Bt:qL mg):cJ P w K mg base jf 1 f fd ["touches","hands"] (sE K):=by
 refine F.ok bY (fun vs H Q E h=> ?_) (fun cdv A outer s H vs Q E hr h=> ?_)
 ·obtain ⟨a,hn,ws,rfl,_⟩:=h
  rfl
 ·obtain ⟨a,hn,ws,rfl,W,ok,hn0,hn1,wl,k⟩:=h
  obtain ⟨vs,ha,dv⟩:=id W;have dY:vs.length=ws.length:=by rw [dv.length,List.length_map]
  have Oh:∀x∈ws,0<=x.1/\x.1<((hn.toNat:Nat):Int):=fun x hx=>⟨(ok x hx).1.1,by have:=(ok x hx).1.2;(clear dY ha wl hn1 hn0;omega)⟩
  refine ⟨_,(aC (aR (i:=2) bY.nd rfl (Or.inl rfl) (bT aq))
   (aC (aR (i:=3) bY.nd rfl (Or.inl rfl) (bT aq))
   (aC (aR (i:=4) bY.nd rfl (Or.inl rfl) (bT aq))
   (aC (aR (i:=5) bY.nd rfl (Or.inl rfl) (aY wF (bT (aj aD aq)) (pv 1)))
   (aC (gA PassesOwn.never rfl (eV (K:=K) rfl (pv 0)) (lQ (K:=K) (n:=3) rfl rfl (cB (aU (i:=6) bY.nd rfl (Or.inl rfl)) (cB (aU (i:=7) bY.nd rfl (Or.inl rfl)) (cB (aU (i:=8) bY.nd rfl (Or.inl rfl)) lO))))
   (aC (aR (i:=9) bY.nd rfl (Or.inl rfl) (aY wF (bT (aj aD aq)) (pv 1)))
   (aC (aR (i:=10) bY.nd rfl (Or.inl rfl) (bT aq))
   (aC (gA PassesOwn.never rfl (vf (by rfl) Bt.eF (aj (aY Bb (aP (aV (K:=K) rfl) (by rfl) Bt.gn dU (aj (pv 2) aq)) aD) (aj (yr rW aD) (aj (yr rW aD) aq)))) (aU (i:=11) bY.nd rfl (Or.inl rfl))
   (aC (jg (aM (aL (K:=K) rfl) (pv 0) (pv 11) (fun _ _=>rfl)) (lQ (K:=K) (n:=3) rfl rfl (cB (aU (i:=12) bY.nd rfl (Or.inl rfl)) (cB (aU (i:=13) bY.nd rfl (Or.inl rfl)) (cB (aU (i:=14) bY.nd rfl (Or.inl rfl)) lO)))))
   (aC (aR (i:=15) bY.nd rfl (Or.inl rfl) (pO (eY mX (pv 12) (pv 6) (bK _)) (pO (eY iZ (pv 14) (pv 8) (bK _)) (m9 (Ib (eY mX (pv 7) cC (bK _)) (m9 (eY mX (pv 13) cC (bK _))))))))
   (aC (dF (PW.pt (wz (g_ (pv 15)) (rm (bZ Og (aM (aL (K:=K) rfl) (pv 3) (pv 11) (fun _ _=>rfl)) (aM (aL (K:=K) rfl) (pv 9) (pv 12) (fun _ _=>rfl)) (bK _))))) (aG (cV (dg (K:=K) rfl (pv 10) (aj (jh (aj (pv 12) (aj (aM (aL (K:=K) rfl) (pv 3) (pv 11) (fun _ _=>rfl)) (aj (pv 6) (aj (aM (aL (K:=K) rfl) (pv 5) (pv 6) (fun _ _=>rfl)) aq))))) aq)))) bW)
   (aG (dF (PW.pt (Dj (g_ (pv 15)) (wu (bZ iZ (pv 12) (pv 6) (bK _))))) (aG (wA (i:=9) rfl bY.nd rfl (Or.inl rfl) (N:=["a","b"]) (own:=["a","b"]) (caps:=[]) (aW.of (by kernel_rfl)) (Li (K:=K) rfl (by rfl) Bt.U_ (aj (pv 9) (aj (aM (aL (K:=K) rfl) (pv 2) (pv 11) (fun _ _=>rfl)) aq))) (fun _ _ _ _=>(lQ (K:=K) (n:=2) rfl rfl (cB (aU (i:=0) (show List.Nodup (["a","b"]:List Str) by decide +kernel) rfl (Or.inl rfl)) (cB (aU (i:=1) (show List.Nodup (["a","b"]:List Str) by decide +kernel) rfl (Or.inl rfl)) lO)))) (fun _ _ _ _=>eX) (fun _ _ _ _=>(aP (vH rfl) (by rfl) Bt.Oz JR (aj (pv 0) (aj (pv 1) aq)))))) bW))))))
   (aC (cV (dg (K:=K) rfl (pv 3) (aj (aM (aL (K:=K) rfl) (pv 5) (pv 6) (fun _ _=>rfl)) aq)))
   (aC (jg (aY fB (aM (aL (K:=K) rfl) (pv 5) (pv 6) (fun _ _=>rfl)) aD) (kJ (pv 5) (pv 6) set_list))
   (aC (jg (aM (aL (K:=K) rfl) (pv 5) (pv 6) (fun _ _=>rfl)) (kJ (pv 9) (pv 6) set_list))
   (aC (cV (dg (K:=K) rfl (pv 2) (aj (pv 9) aq)))
   (aG (cV (dg (K:=K) rfl (pv 4) (aj (aP (je (K:=K) rfl) (by rfl) Bt.o9 mF (aj (pv 10) aq)) aq))))))))))))
   (aG (aX (jh (aj (pv 2) (aj (pv 4) aq)))))))))), ?_⟩
  refine ⟨(by show 0<=sizeLine;decide),fun rw' h1=> ?_⟩;have s1:=aF (o:=HO.lst []) h1;refine ⟨(by show 0<=sizeLine;decide),fun cl h2=> ?_⟩;have s2:=aF (o:=HO.lst []) h2;refine ⟨(by show 0<=sizeLine;decide),fun br h3=> ?_⟩;have s3:=aF (o:=HO.lst []) h3;refine ⟨(by show 1<=sizeLine;decide),fun l h4=> ?_⟩;have s4:=aF (o:=HO.lst [V.int 0]) h4;refine ⟨_,rfl,l,_,_,rfl,rfl,ao,by (clear h4 h3 h2 h1 dY ha wl hn1;omega),by (clear h4 h3 h2 h1 dY ha wl hn0;omega),by rw [sizeLine_eq];simp;(clear h4 h3 h2 h1 dY ha wl hn0;omega),fun mn h5=> ?_⟩;rw [K3];have s5:=aF (o:=HO.lst ((List.replicate hn.toNat (0:Int)).map V.int)) h5;have n12:rw'≠cl:=au ao h2;have n13:rw'≠br:=au (s2 _ _ ao) h3;have n23:cl≠br:=au ao h3;have n15:rw'≠mn:=au (s4 _ _ (s3 _ _ (s2 _ _ ao))) h5;have n25:cl≠mn:=au (s4 _ _ (s3 _ _ ao)) h5;have n35:br≠mn:=au (s4 _ _ ao) h5;have Pr:=(((s1.trans s2).trans s3).trans s4).trans s5;have f1:H rw'=none:=h1;have f2:H cl=none:=s1.free h2;have f3:H br=none:=(s1.trans s2).free h3;have f5:H mn=none:=(((s1.trans s2).trans s3).trans s4).free h5
  have I0:Vs ws hn H _ a rw' cl br mn 0:=⟨Pr,⟨[],s5 _ _ (s4 _ _ (s3 _ _ (s2 _ _ ao))),rfl,fun j r hj=>by simp at hj⟩,⟨[],s5 _ _ (s4 _ _ ao),rfl,fun j r hj=>by simp at hj⟩,s5 _ _ (s4 _ _ (s3 _ _ ao)),
   ⟨List.replicate hn.toNat 0,ao,by simp,fun h _ _=>by rw [wU];rfl⟩⟩
  generalize (upd (upd (upd (upd (upd H rw' (HO.lst [])) cl (HO.lst [])) br (HO.lst [])) l (HO.lst [V.int 0])) mn (HO.lst ((List.replicate hn.toNat (0:Int)).map V.int)))=H5 at I0 ⊢;refine ⟨_,rfl,a,rfl,⟨_,bf.of (I0.sm _ _ ha)⟩, ?_⟩
  refine lu (K:=K) (a:=a) (xs:=vs) (fun j σ H2=>∃x1 x2 x3 x4 x5 x6 x7 x8 x9 x10,σ=Ry a hn rw' cl br mn x1 x2 x3 x4 x5 x6 x7 x8 x9 x10/\Vs ws hn H H2 a rw' cl br mn j)
   ⟨none,none,none,none,none,none,none,none,none,none,rfl,I0⟩ (fun j σ H2 _ ⟨_,_,_,_,_,_,_,_,_,_,_,I⟩=>bf.of (I.sm _ _ ha)) ?_ ?_
  ·rintro j v σ H2 hj ⟨x1,x2,x3,x4,x5,x6,x7,x8,x9,x10,rfl,I⟩
   have jl:j<ws.length:=by have:=(List.getElem?_eq_some_iff.mp hj).1;(clear hj f5 f3 f2 f1 n35 n25 n15 n23 n13 n12 h5 h4 h3 h2 h1 ha wl hn1 hn0;omega)
   obtain ⟨y,ey⟩:∃y,ws[j]? = some y:=⟨ws[j],by simp [jl]⟩;obtain ⟨dd,ed,dy⟩:=dv.get hj;rw [List.getElem?_map,ey] at ed;cases ed;obtain ⟨t,rfl,ht⟩:=qH dy;obtain ⟨⟨y0,y1⟩,ykd,_⟩:=ok y (List.mem_of_getElem? ey);have j8:=pY ey;refine ⟨t,_,rfl,dZ.of (I.sm _ _ ht),rfl,_,_,rfl,_,_,rfl,_,_,rfl,rfl, ?_⟩;refine ⟨(by show 1<=sizeLine;decide),fun l0 hl0=> ?_⟩;have s6:=aF (o:=HO.lst [V.int 0]) hl0;refine ⟨_,rfl,l0,_,_,rfl,rfl,ao,by (clear hl0 j8 y1 y0 hj ht ey jl f5 f3 f2 f1 n35 n25 n15 n23 n13 n12 h5 h4 h3 h2 h1 dY ha wl hn1;omega),by (clear hl0 j8 y1 y0 hj ht ey jl f5 f3 f2 f1 n35 n25 n15 n23 n13 n12 h5 h4 h3 h2 h1 dY ha wl hn0;omega),by rw [sizeLine_eq];simp;(clear hl0 j8 y1 y0 hj ht ey jl f5 f3 f2 f1 n35 n25 n15 n23 n13 n12 h5 h4 h3 h2 h1 dY ha wl hn0;omega),fun gt hgt=> ?_⟩;rw [K3];have s7:=aF (o:=HO.lst ((List.replicate hn.toNat (0:Int)).map V.int)) hgt;refine ⟨(by show 0<=sizeLine;decide),fun fr hfr=> ?_⟩;have s8:=aF (o:=HO.lst []) hfr;have s27:=s6.trans s7;have XD:=s27.trans s8;have g0:H2 gt=none:=s6.free hgt;have r0:H2 fr=none:=s27.free hfr;have lV:gt≠fr:=au ao hfr;have fJ:(upd (upd (upd H2 l0 (HO.lst [V.int 0])) gt (HO.lst ((List.replicate hn.toNat (0:Int)).map V.int))) fr (HO.lst [])) gt=some (.lst ((List.replicate hn.toNat (0:Int)).map V.int)):=s8 _ _ ao;have fK:(upd (upd (upd H2 l0 (HO.lst [V.int 0])) gt (HO.lst ((List.replicate hn.toNat (0:Int)).map V.int))) fr (HO.lst [])) fr=some (.lst []):=ao;generalize (upd (upd (upd H2 l0 (HO.lst [V.int 0])) gt (HO.lst ((List.replicate hn.toNat (0:Int)).map V.int))) fr (HO.lst []))=H8 at XD fJ fK ⊢;obtain ⟨rs,hrs,rl,_⟩:=id I.rows;refine ⟨_,rfl,rw',_,rfl,.inl (bf.of (XD _ _ hrs)),_,_,rfl,rfl,_,rfl,_,rfl,(j:Int) - 1, -1,by rw [List.length_map,rl],⟨by (clear rl hrs fK fJ lV r0 g0 hfr hgt hl0 j8 y1 y0 hj ht ey jl f5 f3 f2 f1 n35 n25 n15 n23 n13 n12 h5 h4 h3 h2 h1 dY ha wl hn1 hn0;omega),by (clear rl hrs fK fJ lV r0 g0 hfr hgt hl0 j8 y1 y0 hj ht ey f5 f3 f2 f1 n35 n25 n15 n23 n13 n12 h5 h4 h3 h2 h1 dY ha hn1 hn0;omega),by (clear rl hrs fK fJ lV r0 g0 hfr hgt hl0 j8 y1 y0 hj ht ey jl f5 f3 f2 f1 n35 n25 n15 n23 n13 n12 h5 h4 h3 h2 h1 dY ha wl hn1 hn0;omega),by (clear rl hrs fK fJ lV r0 g0 hfr hgt hl0 j8 y1 y0 hj ht ey jl f5 f3 f2 f1 n35 n25 n15 n23 n13 n12 h5 h4 h3 h2 h1 dY ha wl hn1 hn0;omega)⟩, ?_⟩;rw [show ((j:Int) - 1 - (-1)).toNat=j by (clear rl hrs fK fJ lV r0 g0 hfr hgt hl0 j8 y1 y0 hj ht ey jl f5 f3 f2 f1 n35 n25 n15 n23 n13 n12 h5 h4 h3 h2 h1 dY ha wl hn1 hn0;omega)]
   refine tX (hi:=(j:Int) - 1) (n:=j) (fun i σ H9=>∃(gt:Addr) (row:List Int) (x6 x7 x8 x9 x10:Option V),σ=Ry a hn rw' cl br mn (some (.int y.1)) (some (.str y.2.1)) (some (.int y.2.2)) (some (.ref gt)) (some (.ref fr)) x6 x7 x8 x9 x10/\Same H2 H9/\H2 gt=none/\gt≠fr/\H9 gt=some (.lst (row.map V.int))/\nG ws hn.toNat row (Ek ws j (j - i)) j/\d9 H9 fr (bx ws j (cj ws j i)))
    ⟨gt,List.replicate hn.toNat 0,_,_,_,_,_,rfl,XD,g0,lV,fJ,⟨by simp,fun m x ex=>⟨fun z=> ?_,fun ⟨x,q1,q2,_⟩=> ?_⟩,fun h=>by rw [wU];exact ⟨Int.le_refl _,iu _ _⟩⟩,⟨[],fK,by simp [cj,bx,aJ]⟩⟩ ?_ ?_
   ·rw [wU] at z
    have:=iu (ws.take m) x.1;omega
   ·have:=(pF q2).1
    omega
   ·rintro i σ H9 hi ⟨gt,row,x6,x7,x8,x9,x10,rfl,s9,g0,lV,pC,rh,N9⟩
    have ee:(j:Int) - 1 - (i:Int)=((j - 1 - i:Nat):Int):=by (clear pC lV g0 rl hrs fK fJ r0 hfr hgt hl0 j8 y1 y0 hj ht ey jl f5 f3 f2 f1 n35 n25 n15 n23 n13 n12 h5 h4 h3 h2 h1 dY ha wl hn1 hn0;omega)
    rw [ee];have bs:=ux ws j i;have bl:=ju ws j i;generalize he:j - 1 - i=e at bs;have el:e<ws.length:=by (clear bs bl ee pC lV g0 hi rl hrs fK fJ r0 hfr hgt hl0 j8 y1 y0 hj ht ey f5 f3 f2 f1 n35 n25 n15 n23 n13 n12 h5 h4 h3 h2 h1 dY ha wl hn1 hn0;omega)
    have ej:e<j:=by (clear el bs bl ee pC lV g0 rl hrs fK fJ r0 hfr hgt hl0 j8 y1 y0 hj ht ey jl f5 f3 f2 f1 n35 n25 n15 n23 n13 n12 h5 h4 h3 h2 h1 dY ha wl hn1 hn0;omega)
    have e1:j - i=e+1:=by (clear ej el bs bl ee pC lV g0 rl hrs fK fJ r0 hfr hgt hl0 j8 y1 y0 hj ht ey jl f5 f3 f2 f1 n35 n25 n15 n23 n13 n12 h5 h4 h3 h2 h1 dY ha wl hn1 hn0;omega)
    have e2:j - (i+1)=e:=by (clear e1 ej el bs bl ee pC lV g0 hi rl hrs fK fJ r0 hfr hgt hl0 j8 y1 y0 hj ht ey jl f5 f3 f2 f1 n35 n25 n15 n23 n13 n12 h5 h4 h3 h2 h1 dY ha wl hn1 hn0;omega)
    rw [e1] at rh;rw [e2];obtain ⟨x,ex⟩:∃x,ws[e]? = some x:=⟨ws[e],by simp [el]⟩;obtain ⟨⟨x0,x1'⟩,xkd,_⟩:=ok x (List.mem_of_getElem? ex);have Gx:=pY ex;have sH9:=I.sm.trans s9;obtain ⟨us,tx,hus,Ox,htx⟩:=lG (W.same sH9) ex;have qR:qw ws e j=(decide (x.1=y.1)||mt x y):=by unfold qw Ph;rw [ex,ey,decide_eq_true ej,Bool.true_and]
    have gY:=rh.1;refine ⟨_,rfl,_,rfl,_,_,_,_,rfl,rfl,bf.of hus,bB Ox,tx,_,rfl,dZ.of htx,rfl,_,_,rfl,_,_,rfl,_,_,rfl,rfl, ?_⟩;dsimp only;refine lJ (fun σ Rf=>Rf=H9/\σ=Ry a hn rw' cl br mn (some (.int y.1)) (some (.str y.2.1)) (some (.int y.2.2)) (some (.ref gt)) (some (.ref fr)) (some (.int (e:Int))) (some (.int x.1)) (some (.str x.2.1)) (some (.int x.2.2)) (some (.bl (mt x y)))) (fun D' hD' _=> ?_) ?_
    ·have fin:∀b:Bool,b=mt x y->D'.nx (Ry a hn rw' cl br mn (some (.int y.1)) (some (.str y.2.1)) (some (.int y.2.2)) (some (.ref gt)) (some (.ref fr)) (some (.int (e:Int))) (some (.int x.1)) (some (.str x.2.1)) (some (.int x.2.2)) (some (.bl b))) H9:=fun b hb=>hD' _ _ ⟨rfl,by rw [hb]⟩
     refine ⟨_,rfl,_,rfl,rfl,_,rfl, ?_⟩
     by_cases c1:x.1=y.1
     ·rw [show (!decide (V.int x.1=V.int y.1))=false by simp [c1]]
      refine gB ?_;exact fin false (by unfold mt;rw [if_pos c1])
     rw [show (!decide (V.int x.1=V.int y.1))=true by simp [c1]];refine iW ?_;refine ⟨_,rfl,_,rfl,rfl,_,rfl, ?_⟩
     by_cases c2:x.2.2=y.2.2
     rotate_left
     ·rw [show decide (V.int x.2.2=V.int y.2.2)=false by simp [c2]]
      refine gB ?_;exact fin false (by unfold mt;rw [if_neg c1,if_neg c2])
     rw [show decide (V.int x.2.2=V.int y.2.2)=true by simp [c2]];refine iW ?_;refine ⟨_,rfl,rfl,_,rfl, ?_⟩
     by_cases c3:y.2.1 = "load"
     ·rw [show (!decide (V.str y.2.1=V.str "load"))=false by simp [c3]]
      refine gB ?_;refine ⟨_,rfl,rfl, ?_⟩;refine fin _ ?_;unfold mt;rw [if_neg c1,if_pos c2,c3]
      by_cases c4:x.2.1 = "load"
      ·rw [if_pos c4];simp [c4]
      ·rw [if_neg c4];simp [c4]
     ·rw [show (!decide (V.str y.2.1=V.str "load"))=true by simp [c3]]
      refine iW ?_;refine fin true ?_;unfold mt;rw [if_neg c1,if_pos c2]
      by_cases c4:x.2.1 = "load"
      ·rw [if_pos c4];simp [c3]
      ·rw [if_neg c4]
    rintro σ Rf ⟨rfl,rfl⟩;have ig:Rf cl=some (.lst ((xO ws j).map V.int)):=s9 _ _ I.called;have hcle:rN ((xO ws j).map V.int) ((e:Nat):Int)=some (V.int (cnt (ws.take e) (hnd ws e))):=bB (by rw [List.getElem?_map,Ng ej];rfl);have rx:=rh.2.1 e x ex;refine lJ (fun σ WT=>σ=Ry a hn rw' cl br mn (some (.int y.1)) (some (.str y.2.1)) (some (.int y.2.2)) (some (.ref gt)) (some (.ref fr)) (some (.int (e:Int))) (some (.int x.1)) (some (.str x.2.1)) (some (.int x.2.2)) (some (.bl (mt x y)))/\Same H2 WT/\WT gt=some (.lst (row.map V.int))/\d9 WT fr (bx ws j (cj ws j (i+1)))) (fun D' hD' _=> ?_) ?_
    ·have stay:¬(Bare ws j e /\ ¬hnd ws e=hnd ws j)->D'.nx (Ry a hn rw' cl br mn (some (.int y.1)) (some (.str y.2.1)) (some (.int y.2.2)) (some (.ref gt)) (some (.ref fr)) (some (.int (e:Int))) (some (.int x.1)) (some (.str x.2.1)) (some (.int x.2.2)) (some (.bl (mt x y)))) Rf:=fun nb=>hD' _ _ ⟨rfl,s9,pC,by
      rw [bs,qy]
      by_cases b1:Bare ws j e
      ·have b2:hnd ws e=hnd ws j:=Classical.byContradiction fun z=>nb ⟨b1,z⟩
       rw [if_pos b1];simp only [bx,List.filter_cons,b2,not_true_eq_false,decide_false,Bool.false_eq_true,if_false,List.filter_nil,List.map_nil,List.append_nil];exact N9
      ·rw [if_neg b1]
       simp only [bx,List.filter_nil,List.map_nil,List.append_nil];exact N9⟩
     refine ⟨_,rfl,_,rfl, ?_⟩
     by_cases mm:mt x y=true
     rotate_left
     ·have mm':mt x y=false:=by simpa using mm
      refine mK (fun z=>absurd z mm) (fun _=> ?_);refine mK (fun z=>absurd z (by decide)) (fun _=> ?_);refine stay fun z=> ?_;have st:=z.1.1;rw [qR,mm',Bool.or_false] at st;exact z.2 (by rw [Gx,j8];exact of_decide_eq_true st)
     refine mK (fun _=> ?_) (fun z=>absurd mm z);have hne:¬x.1=y.1:=fun z=>by unfold mt at mm;rw [if_pos z] at mm;cases mm
     have st:qw ws e j=true:=by rw [qR,mm,Bool.or_true]
     refine ⟨_,rfl,_,rfl,_,_,_,_,rfl,rfl,bf.of ig,hcle,_,rfl,_,rfl,_,_,_,_,rfl,rfl,bf.of pC,qm x0 (by (clear st hne mm rx hcle ig htx hus pC qR Ox Gx x0 ex e2 e1 ej el bs he bl ee lV g0 hi rl hrs fK fJ r0 hfr hgt hl0 j8 y1 y0 hj ht ey jl f5 f3 f2 f1 n35 n25 n15 n23 n13 n12 h5 h4 h3 h2 h1 dY ha wl hn1 hn0;omega)),_,_,rfl,rfl,_,rfl, ?_⟩;rw [Gx]
     by_cases cv:Ek ws j (e+1) e
     ·have lt:=rx.mpr cv
      rw [decide_eq_false (show ¬gI row x.1<=cnt (ws.take e) x.1 by (clear st hne mm rx hcle ig htx hus pC gY qR Ox Gx x1' x0 ex e2 e1 ej el bs he bl ee lV g0 hi rl hrs fK fJ r0 hfr hgt hl0 j8 y1 y0 hj ht ey jl f5 f3 f2 f1 n35 n25 n15 n23 n13 n12 h5 h4 h3 h2 h1 dY ha wl hn1 hn0;omega))];refine gB ?_;exact stay fun z=>z.1.2 cv
     ·have ge:¬cnt (ws.take e) x.1<gI row x.1:=fun z=>cv (rx.mp z)
      rw [decide_eq_true (show gI row x.1<=cnt (ws.take e) x.1 by (clear cv st hne mm rx hcle ig htx hus pC gY qR Ox Gx x1' x0 ex e2 e1 ej el bs he bl ee lV g0 hi rl hrs fK fJ r0 hfr hgt hl0 j8 y1 y0 hj ht ey jl f5 f3 f2 f1 n35 n25 n15 n23 n13 n12 h5 h4 h3 h2 h1 dY ha wl hn1 hn0;omega))];refine iW ?_;obtain ⟨ms,hm,ml,mg⟩:=I.many;obtain ⟨ts,hts,Uj⟩:=id N9;have tl:ts.length<=i:=by rw [Uj.length,List.length_map];exact Nat.le_trans (i_ ws j _) bl
      refine ⟨_,rfl,.inl ⟨rfl,_,bf.of hts⟩,_,rfl,_,rfl,_,rfl,_,_,_,_,rfl,rfl,bf.of ig,hcle,_,rfl,_,rfl,_,rfl,_,_,_,_,rfl,rfl,bf.of (s9 _ _ hm),qm y0 (by (clear tl hts hm ge cv st hne mm rx hcle ig htx hus pC gY qR Ox Gx x1' x0 ex e2 e1 ej el bs he bl ee lV g0 hi rl hrs fK fJ r0 hfr hgt hl0 j8 y0 hj ht ey jl f5 f3 f2 f1 n35 n25 n15 n23 n13 n12 h5 h4 h3 h2 h1 dY ha wl hn1 hn0;omega)),(by show 4<=sizeLine;decide),fun q hq=> ?_⟩;rw [mg y.1 y0 y1,←Gx,←j8];have sq:=aF (o:=HO.tup [V.int (hnd ws e),V.int (cnt (ws.take e) (hnd ws e)),V.int (hnd ws j),V.int (cnt (ws.take j) (hnd ws j))]) hq;refine ⟨fr,ts,_,rfl,rfl,sq _ _ hts,by rw [sizeLine_eq];(clear hq hts ml hm ge cv st hne mm rx hcle ig htx hus pC gY qR Ox Gx x1' x0 ex e2 e1 ej el bs he bl ee lV g0 rl hrs fK fJ r0 hfr hgt hl0 j8 y1 y0 hj ht ey f5 f3 f2 f1 n35 n25 n15 n23 n13 n12 h5 h4 h3 h2 h1 dY ha hn1 hn0;omega), ?_⟩;have kf:Kp fr (upd Rf q (HO.tup [V.int (hnd ws e),V.int (cnt (ws.take e) (hnd ws e)),V.int (hnd ws j),V.int (cnt (ws.take j) (hnd ws j))])) (upd (upd Rf q (HO.tup [V.int (hnd ws e),V.int (cnt (ws.take e) (hnd ws e)),V.int (hnd ws j),V.int (cnt (ws.take j) (hnd ws j))])) fr (.lst (ts++[V.ref q]))):=Kp.set;have tf:=kf.tups (sq _ _ hts);refine hD' _ _ ⟨by rw [Gx,j8],fun b u e=>kf _ _ (sq _ _ (s9 _ _ e)) (au e r0),kf _ _ (sq _ _ pC) lV,ts++[V.ref q],ao, ?_⟩;have nb:Bare ws j e:=⟨st,cv⟩;have hne':¬hnd ws e=hnd ws j:=by rw [Gx,j8];exact hne
      rw [bs,if_pos nb,qy,List.map_append];refine aJ.append (aJ.keep (fun a xs h=>tf _ _ (sq.tups _ _ h)) _ (bH _ gC _) Uj) ?_;simp only [bx,List.filter_cons,hne',not_false_eq_true,decide_true,if_true,List.filter_nil,List.map_cons,List.map_nil];exact zy (BZ (x:=iR ws e j) (tf _ _ ao))
    rintro σ WT ⟨rfl,Vx,Js,N11⟩;obtain ⟨Hu,QH,rl2,XJ⟩:=I.rows.same (iJ ws hn.toNat) Vx;have er:e<Hu.length:=by (clear QH Js rx hcle ig htx hus pC gY qR Ox Gx x1' x0 ex e2 e1 ej el bs bl ee lV g0 rl hrs fK fJ r0 hfr hgt hl0 j8 y1 y0 hj ht ey jl f5 f3 f2 f1 n35 n25 n15 n23 n13 n12 h5 h4 h3 h2 h1 dY ha wl hn1 hn0;omega)
    obtain ⟨rr,err⟩:∃rr,Hu[e]? = some rr:=⟨Hu[e],by simp [er]⟩;obtain ⟨_,re,QJ,rhe⟩:=XJ e rr err;have rel:=rhe.1;refine ⟨_,rfl,_,rfl, ?_⟩
    by_cases st:qw ws e j=true
    rotate_left
    ·have mm:mt x y=false:=by
      cases q:mt x y with
      | false=>rfl
      | true=>rw [qR,q,Bool.or_true] at st;exact absurd rfl st
     have hne:¬x.1=y.1:=fun z=>by rw [qR,decide_eq_true z,Bool.true_or] at st;exact absurd rfl st
     rw [mm];refine gB ?_;refine ⟨_,rfl,_,rfl,rfl,_,rfl, ?_⟩;rw [show decide (V.int x.1=V.int y.1)=false by simp [hne]];refine gB ?_;exact ⟨gt,row,_,_,_,_,_,rfl,Vx,g0,lV,Js,rh.iff fun m=>zE st,N11⟩
    refine MJ ?_ (fun mm core=> ?_)
    rotate_left
    ·have mm:mt x y=false:=by simpa using mm
     have heq:x.1=y.1:=by rw [qR,mm,Bool.or_false] at st;exact of_decide_eq_true st
     refine ⟨_,rfl,_,rfl,rfl,_,rfl, ?_⟩;rw [show decide (V.int x.1=V.int y.1)=true by simp [heq]];exact iW core
    refine ⟨_,rfl,_,rfl,_,rfl,_,_,_,_,rfl,rfl,bf.of QH,bB (by rw [List.getElem?_map,err];rfl),gt,rr,_,_,rfl,bf.of Js,bf.of QJ,fun D hD=> ?_⟩;refine Gg (K:=K) (n:=hn.toNat) (by rw [List.length_map,gY]) (by rw [List.length_map,rel]) (fun h=>some (.int (mx (gI row (h:Int)) (gI re (h:Int))))) hD (bf.of Js) (bf.of QJ) (by (clear hD st rel QJ err er rl2 QH Js rx hcle ig htx hus pC gY qR Ox Gx x1' x0 ex e2 e1 ej el bs he bl ee lV g0 hi rl hrs fK fJ r0 hfr hgt hl0 j8 y1 y0 hj ht ey jl f5 f3 f2 f1 n35 n25 n15 n23 n13 n12 h5 h4 h3 h2 h1 dY ha wl hn0;omega)) (fun h u v GD G F hu hv s12 kG kF=> ?_) (fun GD s12 e12=> ?_)
    ·rw [List.getElem?_map] at hu hv
     cases eu:row[h]? with
     | none=>rw [eu] at hu;cases hu
     | some uu=>
       cases ev:re[h]? with
       | none=>rw [ev] at hv;cases hv
       | some vv=>
         rw [eu] at hu;rw [ev] at hv;cases hu;cases hv;exact ⟨_,rfl,_,rfl,_,_,rfl,kF _ GD (Same.refl _) (by rw [tW eu,tW ev];rfl)⟩
    have aaW:GD D=some (.lst ((Mr hn.toNat row re).map V.int)):=by
     rw [e12];unfold Mr;rw [List.map_map,←List.filterMap_eq_map];rfl
    have nDf:D≠fr:=by
     obtain ⟨_,h,_⟩:=N11;exact (au h hD).symm
    exact ⟨D,Mr hn.toNat row re,_,_,_,_,_,rfl,Vx.trans s12,Vx.free hD,nDf,aaW,(Hv Oh rh (rhe.mono (by omega))).iff fun m=>Eb st,N11.same s12⟩
   ·rintro σ H9 ⟨gt,row,x6,x7,x8,x9,x10,rfl,s9,g0,lV,pC,rh,N9⟩
    rw [Nat.sub_self] at rh;have rh':=rh.iff fun m=>Ea;have gY:=rh'.1;obtain ⟨ms,hm,ml,mg⟩:=I.many;have ig:=s9 _ _ I.called;have hm9:=s9 _ _ hm;have Km:y.1<ms.length:=by (clear hm9 ig hm gY pC lV g0 rl hrs fK fJ r0 hfr hgt hl0 j8 y0 hj ht ey jl f5 f3 f2 f1 n35 n25 n15 n23 n13 n12 h5 h4 h3 h2 h1 dY ha wl hn1 hn0;omega)
    have Nb:(xO ws j).length=j:=by unfold xO;simp
    have f1':=I.rows;have QZ:=I.Wz;obtain ⟨rs0,qT,_,_⟩:=id I.rows;obtain ⟨bs0,tR,_,_⟩:=id I.Wz;refine ⟨_,rfl,.inl ⟨rfl,_,bf.of ig⟩,_,rfl,_,rfl,_,_,_,_,rfl,rfl,bf.of hm9,qm y0 (by (clear tR qT Nb Km hm9 ig hm gY pC lV g0 rl hrs fK fJ r0 hfr hgt hl0 j8 y0 hj ht ey jl f5 f3 f2 f1 n35 n25 n15 n23 n13 n12 h5 h4 h3 h2 h1 dY ha wl hn1 hn0;omega)),cl,_,_,rfl,rfl,ig,by rw [List.length_map,sizeLine_eq];(clear tR qT Km hm9 ig ml hm gY pC lV g0 rl hrs fK fJ r0 hfr hgt hl0 j8 y1 y0 hj ht ey f5 f3 f2 f1 n35 n25 n15 n23 n13 n12 h5 h4 h3 h2 h1 dY ha hn1 hn0;omega), ?_⟩;rw [mg y.1 y0 y1];have k1:Kp cl H9 (upd H9 cl (.lst ((xO ws j).map V.int++[V.int (cnt (ws.take j) y.1)]))):=Kp.set;have hm1:=k1 _ _ hm9 n25.symm;refine ⟨_,rfl,_,rfl,_,_,_,_,rfl,rfl,bf.of hm1,qm y0 (by (clear hm1 tR qT Nb Km hm9 ig hm gY pC lV g0 rl hrs fK fJ r0 hfr hgt hl0 j8 y0 hj ht ey jl f5 f3 f2 f1 n35 n25 n15 n23 n13 n12 h5 h4 h3 h2 h1 dY ha wl hn1 hn0;omega)),_,_,rfl,rfl,_,rfl,_,rfl,_,_,_,_,rfl,rfl,hm1,rG y0 (by rw [List.length_map];(clear hm1 tR qT Nb Km hm9 ig hm gY pC lV g0 rl hrs fK fJ r0 hfr hgt hl0 j8 y0 hj ht ey jl f5 f3 f2 f1 n35 n25 n15 n23 n13 n12 h5 h4 h3 h2 h1 dY ha wl hn1 hn0;omega)), ?_⟩;rw [mg y.1 y0 y1];have k2:Kp mn (upd H9 cl (.lst ((xO ws j).map V.int++[V.int (cnt (ws.take j) y.1)]))) (upd (upd H9 cl (.lst ((xO ws j).map V.int++[V.int (cnt (ws.take j) y.1)]))) mn (.lst ((ms.map V.int).set y.1.toNat (V.int (cnt (ws.take j) y.1+1))))):=Kp.set;have hm2:(upd (upd H9 cl (.lst ((xO ws j).map V.int++[V.int (cnt (ws.take j) y.1)]))) mn (.lst ((ms.map V.int).set y.1.toNat (V.int (cnt (ws.take j) y.1+1))))) mn=some (.lst ((ms.set y.1.toNat (cnt (ws.take j) y.1+1)).map V.int)):=by rw [ao,List.map_set]
    have yZ:=k2 _ _ (ao (H:=H9) (a:=cl) (o:= .lst ((xO ws j).map V.int++[V.int (cnt (ws.take j) y.1)]))) n25;have yI:gt≠cl:=(au I.called g0).symm;have yH:gt≠mn:=(au hm g0).symm;have Bj:gt≠rw':=(au qT g0).symm;have Bq:gt≠br:=(au tR g0).symm;have hg2:=k2 _ _ (k1 _ _ pC yI) yH;have Bp:fr≠cl:=(au I.called r0).symm;have Bm:fr≠mn:=(au hm r0).symm;have Bk:fr≠rw':=(au qT r0).symm;have N2:=(N9.kp (k1.tups ig) k1 Bp).kp (k2.tups hm1) k2 Bm;have T2:∀a xs,H2 a=some (HO.tup xs)->(upd (upd H9 cl (.lst ((xO ws j).map V.int++[V.int (cnt (ws.take j) y.1)]))) mn (.lst ((ms.map V.int).set y.1.toNat (V.int (cnt (ws.take j) y.1+1))))) a=some (HO.tup xs):=fun a xs h=>k2.tups hm1 _ _ (k1.tups ig _ _ (s9.tups _ _ h));have S2:∀b u,H2 b=some u->b≠cl->b≠mn->(upd (upd H9 cl (.lst ((xO ws j).map V.int++[V.int (cnt (ws.take j) y.1)]))) mn (.lst ((ms.map V.int).set y.1.toNat (V.int (cnt (ws.take j) y.1+1))))) b=some u:=fun b u e n1 n2=>k2 _ _ (k1 _ _ (s9 _ _ e) n1) n2;generalize (upd (upd H9 cl (.lst ((xO ws j).map V.int++[V.int (cnt (ws.take j) y.1)]))) mn (.lst ((ms.map V.int).set y.1.toNat (V.int (cnt (ws.take j) y.1+1)))))=GD at hm2 yZ hg2 N2 S2 T2 ⊢;have Rw:gI (ms.set y.1.toNat (cnt (ws.take j) y.1+1)) y.1=cnt (ws.take j) y.1+1:=by rw [wR y0 (by (clear hg2 yZ hm2 Bk Bm Bp Bq Bj yH yI hm1 tR qT Nb Km hm9 ig hm gY pC lV g0 rl hrs fK fJ r0 hfr hgt hl0 j8 y0 hj ht ey jl f5 f3 f2 f1 n35 n25 n15 n23 n13 n12 h5 h4 h3 h2 h1 dY ha wl hn1 hn0;omega)) y0,if_pos rfl]
    refine ⟨_,rfl,_,rfl,_,_,_,_,rfl,rfl,bf.of hm2,qm y0 (by rw [List.length_set];(clear Rw hg2 yZ hm2 Bk Bm Bp Bq Bj yH yI hm1 tR qT Nb Km hm9 ig hm gY pC lV g0 rl hrs fK fJ r0 hfr hgt hl0 j8 y0 hj ht ey jl f5 f3 f2 f1 n35 n25 n15 n23 n13 n12 h5 h4 h3 h2 h1 dY ha wl hn1 hn0;omega)),_,rfl,_,rfl,_,_,_,_,rfl,rfl,hg2,rG y0 (by rw [List.length_map];(clear Rw hg2 yZ hm2 Bk Bm Bp Bq Bj yH yI hm1 tR qT Nb Km hm9 ig ml hm pC lV g0 rl hrs fK fJ r0 hfr hgt hl0 j8 y0 hj ht ey jl f5 f3 f2 f1 n35 n25 n15 n23 n13 n12 h5 h4 h3 h2 h1 dY ha wl hn1 hn0;omega)), ?_⟩;rw [Rw];have k3:Kp gt GD (upd GD gt (.lst ((row.map V.int).set y.1.toNat (V.int (cnt (ws.take j) y.1+1))))):=Kp.set;have Wf:(upd GD gt (.lst ((row.map V.int).set y.1.toNat (V.int (cnt (ws.take j) y.1+1))))) gt=some (.lst ((row.set y.1.toNat (cnt (ws.take j) y.1+1)).map V.int)):=by rw [ao,List.map_set]
    have R8:RowC ws hn.toNat (upd GD gt (.lst ((row.map V.int).set y.1.toNat (V.int (cnt (ws.take j) y.1+1))))) j gt:=⟨_,Wf,Hw Oh rh' ey⟩
    have S3:∀b u,H2 b=some u->b∉[cl,mn,gt]->(upd GD gt (.lst ((row.map V.int).set y.1.toNat (V.int (cnt (ws.take j) y.1+1))))) b=some u:=fun b u e m=>by
     have m1:b≠cl:=fun z=>m (by simp [z]);have m2:b≠mn:=fun z=>m (by simp [z]);have m3:b≠gt:=fun z=>m (by simp [z]);exact k3 _ _ (S2 b u e m1 m2) m3
    have T3:∀a xs,H2 a=some (HO.tup xs)->(upd GD gt (.lst ((row.map V.int).set y.1.toNat (V.int (cnt (ws.take j) y.1+1))))) a=some (HO.tup xs):=fun a xs h=>k3.tups hg2 _ _ (T2 _ _ h)
    have hW:∀x∈[cl,mn,gt],x∈[rw',cl,br,mn]\/H2 x=none:=fun x hx=>by
     simp only [List.mem_cons,List.not_mem_nil,or_false] at hx;rcases hx with rfl|rfl|rfl
     ·exact .inl (by simp)
     ·exact .inl (by simp)
     ·exact .inr g0
    have R3:=I.rows.move (iJ _ _) [cl,mn,gt] S3 (by simp [n12,n15,Bj.symm]) hW T3;have B3:=I.Wz.move (jq _) [cl,mn,gt] S3 (by simp [n23.symm,n35,Bq.symm]) hW T3;have N3:=N2.kp (k3.tups hg2) k3 lV.symm;have Ju:=k3 _ _ yZ yI.symm;have TQ:=k3 _ _ hm2 yH.symm
    have S3':Same H (upd GD gt (.lst ((row.map V.int).set y.1.toNat (V.int (cnt (ws.take j) y.1+1))))):=fun b u e=>S3 _ _ (I.sm _ _ e) (by
     simp only [List.mem_cons,List.not_mem_nil,or_false];rintro (z|z|z)
     ·exact au e f2 z
     ·exact au e f5 z
     ·exact au e (I.sm.free g0) z)
    generalize (upd GD gt (.lst ((row.map V.int).set y.1.toNat (V.int (cnt (ws.take j) y.1+1)))))=WR at R3 B3 N3 Ju TQ S3' R8 ⊢
    obtain ⟨XH,BL,rl3,R4⟩:=R3.push (iJ _ _) (by simp) (fun x hx=>by
     simp only [List.mem_cons,List.not_mem_nil,or_false] at hx;rcases hx with rfl|rfl|rfl|rfl<;>assumption) R8
    refine ⟨_,rfl,.inl ⟨rfl,_,bf.of BL⟩,_,rfl,rw',_,_,rfl,rfl,BL,by rw [List.length_map,sizeLine_eq];(clear BL TQ Ju Wf Rw hg2 yZ hm2 Bk Bm Bp Bq Bj yH yI hm1 tR qT Nb Km hm9 ig ml hm gY pC lV g0 rl hrs fK fJ r0 hfr hgt hl0 j8 y1 y0 hj ht ey f5 f3 f2 f1 n35 n25 n15 n23 n13 n12 h5 h4 h3 h2 h1 dY ha hn1 hn0;omega), ?_⟩;have k4:Kp rw' WR (upd WR rw' (.lst (XH.map V.ref++[V.ref gt]))):=Kp.set;have B4:=B3.kp (jq _) k4 BL n13.symm (by simp);have N4:=N3.kp (k4.tups BL) k4 Bk;have Jt:=k4 _ _ Ju n12.symm;have TJ:=k4 _ _ TQ n15.symm;have S4:Same H (upd WR rw' (.lst (XH.map V.ref++[V.ref gt]))):=fun b u e=>k4 _ _ (S3' _ _ e) (au e f1);generalize (upd WR rw' (.lst (XH.map V.ref++[V.ref gt])))=H14 at R4 B4 N4 Jt TJ S4 ⊢;obtain ⟨bs4,M4,bl4,_⟩:=id B4;obtain ⟨rs4,QG,rl4,_⟩:=id R4;refine ⟨_,rfl,.inl ⟨rfl,_,bf.of M4⟩,_,rfl, ?_⟩;dsimp only [vP];refine oE (K:=K) N4 fun sl ns H15 hsl NN pp ss Pr=> ?_
    have re:∀e∈[rw',cl,br,mn],sl≠e:=fun x hx=>by
     simp only [List.mem_cons,List.not_mem_nil,or_false] at hx;rcases hx with rfl|rfl|rfl|rfl
     ·exact (au QG hsl).symm
     ·exact (au Jt hsl).symm
     ·exact (au M4 hsl).symm
     ·exact (au TJ hsl).symm
    obtain ⟨bs5,MP,bl5,B6⟩:=(B4.same (jq _) Pr).push (jq _) (by simp) re (show RD ws H15 j sl from ⟨ns,NN,pp,ss⟩);refine ⟨br,_,_,rfl,rfl,MP,by rw [List.length_map,sizeLine_eq];(clear MP hsl rl4 QG bl4 M4 TJ Jt rl3 BL TQ Ju Wf Rw hg2 yZ hm2 Bk Bm Bp Bq Bj yH yI hm1 tR qT Nb Km hm9 ig ml hm gY pC lV g0 rl hrs fK fJ r0 hfr hgt hl0 j8 y1 y0 hj ht ey f5 f3 f2 f1 n35 n25 n15 n23 n13 n12 h5 h4 h3 h2 h1 dY ha hn1 hn0;omega), ?_⟩;have k6:Kp br H15 (upd H15 br (.lst (bs5.map V.ref++[V.ref sl]))):=Kp.set;refine ⟨_,_,_,_,_,_,_,_,_,_,rfl,⟨fun b u e=>k6 _ _ (Pr _ _ (S4 _ _ e)) (au e f3),(R4.same (iJ _ _) Pr).kp (iJ _ _) k6 MP n13 (by simp),B6, ?_,⟨ms.set y.1.toNat (cnt (ws.take j) y.1+1),k6 _ _ (Pr _ _ TJ) n35.symm,by simp [ml],fun h h0 h1=> ?_⟩⟩⟩
    ·rw [k6 _ _ (Pr _ _ Jt) n23,JN,List.map_append,j8]
     rfl
    ·have tk:ws.take (j+1)=ws.take j++[y]:=by rw [List.take_add_one,ey];rfl
     rw [wR y0 (by (clear tk h1 h0 bl5 MP hsl rl4 QG bl4 M4 TJ Jt rl3 BL TQ Ju Wf Rw hg2 yZ hm2 Bk Bm Bp Bq Bj yH yI hm1 tR qT Nb Km hm9 ig hm gY pC lV g0 rl hrs fK fJ r0 hfr hgt hl0 j8 y0 hj ht ey jl f5 f3 f2 f1 n35 n25 n15 n23 n13 n12 h5 h4 h3 h2 dY ha wl hn1 hn0;omega)) h0,tk,d8]
     by_cases e:h=y.1
     ·subst e;rw [if_pos rfl,if_pos rfl]
     ·rw [if_neg e,if_neg e];exact mg h h0 h1
  ·rintro σ H2 ⟨x1,x2,x3,x4,x5,x6,x7,x8,x9,x10,rfl,I⟩
   rw [dY] at I;refine ⟨_,rfl,_,rfl,(by show 2<=sizeLine;decide),fun p hp=> ?_⟩;have sp:=aF (o:=HO.tup [V.ref rw',V.ref br]) hp;exact k p rw' br _ ao (I.rows.same (iJ _ _) sp).any (I.Wz.same (jq _) sp).any f1 f3 (I.sm.trans sp)
def Tt (i:Int) (n:Nat):Prop:=0<=i/\i<(n:Int)
instance (i:Int) (n:Nat):Decidable (Tt i n):=inferInstanceAs (Decidable (_/\_))
def KH (K:PySem.W.Frag):Sp:=fun vs H Q _=>∃i:Int,vs=[.int i]/\Q (.bl true) H
theorem yw {f:Addr} {fd:FuncData} (F:j4 K "is_whole" "is_whole" dH f fd) (Bt:qL mg):cJ P w K mg base jf 1 f fd ["value"] (KH K):=by
 refine F.ok xZ (fun vs H Q E h=> ?_) (fun cdv A outer s H vs Q E hr h=> ?_)
 ·obtain ⟨i,rfl,_⟩:=h
  rfl
 ·obtain ⟨i,rfl,k⟩:=h
  refine ⟨_,(aG (aX (pO (aP (fH (K:=K) (cv:= .ty "int") (c:= .type "int") rfl rfl) (by rfl) Bt.cO cA (aj (pv 0) (aj (gM (v:= .ty "int") (by rfl) Bt.OD JT rfl) aq))) (m9 (Ie (aP (fH (K:=K) (cv:= .ty "bool") (c:= .type "bool") rfl rfl) (by rfl) Bt.cO cA (aj (pv 0) (aj (gM (v:= .ty "bool") (by rfl) Bt.J3 Ed rfl) aq)))))))), ?_⟩;refine ⟨_,rfl,_,_,true,rfl,.int i,qG K,true,rfl, ?_⟩;refine iW ?_;exact ⟨_,rfl,_,_,false,rfl,.int i,oU K,false,rfl,k⟩
def v7 (K:PySem.W.Frag):Sp:=fun vs H Q _=>∃(i:Int) (n:Nat),vs=[.int i,.int n]/\Q (.bl (decide (Tt i n))) H
theorem yx {f:Addr} {fd:FuncData} (F:j4 K "is_below" "is_below" dJ f fd) (nO:FnAt P w K mg base 1 "is_whole" ["value"] (KH K)):cJ P w K mg base jf 2 f fd ["value","count"] (v7 K):=by
 refine F.ok yd (fun vs H Q E h=> ?_) (fun cdv A outer s H vs Q E hr h=> ?_)
 ·obtain ⟨i,n,rfl,_⟩:=h
  rfl
 ·obtain ⟨i,n,rfl,k⟩:=h
  refine ⟨_,(aG (aX (pO (bF nO (hr.mono (by decide)) (by rfl) (aj (pv 0) aq)) (m9 (Ij Il tu aD (pv 0) (pv 1)))))), ?_⟩;refine ⟨_,rfl,i,rfl,true,rfl, ?_⟩;refine iW ?_;refine ⟨_,rfl,_,_,rfl,rfl,_,rfl, ?_⟩;refine mK (fun h0=> ?_) (fun h0=> ?_)
  ·refine ⟨_,rfl,_,_,rfl,rfl, ?_⟩
   have e:decide (Tt i n)=decide (i<(n:Int)):=by
    have h0:=of_decide_eq_true h0;rw [Bool.eq_iff_iff,decide_eq_true_iff,decide_eq_true_iff];exact ⟨fun z=>z.2,fun z=>⟨h0,z⟩⟩
   show Q (.bl (decide (i<(n:Int)))) H;rw [←e];exact k
  ·have e:decide (Tt i n)=false:=decide_eq_false fun z=>h0 (decide_eq_true z.1)
   rw [←e];exact k
structure Rc where
 (o dx a nd kn tk pl:Addr)
 (ps:List Addr)
def Rc.fp (R:Rc):List Addr:=R.a::R.nd::R.kn::R.tk::R.ps
def rF (a nd kn tk pl:Addr):List (Str×V):=[("web",.ref a),("named",.ref nd),("knowns",.ref kn),("taken",.ref tk),("places",.ref pl)]
def oK (ws:List bC) (h:Int):List Nat:=(List.range ws.length).filter fun i=>decide (hnd ws i=h)
structure RcAt (C:Addr) (H:Hp) (R:Rc) (ws:List bC) (hn:Nat):Prop where
 o:H R.o=some (.ins C R.dx (rF R.a R.nd R.kn R.tk R.pl))
 web:gU H R.a ws
 named:jZ H R.nd (nm ws)
 Tn:jw H R.kn ws ws.length
 tkn:∃ts,d9 H R.tk ts/\ts.Perm (iG ws ws.length)
 pl:H R.pl=some (.lst (R.ps.map V.ref))
 Od:R.ps.length=hn
 Ro:∀(h:Nat) (p:Addr),R.ps[h]? = some p->H p=some (.lst (dz (oK ws (h:Int))))
 nd:R.fp.Nodup
 rC:R.pl∉R.fp
def Vo (W:List Addr) (H H':Hp):Prop:=∀b u,H b=some u->b∉W->H' b=some u
theorem RcAt.same {C:Addr} {H H':Hp} {R:Rc} {ws:List bC} {hn:Nat} (r:RcAt C H R ws hn) (k:Same H H'):RcAt C H' R ws hn:=by
 obtain ⟨ts,t1,t2⟩:=r.tkn;exact ⟨k _ _ r.o,r.web.same k,r.named.same k,r.Tn.same k,⟨ts,t1.same k,t2⟩,k _ _ r.pl,r.Od,fun h p e=>k _ _ (r.Ro h p e),r.nd,r.rC⟩
theorem iM {ws:List bC} {x:bC} {i j:Nat} (hj:j<ws.length):qw (ws++[x]) i j=qw ws i j:=by
 unfold qw Ph
 by_cases l:i<j
 ·rw [List.getElem?_append_left (by omega),List.getElem?_append_left hj]
 ·rw [decide_eq_false l,Bool.false_and,Bool.false_and]
theorem lN {ws:List bC} {x:bC} {i j:Nat} (hj:j<ws.length):qY (ws++[x]) j i↔qY ws j i:=by
 constructor
 ·intro r
  induction r with
  | one h=>exact .one (by rwa [iM hj] at h)
  | more h r ih=>
    have:=ih.lt;exact .more (by rwa [iM (by (clear h hj;omega))] at h) ih
 ·intro r
  induction r with
  | one h=>exact .one (by rwa [iM hj])
  | more h r ih=>
    have:=r.lt;exact .more (by rwa [iM (by (clear h hj;omega))]) ih
theorem mU.snoc {ws:List bC} {x:bC} {j:Nat} {g:Int->Int} (h:mU ws j g) (hj:j<ws.length):mU (ws++[x]) j g:=by
 refine ⟨fun m y ey=> ?_,fun hh=> ?_⟩
 ·by_cases ml:m<ws.length
  ·rw [List.getElem?_append_left ml] at ey
   rw [List.take_append_of_le_length (by (clear ey hj;omega)),h.1 m y ey];constructor
   ·rintro (z|z)
    ·exact .inl z
    ·exact .inr ((lN hj).mpr z)
   ·rintro (z|z)
    ·exact .inl z
    ·exact .inr ((lN hj).mp z)
  ·have VH:=(List.getElem?_eq_some_iff.mp ey).1
   rw [List.length_append,List.length_singleton] at VH;have em:m=ws.length:=by (clear ey hj;omega)
   subst em;rw [List.take_append_of_le_length (Nat.le_refl _),List.take_length];have b1:=h.2 y.1;have b2:=gQ ws y.1 (j+1) (ws.length - (j+1));rw [show j+1+(ws.length - (j+1))=ws.length by (clear b2 b1 VH ml ey;omega),List.take_length] at b2;constructor
   ·intro z;(clear VH ml ey hj;omega)
   ·rintro (z|z)
    ·omega
    ·have:=z.lt;(clear b2 b1 VH ml ey;omega)
 ·rw [List.take_append_of_le_length (by omega)]
  exact h.2 hh
theorem jw.snoc {H:Hp} {kn:Addr} {ws:List bC} {x:bC} (h:jw H kn ws ws.length):jw H kn (ws++[x]) ws.length:=by
 obtain ⟨rs,e,l,q⟩:=h;refine ⟨rs,e,l,fun j r hj=> ?_⟩;have jl:=(List.getElem?_eq_some_iff.mp hj).1;obtain ⟨g,a,b⟩:=q j r hj;exact ⟨g,a,b.snoc (by (clear hj e;omega))⟩
theorem uy {ws:List bC} {x:bC} {j i:Nat} (hj:j<ws.length):cj (ws++[x]) j i=cj ws j i:=by
 unfold cj;refine List.filter_congr fun e _=> ?_
 have:Bare (ws++[x]) j e↔Bare ws j e:=by
  unfold Bare Ek;rw [iM hj];constructor
  ·rintro ⟨a,b⟩
   refine ⟨a,fun ⟨y,y1,y2,y3⟩=>b ⟨y,y1,by rw [iM hj];exact y2,y3.imp id (lN (by have:=pF y2;(clear y3 y2 y1 b a hj;omega))).mpr⟩⟩
  ·rintro ⟨a,b⟩
   refine ⟨a,fun ⟨y,y1,y2,y3⟩=> ?_⟩;rw [iM hj] at y2;exact b ⟨y,y1,y2,y3.imp id (lN (by have:=pF y2;(clear y3 y2 y1 b a hj;omega))).mp⟩
 by_cases q:Bare ws j e
 ·rw [decide_eq_true q,decide_eq_true (this.mpr q)]
 ·rw [decide_eq_false q,decide_eq_false (fun z=>q (this.mp z))]
theorem lq {ws:List bC} {x:bC} {i:Nat} (hi:i<ws.length):hnd (ws++[x]) i=hnd ws i:=by
 unfold hnd;rw [List.getElem?_append_left hi]
theorem yE {ws:List bC} {x:bC} {i j:Nat} (hi:i<ws.length) (hj:j<ws.length):iR (ws++[x]) i j=iR ws i j:=by
 unfold iR;rw [lq hi,lq hj,List.take_append_of_le_length (by (clear hj;omega)),List.take_append_of_le_length (by (clear hi;omega))]
theorem oN {ws:List bC} {x:bC} {j:Nat} (hj:j<ws.length) {l:List Nat} (hl:∀e∈l,e<ws.length):bx (ws++[x]) j l=bx ws j l:=by
 unfold bx;rw [List.filter_congr (q:=fun e=>decide (¬hnd ws e=hnd ws j)) fun e he=>by rw [lq (hl e he),lq hj]];exact List.map_congr_left fun e he=>yE (hl e (List.mem_filter.mp he).1) hj
theorem o_ {ws:List bC} {j i e:Nat} (hj:j<ws.length) (h:e∈cj ws j i):e<ws.length:=by
 rcases J5 h with q|q
 ·omega
 ·subst q
  unfold cj at h;have:=(List.mem_filter.mp h).1;obtain ⟨t,_,rfl⟩:=List.mem_map.mp this;omega
theorem vM {ws:List bC} {x:bC}:∀n,n<=ws.length->iG (ws++[x]) n=iG ws n
 | 0,_=>rfl
 | n+1,h=>by
   rw [mG,mG,vM n (by omega),uy (by omega),oN (by omega) fun e he=>o_ (by omega) he]
theorem oJ (ws:List bC) (x:bC) (h:Int):oK (ws++[x]) h=oK ws h++(if x.1=h then [ws.length] else []):=by
 unfold oK;rw [List.length_append,List.length_singleton,List.range_succ,List.filter_append];congr 1
 ·refine List.filter_congr fun i hi=> ?_
  rw [lq (List.mem_range.mp hi)]
 ·have:hnd (ws++[x]) ws.length=x.1:=by unfold hnd;simp
  rw [List.filter_cons,this]
  by_cases e:x.1=h<;>simp [e]
theorem yq (h:Int):∀(n:Nat) (ws:List bC),ws.length=n->((oK ws h).length:Int)=cnt ws h
 | 0,ws,e=>by
   cases ws with
   | nil=>rfl
   | cons _ _=>cases e
 | n+1,ws,e=>by
   rcases List.eq_nil_or_concat ws with rfl|⟨l,x,rfl⟩
   ·cases e
   ·have ih:=yq h n l (by simpa using e)
    rw [List.concat_eq_append,oJ,List.length_append,d8]
    by_cases e:x.1=h
    ·rw [if_pos e,if_pos e.symm];simp;(clear e;omega)
    ·rw [if_neg e,if_neg (Ne.symm e)];simpa using ih
theorem Dm (ws:List bC) (h:Int):((oK ws h).length:Int)=cnt ws h:=yq h _ ws rfl
def oA (K:PySem.W.Frag):Sp:=fun vs H Q _=>∃(pl:Addr) (ps:List V) (h:Int),vs=[.ref pl,.int h]/\H pl=some (.lst ps)/\Tt h ps.length/\Q .non H
theorem Fi {f:Addr} {fd:FuncData} (F:j4 K "check_hand" "check_hand" cM f fd) (Cw:FnAt P w K mg base 2 "is_below" ["value","count"] (v7 K)) (Bt:qL mg):cJ P w K mg base jf 3 f fd ["places","hand"] (oA K):=by
 refine F.ok uO (fun vs H Q E h=> ?_) (fun cdv A outer s H vs Q E hr h=> ?_)
 ·obtain ⟨pl,ps,h,rfl,_⟩:=h
  rfl
 ·obtain ⟨pl,ps,h,rfl,hp,hi,k⟩:=h
  refine ⟨_,(aG (dF (jN (g_ (bF Cw (hr.mono (by decide)) (by rfl) (aj (pv 1) (aj (aP (aV (K:=K) rfl) (by rfl) Bt.gn dU (aj (pv 0) aq)) aq))))) (aG yj) bW)), ?_⟩;refine ⟨_,rfl,_,rfl,pl,_,rfl,.inl (bf.of hp),h,ps.length,rfl,_,rfl, ?_⟩;rw [decide_eq_true hi];refine gB ?_;exact k
def vU (C:Addr) (K:PySem.W.Frag):Sp:=fun vs H Q _=>∃(o dx:Addr) (hn:Int),vs=[.ref o,.int hn]/\H o=some (.ins C dx [])/\1<=hn/\hn<=8 /\
 ∀(R:Rc) (H':Hp),R.o=o->RcAt C H' R [] hn.toNat->(∀b∈R.fp,H b=none)->H R.pl=none->Kp o H H'->Q .non H'
theorem Ir {ak:Addr} {f:Addr} {fd:FuncData} (F:j4 K "__init__" "Recorder.__init__" bN f fd) (aB:cR K ak) (nO:FnAt P w K mg base 1 "is_whole" ["value"] (KH K)) (iH:Gv mg "MOST_HANDS" (.int 8)) (Bt:qL mg):cJ P w K mg base jf 2 f fd ["self","hands"] (vU ak K):=by
 refine F.ok pN (fun vs H Q E h=> ?_) (fun cdv A outer s H vs Q E hr h=> ?_)
 ·obtain ⟨o,dx,hn,rfl,_⟩:=h
  rfl
 ·obtain ⟨o,dx,hn,rfl,ho,hn0,hn1,k⟩:=h
  refine ⟨_,(aC (dF (PW.pt (Dj (jN (g_ (bF nO (hr.mono (by decide)) (by rfl) (aj (pv 1) aq)))) (wu (jN (HX Il Il aD (pv 1) (Lr (by rfl) iH.choose_spec.1 iH.choose_spec.2)))))) (aG yj) bW)
   (aC (oH (K:=K) rfl (pv 0) (bT aq) rfl)
   (aC (oH (K:=K) rfl (pv 0) (bT aq) rfl)
   (aC (oH (K:=K) rfl (pv 0) (bT aq) rfl)
   (aC (oH (K:=K) rfl (pv 0) (bT aq) rfl)
   (aG (oH (K:=K) rfl (pv 0) (gK rfl (N:=["hand"]) (own:=["hand"]) (caps:=[]) (aW.of (by kernel_rfl)) (dB (by rfl) Bt.eF (aj (pv 1) aq)) (fun _ _ _ _=>(aU (i:=0) (show List.Nodup (["hand"]:List Str) by decide +kernel) rfl (Or.inl rfl))) (fun _ _ _ _=>eX) (fun _ _ _ _=>(bT aq))) rfl))))))), ?_⟩
  refine ⟨_,rfl,hn,rfl,_,rfl, ?_⟩;refine gB ?_;refine ⟨_,rfl,_,_,rfl,rfl,_,rfl, ?_⟩;refine mK (fun _=> ?_) (fun z=>absurd (decide_eq_true hn0) z);refine ⟨_,_,rfl,rfl,_,rfl, ?_⟩;rw [decide_eq_true hn1];refine gB ?_;refine ⟨(by show 0<=sizeLine;decide),fun a ha=> ?_⟩;have na:a≠o:=(au ho ha).symm;refine ⟨_,rfl,o,ak,dx,_,rfl,aF ha _ _ ho,aB.cls,aB.Du,(by show 0<1000;decide), ?_⟩;refine ⟨(by show 0<=sizeLine;decide),fun nd uV=> ?_⟩;have k1:Kp o H (upd (upd H a (.lst [])) o (.ins ak dx (eE "web" (.ref a) []))):=(Kp.of_same (aF ha)).trans Kp.set;have ha1:(upd (upd H a (.lst [])) o (.ins ak dx (eE "web" (.ref a) []))) a=some (.lst []):=by rw [aQ na,ao]
  have ho1:(upd (upd H a (.lst [])) o (.ins ak dx (eE "web" (.ref a) []))) o=some (.ins ak dx [("web",.ref a)]):=ao;generalize (upd (upd H a (.lst [])) o (.ins ak dx (eE "web" (.ref a) [])))=H1 at k1 ha1 ho1 uV ⊢;have Oj:nd≠o:=(au ho1 uV).symm;refine ⟨_,rfl,o,ak,dx,_,rfl,aF uV _ _ ho1,aB.cls,aB.rE,(by show 1<1000;decide), ?_⟩;have k2:Kp o H1 (upd (upd H1 nd (.lst [])) o (.ins ak dx (eE "named" (.ref nd) [("web",.ref a)]))):=(Kp.of_same (aF uV)).trans Kp.set;have FP:(upd (upd H1 nd (.lst [])) o (.ins ak dx (eE "named" (.ref nd) [("web",.ref a)]))) nd=some (.lst []):=by rw [aQ Oj,ao]
  have ho2:(upd (upd H1 nd (.lst [])) o (.ins ak dx (eE "named" (.ref nd) [("web",.ref a)]))) o=some (.ins ak dx [("web",.ref a),("named",.ref nd)]):=ao;refine ⟨(by show 0<=sizeLine;decide),fun kn hkn=> ?_⟩;generalize (upd (upd H1 nd (.lst [])) o (.ins ak dx (eE "named" (.ref nd) [("web",.ref a)])))=H2 at k2 FP ho2 hkn ⊢;have Qk:kn≠o:=(au ho2 hkn).symm;have ha2:=k2 _ _ ha1 na;refine ⟨_,rfl,o,ak,dx,_,rfl,aF hkn _ _ ho2,aB.cls,aB.oO,(by show 2<1000;decide), ?_⟩;have k3:Kp o H2 (upd (upd H2 kn (.lst [])) o (.ins ak dx (eE "knowns" (.ref kn) [("web",.ref a),("named",.ref nd)]))):=(Kp.of_same (aF hkn)).trans Kp.set;have FT:(upd (upd H2 kn (.lst [])) o (.ins ak dx (eE "knowns" (.ref kn) [("web",.ref a),("named",.ref nd)]))) kn=some (.lst []):=by rw [aQ Qk,ao]
  have Ru:(upd (upd H2 kn (.lst [])) o (.ins ak dx (eE "knowns" (.ref kn) [("web",.ref a),("named",.ref nd)]))) o=some (.ins ak dx [("web",.ref a),("named",.ref nd),("knowns",.ref kn)]):=ao;refine ⟨(by show 0<=sizeLine;decide),fun tk htk=> ?_⟩;generalize (upd (upd H2 kn (.lst [])) o (.ins ak dx (eE "knowns" (.ref kn) [("web",.ref a),("named",.ref nd)])))=H3 at k3 FT Ru htk ⊢;have Rp:tk≠o:=(au Ru htk).symm;have ha3:=k3 _ _ ha2 na;have Jp:=k3 _ _ FP Oj;refine ⟨_,rfl,o,ak,dx,_,rfl,aF htk _ _ Ru,aB.cls,aB.rD,(by show 3<1000;decide), ?_⟩;have k4:Kp o H3 (upd (upd H3 tk (.lst [])) o (.ins ak dx (eE "taken" (.ref tk) [("web",.ref a),("named",.ref nd),("knowns",.ref kn)]))):=(Kp.of_same (aF htk)).trans Kp.set;have BK:(upd (upd H3 tk (.lst [])) o (.ins ak dx (eE "taken" (.ref tk) [("web",.ref a),("named",.ref nd),("knowns",.ref kn)]))) tk=some (.lst []):=by rw [aQ Rp,ao]
  have Ov:(upd (upd H3 tk (.lst [])) o (.ins ak dx (eE "taken" (.ref tk) [("web",.ref a),("named",.ref nd),("knowns",.ref kn)]))) o=some (.ins ak dx [("web",.ref a),("named",.ref nd),("knowns",.ref kn),("taken",.ref tk)]):=ao;generalize (upd (upd H3 tk (.lst [])) o (.ins ak dx (eE "taken" (.ref tk) [("web",.ref a),("named",.ref nd),("knowns",.ref kn)])))=H4 at k4 BK Ov ⊢;have Rv:=k4 _ _ ha3 na;have FN:=k4 _ _ Jp Oj;have FQ:=k4 _ _ FT Qk;have k04:=((k1.trans k2).trans k3).trans k4;refine ⟨_,rfl,hn,rfl,by (clear FQ FN Rv Ov BK Jp ha3 Rp htk Ru FT ha2 Qk hkn ho2 FP Oj uV ho1 ha1 na ha hn1 ho;omega),by (clear FQ FN Rv Ov BK Jp ha3 Rp htk Ru FT ha2 Qk hkn ho2 FP Oj uV ho1 ha1 na ha hn0 ho;omega),fun pl hpl=> ?_⟩;have Zx:pl≠o:=(au Ov hpl).symm
  refine iU (lo:=0) (n:=hn.toNat) (fun i σ H5=>(∃v,σ=[v]) /\ ∃ps:List Addr,ps.length=i/\H5 pl=some (.lst (ps.map V.ref))/\(∀p∈ps,H4 p=none/\p≠pl/\H5 p=some (.lst []))/\ps.Nodup/\Same H4 H5)
   ⟨⟨none,rfl⟩,[],rfl,ao,fun _ z=>absurd z (by simp),List.nodup_nil,aF hpl⟩ ?_ ?_
  ·rintro i σ H5 hi ⟨⟨v,rfl⟩,ps,Yq,rH,pq,SJ,s5⟩
   refine ⟨(by show 0<=sizeLine;decide),fun q hq=> ?_⟩;have sq:=aF (o:=HO.lst []) hq;have Zw:q≠pl:=(au rH hq).symm;refine ⟨_,sq _ _ rH,by rw [List.length_map,sizeLine_eq];(clear Zw hq rH Zx hpl FQ FN Rv Ov BK Jp ha3 Rp htk Ru FT ha2 Qk hkn ho2 FP Oj uV ho1 ha1 na ha hn0 ho;omega),⟨_,rfl⟩,ps++[q],by simp [Yq],by rw [ao,List.map_append];rfl,fun p hp=> ?_, ?_,(s5.trans sq).newly hpl⟩
   ·rcases List.mem_append.mp hp with hp|hp
    ·obtain ⟨p1,p2,p3⟩:=pq p hp
     exact ⟨p1,p2,by rw [aQ p2];exact sq _ _ p3⟩
    ·have:p=q:=by simpa using hp
     subst this;exact ⟨s5.free hq,Zw,by rw [aQ Zw,ao]⟩
   ·rw [List.nodup_append]
    refine ⟨SJ,by simp,fun x hx y hy e=> ?_⟩;have:y=q:=by simpa using hy
    subst this;subst e;have:=(pq x hx).2.2;rw [hq] at this;cases this
  ·rintro σ H5 ⟨⟨v,rfl⟩,ps,Yq,rH,pq,SJ,s5⟩
   refine ⟨_,rfl,o,ak,dx,_,rfl,s5 _ _ Ov,aB.cls,aB.fX,(by show 4<1000;decide), ?_⟩;have k6:Kp o H5 (upd H5 o (.ins ak dx (eE "places" (.ref pl) [("web",.ref a),("named",.ref nd),("knowns",.ref kn),("taken",.ref tk)]))):=Kp.set;have mv:∀{b u},H4 b=some u->b≠o->(upd H5 o (.ins ak dx (eE "places" (.ref pl) [("web",.ref a),("named",.ref nd),("knowns",.ref kn),("taken",.ref tk)]))) b=some u:=fun e n=>k6 _ _ (s5 _ _ e) n
   have np:∀p∈ps,p≠o:=fun p hp z=>by
    subst z;rw [(pq p hp).1] at Ov;cases Ov
   have nn:∀{b u},H4 b=some u->b∉ps:=fun e m=>by rw [(pq _ m).1] at e;cases e
   have n1:a≠nd:=au ha1 uV;have n2:a≠kn:=au ha2 hkn;have n3:a≠tk:=au ha3 htk;have n4:nd≠kn:=au FP hkn;have n5:nd≠tk:=au Jp htk;have n6:kn≠tk:=au FT htk
   have f4:∀{b},b≠o->H4 b=none->H b=none:=fun n e=>by
    cases q:H _ with
    | none=>rfl
    | some u=>rw [k04 _ _ q n] at e;cases e
   refine k ⟨o,dx,a,nd,kn,tk,pl,ps⟩ _ rfl ⟨ao,⟨[],mv Rv na,by simp [aJ]⟩,⟨[],mv FN Oj,by simp [nm,aJ]⟩,⟨[],mv FQ Qk,rfl,fun j r hj=>by simp at hj⟩,⟨[],⟨[],mv BK Rp,by simp [aJ]⟩,by simp [iG]⟩,k6 _ _ rH Zx,by rw [Yq],fun h p e=> ?_, ?_, ?_⟩ (fun b hb=> ?_) (f4 Zx hpl) (fun b u e n=>k6 _ _ (s5 _ _ (k04 _ _ e n)) n)
   ·have hm:p∈ps:=List.mem_of_getElem? e
    rw [k6 _ _ (pq p hm).2.2 (np p hm)];rfl
   ·show (a::nd::kn::tk::ps).Nodup
    rw [List.nodup_cons,List.nodup_cons,List.nodup_cons,List.nodup_cons];refine ⟨?_, ?_, ?_,nn BK,SJ⟩
    ·simp [n1,n2,n3,nn Rv]
    ·simp [n4,n5,nn FN]
    ·simp [n6,nn FQ]
   ·show pl∉(a::nd::kn::tk::ps)
    have q1:pl≠a:=(au Rv hpl).symm;have q2:pl≠nd:=(au FN hpl).symm;have q3:pl≠kn:=(au FQ hpl).symm;have q4:pl≠tk:=(au BK hpl).symm;have q5:pl∉ps:=fun m=>(pq pl m).2.1 rfl;simp [q1,q2,q3,q4,q5]
   ·have hb:b∈(a::nd::kn::tk::ps):=hb
    simp only [List.mem_cons] at hb;rcases hb with rfl|rfl|rfl|rfl|hb
    ·exact ha
    ·cases q:H _ with
     | none=>rfl
     | some u=>rw [k1 _ _ q Oj] at uV;cases uV
    ·cases q:H _ with
     | none=>rfl
     | some u=>rw [(k1.trans k2) _ _ q Qk] at hkn;cases hkn
    ·cases q:H _ with
     | none=>rfl
     | some u=>rw [((k1.trans k2).trans k3) _ _ q Rp] at htk;cases htk
    ·exact f4 (np b hb) (pq b hb).1
theorem take_snoc {ws:List bC} {i:Nat} {x:bC} (e:ws[i]? = some x):ws.take i++[x]=ws.take (i+1):=by
 obtain ⟨l,rfl⟩:=List.getElem?_eq_some_iff.mp e;exact List.take_append_getElem l
def Hq (C:Addr) (K:PySem.W.Frag):Sp:=fun vs H Q _=>∃(R:Rc) (ws:List bC) (hn:Nat) (h cl:Int) (kd:Str),vs=[.ref R.o,.int h,.str kd,.int cl]/\RcAt C H R ws hn/\ws.length<300/\(∀x∈ws,0<=x.1/\x.1<8)/\0<=h/\h<hn/\hn<=8 /\
 ∀(r:Addr) (ns:List Nt) (H':Hp),H r=none->d9 H' r ns->ns.Perm (bx (ws++[(h,kd,cl)]) ws.length (cj (ws++[(h,kd,cl)]) ws.length ws.length))->uE ns->RcAt C H' R (ws++[(h,kd,cl)]) hn->Vo R.fp H H'->Q (.ref r) H'
theorem Qh {ak:Addr} {f:Addr} {fd:FuncData} (F:j4 K "did" "Recorder.did" bV f fd) (aB:cR K ak) (jV:FnAt P w K mg base 3 "check_hand" ["places","hand"] (oA K)) (xu:FnAt P w K mg base 3 "bare_steps" ["web","named","knowns","place"] (Al K)) (Cu:FnAt P w K mg base 1 "notes_to" ["named","bare","name"] (pI K)) (Bt:qL mg):cJ P w K mg base jf 4 f fd ["self","hand","kind","cell"] (Hq ak K):=by
 refine F.ok dN (fun vs H Q E h=> ?_) (fun cdv A outer s H vs Q E hr h=> ?_)
 ·obtain ⟨R,ws,hn,h,cl,kd,rfl,_⟩:=h
  rfl
 ·obtain ⟨R,ws,hn,h,cl,kd,rfl,r,wl,Oh,h0,h1,h8,k⟩:=h
  refine ⟨_,(aC (cV (bF jV (hr.mono (by decide)) (by rfl) (aj (cG (K:=K) rfl (pv 0) rfl) (aj (pv 1) aq))))
   (aC (aR (i:=4) dN.nd rfl (Or.inl rfl) (aP (aV (K:=K) rfl) (by rfl) Bt.gn dU (aj (cG (K:=K) rfl (pv 0) rfl) aq)))
   (aC (aR (i:=5) dN.nd rfl (Or.inl rfl) (jh (aj (pv 1) (aj (aP (aV (K:=K) rfl) (by rfl) Bt.gn dU (aj (aM (aL (K:=K) rfl) (cG (K:=K) rfl (pv 0) rfl) (pv 1) (fun _ _=>rfl)) aq)) aq))))
   (aC (cV (dg (K:=K) rfl (cG (K:=K) rfl (pv 0) rfl) (aj (jh (aj (pv 1) (aj (pv 2) (aj (pv 3) aq)))) aq)))
   (aC (cV (dg (K:=K) rfl (cG (K:=K) rfl (pv 0) rfl) (aj (pv 5) aq)))
   (aC (cV (dg (K:=K) rfl (aM (aL (K:=K) rfl) (cG (K:=K) rfl (pv 0) rfl) (pv 1) (fun _ _=>rfl)) (aj (pv 4) aq)))
   (aC (aR (i:=6) dN.nd rfl (Or.inl rfl) (bF xu (hr.mono (by decide)) (by rfl) (aj (cG (K:=K) rfl (pv 0) rfl) (aj (cG (K:=K) rfl (pv 0) rfl) (aj (cG (K:=K) rfl (pv 0) rfl) (aj (pv 4) aq))))))
   (aC (cV (dg (K:=K) rfl (cG (K:=K) rfl (pv 0) rfl) (aj (aM (bA (K:=K) rfl) (pv 6) aD (fun _ _=>rfl)) aq)))
   (aC (aR (i:=7) dN.nd rfl (Or.inl rfl) (aP (je (K:=K) rfl) (by rfl) Bt.o9 mF (aj (bF Cu (hr.mono (by decide)) (by rfl) (aj (cG (K:=K) rfl (pv 0) rfl) (aj (aM (bA (K:=K) rfl) (pv 6) aD (fun _ _=>rfl)) (aj (pv 5) aq)))) aq)))
   (aC (cV (kO (K:=K) rfl PySem.F.plainAttrs_list PySem.F.slot_list_extend PySem.F.type_list_extend pQ (cG (K:=K) rfl (pv 0) rfl) (aj (pv 7) aq)))
   (aG (aX (pv 7))))))))))))), ?_⟩
  obtain ⟨ro,rw0,rnd,rkn,⟨ts,XF,tp⟩,gY,xK,rps,nd0,rC⟩:=r;obtain ⟨wv,hw,dw⟩:=id rw0;obtain ⟨nv,uU,dn⟩:=id rnd;obtain ⟨tv,htv,dt⟩:=id XF;have uK:wv.length=ws.length:=by rw [dw.length,List.length_map]
  have vg:nv.length=ws.length:=by rw [dn.length,List.length_map,Fq]
  have xH:tv.length<=ws.length*ws.length:=by rw [dt.length,List.length_map,tp.length_eq];exact lC ws _
  have tq:ws.length*ws.length<=300*300:=Nat.mul_le_mul (by (clear xH vg uK htv uU hw rC xK gY ro h8 h1 h0;omega)) (by (clear xH vg uK htv uU hw rC xK gY ro h8 h1 h0;omega));obtain ⟨hN,rfl⟩:∃m:Nat,h=m:=⟨h.toNat,by (clear tq xH vg uK htv uU hw rC xK gY ro h8 h1 wl;omega)⟩;have oM:hN<R.ps.length:=by (clear h0 tq xH vg uK htv uU hw rC gY ro h8 wl;omega)
  obtain ⟨p,ep⟩:∃p,R.ps[hN]? = some p:=⟨R.ps[hN],by simp [oM]⟩;have hp:=rps hN p ep;have pm:p∈R.ps:=List.mem_of_getElem? ep;have hps:(R.ps.map V.ref)[hN]? = some (.ref p):=by rw [List.getElem?_map,ep];rfl
  have nd1:(R.a::R.nd::R.kn::R.tk::R.ps).Nodup:=nd0;simp only [List.nodup_cons,List.mem_cons,not_or] at nd1;obtain ⟨⟨n1,n2,n3,n4⟩,⟨n5,n6,n7⟩,⟨n8,n9⟩,n10,SJ⟩:=nd1;have np1:R.pl∉(R.a::R.nd::R.kn::R.tk::R.ps):=rC;simp only [List.mem_cons,not_or] at np1;obtain ⟨q1,q2,q3,q4,q5⟩:=np1;have yD:R.a≠p:=fun z=>n4 (z▸pm);have yC:R.nd≠p:=fun z=>n7 (z▸pm);have zW:R.kn≠p:=fun z=>n9 (z▸pm);have zU:R.tk≠p:=fun z=>n10 (z▸pm);have zV:R.pl≠p:=fun z=>q5 (z▸pm);have S7:∀{b:Addr} {ys:List V},H b=some (.lst ys)->R.o≠b:=fun e=>qz ro e (by intro z;cases z);have xM:=S7 hw;have non:=S7 uU;have nop:=S7 hp;have not_:=S7 htv;obtain ⟨_,hkv,_⟩:=id rkn;have zX:=S7 hkv;have yp:(dz (oK ws (hN:Int))).length=(oK ws (hN:Int)).length:=by rw [dz,List.length_map]
  have plb:(oK ws (hN:Int)).length<=ws.length:=by unfold oK;exact Nat.le_trans (List.length_filter_le _ _) (by simp)
  refine ⟨_,rfl,R.o,ak,R.dx,_,_,rfl,ro,aB.cls,aB.fX,rfl,_,rfl,R.pl,R.ps.map V.ref,(hN:Int),rfl,gY,⟨by (clear plb yp zX hkv not_ nop non xM zV zU zW yC yD q5 q4 q3 q2 q1 n10 n9 n8 n7 n6 n5 n4 n3 n2 n1 hps hp ep oM h1 h0 tq xH vg uK htv uU hw rC xK gY ro h8 wl;omega),by rw [List.length_map];(clear plb yp zX hkv not_ nop non xM zV zU zW yC yD q5 q4 q3 q2 q1 n10 n9 n8 n7 n6 n5 n4 n3 n2 n1 hps hp ep oM h0 tq xH vg uK htv uU hw rC gY ro h8 wl;omega)⟩, ?_⟩;refine ⟨_,rfl,R.o,ak,R.dx,_,_,rfl,ro,aB.cls,aB.Du,rfl,R.a,wv,rfl,.inl (bf.of hw), ?_⟩;rw [uK];refine ⟨_,rfl,_,rfl,R.o,ak,R.dx,_,_,rfl,ro,aB.cls,aB.fX,rfl,_,rfl,_,_,_,_,rfl,rfl,bf.of gY,bB hps,p,_,rfl,.inl (bf.of hp),(by show 2<=sizeLine;decide),fun tn htn=> ?_⟩;rw [yp,Dm];have s1:=aF (o:=HO.tup [V.int hN,V.int (cnt ws (hN:Int))]) htn;have mL:(upd H tn (.tup [V.int hN,V.int (cnt ws (hN:Int))])) tn=some (.tup [V.int hN,V.int (cnt ws (hN:Int))]):=ao;generalize (upd H tn (.tup [V.int hN,V.int (cnt ws (hN:Int))]))=H1 at s1 mL ⊢;refine ⟨_,rfl,R.o,ak,R.dx,_,_,rfl,s1 _ _ ro,aB.cls,aB.Du,rfl,.inl ⟨rfl,_,bf.of (s1 _ _ hw)⟩,_,rfl,_,rfl,_,rfl,(by show 3<=sizeLine;decide),fun tw htw=> ?_⟩;have s2:=aF (o:=HO.tup [V.int hN,V.str kd,V.int cl]) htw;have nq:(upd H1 tw (.tup [V.int hN,V.str kd,V.int cl])) tw=some (.tup [V.int hN,V.str kd,V.int cl]):=ao;generalize (upd H1 tw (.tup [V.int hN,V.str kd,V.int cl]))=H2 at s2 nq ⊢;have s12:=s1.trans s2;refine ⟨R.a,_,_,rfl,rfl,s12 _ _ hw,by rw [uK,sizeLine_eq];(clear nq htw mL htn plb yp zX hkv not_ nop non xM zV zU zW yC yD q5 q4 q3 q2 q1 n10 n9 n8 n7 n6 n5 n4 n3 n2 n1 hps hp ep oM h1 h0 tq xH vg uK htv uU hw rC xK gY ro h8;omega), ?_⟩;have k3:Kp R.a H2 (upd H2 R.a (.lst (wv++[V.ref tw]))):=Kp.set;have t3:=k3.tups (s12 _ _ hw);have DK:(upd H2 R.a (.lst (wv++[V.ref tw]))) R.a=some (.lst (wv++[V.ref tw])):=ao;generalize (upd H2 R.a (.lst (wv++[V.ref tw])))=H3 at k3 t3 DK ⊢;have mO:=k3 _ _ (s12 _ _ uU) (Ne.symm n1);refine ⟨_,rfl,R.o,ak,R.dx,_,_,rfl,k3 _ _ (s12 _ _ ro) xM,aB.cls,aB.rE,rfl,.inl ⟨rfl,_,bf.of mO⟩,_,rfl,R.nd,_,_,rfl,rfl,mO,by rw [vg,sizeLine_eq];(clear mO DK nq htw mL htn plb yp zX hkv not_ nop non xM zV zU zW yC yD q5 q4 q3 q2 q1 n10 n9 n8 n7 n6 n5 n4 n3 n2 n1 hps hp ep oM h1 h0 tq xH vg uK htv uU hw rC xK gY ro h8;omega), ?_⟩;have k4:Kp R.nd H3 (upd H3 R.nd (.lst (nv++[V.ref tn]))):=Kp.set;have t4:=k4.tups mO;have BR:(upd H3 R.nd (.lst (nv++[V.ref tn]))) R.nd=some (.lst (nv++[V.ref tn])):=ao;generalize (upd H3 R.nd (.lst (nv++[V.ref tn])))=H4 at k4 t4 BR ⊢;have mv4:∀{b u},H b=some u->b≠R.a->b≠R.nd->H4 b=some u:=fun e a b=>k4 _ _ (k3 _ _ (s12 _ _ e) a) b;have BP:=mv4 hp yD.symm yC.symm;refine ⟨_,rfl,R.o,ak,R.dx,_,_,rfl,mv4 ro xM non,aB.cls,aB.fX,rfl,_,rfl,_,_,_,_,rfl,rfl,bf.of (mv4 gY q1 q2),bB hps,.inl ⟨rfl,_,bf.of BP⟩,_,rfl,p,_,_,rfl,rfl,BP,by rw [yp,sizeLine_eq];(clear BP BR mO DK nq htw mL htn yp zX hkv not_ nop non xM zV zU zW yC yD q5 q4 q3 q2 q1 n10 n9 n8 n7 n6 n5 n4 n3 n2 n1 hps hp ep oM h1 h0 tq xH vg uK htv uU hw rC xK gY ro h8;omega), ?_⟩;have k5:Kp p H4 (upd H4 p (.lst (dz (oK ws (hN:Int))++[V.int (ws.length:Int)]))):=Kp.set;have t5:=k5.tups BP;have rH:(upd H4 p (.lst (dz (oK ws (hN:Int))++[V.int (ws.length:Int)]))) p=some (.lst (dz (oK ws (hN:Int))++[V.int (ws.length:Int)])):=ao;generalize (upd H4 p (.lst (dz (oK ws (hN:Int))++[V.int (ws.length:Int)])))=H5 at k5 t5 rH ⊢;have Rr:∀{b u},H b=some u->b≠R.a->b≠R.nd->b≠p->H5 b=some u:=fun e a b c=>k5 _ _ (mv4 e a b) c;have W2:∀a xs,H a=some (HO.tup xs)->H5 a=some (HO.tup xs):=fun a xs e=>t5 _ _ (t4 _ _ (t3 _ _ (s12 _ _ e)))
  have W5:gU H5 R.a (ws++[((hN:Int),kd,cl)]):=by
   refine ⟨wv++[V.ref tw],k5 _ _ (k4 _ _ DK n1) yD, ?_⟩;rw [List.map_append];refine aJ.append (aJ.keep W2 _ (bH _ wO _) dw) ⟨D_ (x:=((hN:Int),kd,cl)) (t5 _ _ (t4 _ _ (t3 _ _ nq))),trivial⟩
  have N5:jZ H5 R.nd (nm (ws++[((hN:Int),kd,cl)])):=by
   refine ⟨nv++[V.ref tn],k5 _ _ BR yC, ?_⟩;rw [Mq,List.map_append];refine aJ.append (aJ.keep W2 _ (bH _ BJ _) dn) ⟨M_ (x:=((hN:Int),cnt ws (hN:Int))) (t5 _ _ (t4 _ _ (t3 _ _ (s2 _ _ mL)))),trivial⟩
  have K5:jw H5 R.kn (ws++[((hN:Int),kd,cl)]) ws.length:=((((rkn.snoc.same s12).kp k3 (s12 _ _ hw) (Ne.symm n2)).kp k4 mO (Ne.symm n5)).kp k5 BP zW);have T5:H5 R.tk=some (.lst tv):=Rr htv (Ne.symm n3) (Ne.symm n6) zU;have kl5:Vo R.fp H H5:=fun b u e n=>Rr e (fun z=>n (z ▸ .head _)) (fun z=>n (z ▸ .tail _ (.head _))) (fun z=>n (z ▸ .tail _ (.tail _ (.tail _ (.tail _ pm)))));have Aw:=Rr ro xM non nop;have sO:=Rr gY q1 q2 zV
  have ps5:∀(h:Nat) (x:Addr),R.ps[h]? = some x->H5 x=some (.lst (dz (oK (ws++[((hN:Int),kd,cl)]) (h:Int)))):=fun h x e=>by
   have xm:x∈R.ps:=List.mem_of_getElem? e;rw [oJ]
   by_cases eh:h=hN
   ·subst eh
    rw [ep] at e;cases e;rw [rH,if_pos rfl];simp [dz]
   ·rw [if_neg (by show ¬(hN:Int)=(h:Int);(clear e sO Aw T5 rH BP BR mO DK nq htw mL htn plb yp zX hkv not_ nop non xM zV zU zW yC yD q5 q4 q3 q2 q1 n10 n9 n8 n7 n6 n5 n4 n3 n2 n1 hps hp ep oM h1 h0 tq xH vg uK htv uU hw rC xK gY ro h8 wl;omega)),List.append_nil]
    refine Rr (rps h x e) (fun z=>n4 (z▸xm)) (fun z=>n7 (z▸xm)) fun z=>eh ?_;subst z;have l1:=(List.getElem?_eq_some_iff.mp e).1;rw [←ep] at e;exact (List.getElem?_inj l1 SJ).mp e
  have Yt:∀x∈ws++[((hN:Int),kd,cl)],0<=x.1/\x.1<8:=fun x hx=>by
   rcases List.mem_append.mp hx with hx|hx
   ·exact Oh x hx
   ·have:x=((hN:Int),kd,cl):=by simpa using hx
    subst this;exact ⟨by show 0<=(hN:Int);(clear sO Aw T5 rH BP BR mO DK nq htw mL htn plb yp zX hkv not_ nop non xM zV zU zW yC yD q5 q4 q3 q2 q1 n10 n9 n8 n7 n6 n5 n4 n3 n2 n1 hps hp ep oM h1 h0 tq xH vg uK htv uU hw rC xK gY ro h8 wl;omega),by show (hN:Int)<8;(clear sO Aw T5 rH BP BR mO DK nq htw mL htn plb yp zX hkv not_ nop non xM zV zU zW yC yD q5 q4 q3 q2 q1 n10 n9 n8 n7 n6 n5 n4 n3 n2 n1 hps hp ep oM h0 tq xH vg uK htv uU hw rC xK gY ro wl;omega)⟩
  have f5:∀{b},H5 b=none->H b=none:=fun {b} e=>by
   cases q:H b with
   | none=>rfl
   | some u=>
     by_cases c1:b=R.a
     ·subst c1;obtain ⟨_,z,_⟩:=W5;rw [z] at e;cases e
     ·by_cases c2:b=R.nd
      ·subst c2;obtain ⟨_,z,_⟩:=N5;rw [z] at e;cases e
      ·by_cases c3:b=p
       ·subst c3;rw [rH] at e;cases e
       ·rw [Rr q c1 c2 c3] at e;cases e
  have Rm:(ws++[((hN:Int),kd,cl)]).length=ws.length+1:=by simp
  have hnx:hnd (ws++[((hN:Int),kd,cl)]) ws.length=(hN:Int):=by unfold hnd;simp
  have NQ:(ws++[((hN:Int),kd,cl)]).take ws.length=ws:=by simp
  have yX:H5 tn=some (.tup [V.int hN,V.int (cnt ws (hN:Int))]):=t5 _ _ (t4 _ _ (t3 _ _ (s2 _ _ mL)));have al:=vM (x:=((hN:Int),kd,cl)) ws.length (Nat.le_refl _);have as:=mG (ws++[((hN:Int),kd,cl)]) ws.length;generalize ws++[((hN:Int),kd,cl)]=ws' at *;refine ⟨_,rfl,R.o,ak,R.dx,_,_,rfl,Aw,aB.cls,aB.Du,rfl,_,rfl,R.o,ak,R.dx,_,_,rfl,Aw,aB.cls,aB.rE,rfl,_,rfl,R.o,ak,R.dx,_,_,rfl,Aw,aB.cls,aB.oO,rfl,_,rfl,R.a,R.nd,R.kn,ws',ws.length,rfl,W5,N5,K5,by (clear as al NQ hnx yX sO Aw T5 rH BP BR mO DK nq htw mL htn plb yp zX hkv not_ nop non xM zV zU zW yC yD q5 q4 q3 q2 q1 n10 n9 n8 n7 n6 n5 n4 n3 n2 n1 hps hp ep oM h1 h0 tq xH vg uK htv uU hw rC xK gY ro h8 wl;omega),by (clear as al NQ hnx yX sO Aw T5 rH BP BR mO DK nq htw mL htn plb yp zX hkv not_ nop non xM zV zU zW yC yD q5 q4 q3 q2 q1 n10 n9 n8 n7 n6 n5 n4 n3 n2 n1 hps hp ep oM h1 h0 tq xH vg uK htv uU hw rC xK gY ro h8;omega),Yt,fun pr b d g H6 hpr hb kd6 ko hb0 hd0 hp0 s6=> ?_⟩;obtain ⟨rs,hk,rl,rq⟩:=id (K5.same s6);refine ⟨_,rfl,R.o,ak,R.dx,_,_,rfl,s6 _ _ Aw,aB.cls,aB.oO,rfl,.inl ⟨rfl,_,bf.of hk⟩,_,rfl,_,_,_,_,rfl,rfl,dZ.of hpr,rfl,R.kn,_,_,rfl,rfl,hk,by rw [List.length_map,sizeLine_eq];(clear hk hp0 hd0 hb0 hb hpr as al NQ hnx Rm yX sO Aw T5 rH BP BR mO DK nq htw mL htn plb yp zX hkv not_ nop non xM zV zU zW yC yD q5 q4 q3 q2 q1 n10 n9 n8 n7 n6 n5 n4 n3 n2 n1 hps hp ep oM h1 h0 tq xH vg uK htv uU hw rC xK gY ro h8;omega), ?_⟩;have k7:Kp R.kn H6 (upd H6 R.kn (.lst (rs.map V.ref++[V.ref d]))):=Kp.set;have t7:=k7.tups hk
  have K7:jw (upd H6 R.kn (.lst (rs.map V.ref++[V.ref d]))) R.kn ws' (ws.length+1):=by
   refine ⟨rs++[d],by rw [ao,List.map_append];rfl,by simp [rl],fun m r' hm=> ?_⟩
   by_cases hml:m<rs.length
   ·rw [List.getElem?_append_left hml] at hm
    obtain ⟨g',kd',ko'⟩:=rq m r' hm;obtain ⟨_,h,_⟩:=kd'.ex;exact ⟨g',kd'.kp k7 (qz h hk (by intro z;cases z)),ko'⟩
   ·have hm2:=(List.getElem?_eq_some_iff.mp hm).1
    rw [List.length_append,List.length_singleton] at hm2;have em:m=rs.length:=by (clear hm rl hk hp0 hd0 hb0 hb hpr as al NQ hnx Rm yX sO Aw T5 rH BP BR mO DK nq htw mL htn plb yp zX hkv not_ nop non xM zV zU zW yC yD q5 q4 q3 q2 q1 n10 n9 n8 n7 n6 n5 n4 n3 n2 n1 hps hp ep oM h1 h0 tq xH vg uK htv uU hw rC xK gY ro h8 wl;omega)
    subst em;rw [List.getElem?_append_right (Nat.le_refl _)] at hm;simp at hm;subst hm;rw [rl];obtain ⟨_,h,_⟩:=kd6.ex;exact ⟨g,kd6.kp k7 (qz h hk (by intro z;cases z)),ko⟩
  generalize (upd H6 R.kn (.lst (rs.map V.ref++[V.ref d])))=H7 at k7 t7 K7 ⊢;have Ol:∀{b u},H5 b=some u->b≠R.kn->H7 b=some u:=fun e n=>k7 _ _ (s6 _ _ e) n;have W7:gU H7 R.a ws':=(W5.same s6).kp hk k7 n2;have N7:jZ H7 R.nd (nm ws'):=(N5.same s6).kp hk k7 n5;have Rn:=Ol Aw zX
  have Wh:H7 b=some (.lst (dz (cj ws' ws.length ws.length))):=k7 _ _ hb fun z=>by
   obtain ⟨_,z5,_⟩:=K5;rw [z,z5] at hb0;cases hb0
  have T7:d9 H7 R.tk ts:=by
   refine ⟨tv,Ol T5 (Ne.symm n8),aJ.keep (fun a xs e=>t7 _ _ (s6.tups _ _ (W2 _ _ e))) _ (bH _ gC _) dt⟩
  have f7:∀{b},H7 b=none->H5 b=none:=fun {b} e=>by
   cases q:H5 b with
   | none=>rfl
   | some u=>
     by_cases c:b=R.kn
     ·subst c;obtain ⟨_,z,_⟩:=K7;rw [z] at e;cases e
     ·rw [Ol q c] at e;cases e
  have bl:=ju ws' ws.length ws.length
  have MK:H7 tn=some (.tup [.int (hnd ws' ws.length),.int (cnt (ws'.take ws.length) (hnd ws' ws.length))]):=by
   rw [hnx,NQ];exact t7 _ _ (s6.tups _ _ yX)
  refine ⟨_,rfl,R.o,ak,R.dx,_,_,rfl,Rn,aB.cls,aB.rE,rfl,_,rfl,_,_,_,_,rfl,rfl,dZ.of (t7 _ _ hpr),rfl,_,rfl,R.nd,b,tn,ws',ws.length,_,rfl,N7,Wh,MK,fun e he=>o_ (by (clear MK bl Wh Rn rl hk hp0 hd0 hb0 hb hpr as al NQ hnx yX sO Aw T5 rH BP BR mO DK nq htw mL htn plb yp zX hkv not_ nop non xM zV zU zW yC yD q5 q4 q3 q2 q1 n10 n9 n8 n7 n6 n5 n4 n3 n2 n1 hps hp ep oM h1 h0 tq xH vg uK htv uU hw rC xK gY ro h8 wl;omega)) he,by (clear MK Wh Rn rl hk hp0 hd0 hb0 hb hpr as al NQ hnx Rm yX sO Aw T5 rH BP BR mO DK nq htw mL htn plb yp zX hkv not_ nop non xM zV zU zW yC yD q5 q4 q3 q2 q1 n10 n9 n8 n7 n6 n5 n4 n3 n2 n1 hps hp ep oM h1 h0 tq xH vg uK htv uU hw rC xK gY ro h8;omega),fun r8 H8 hr8 NT s8=> ?_⟩;dsimp only [vP];refine oE (K:=K) NT fun l ns H9 hl NN pp ss s9=> ?_;have Ko:=s8.trans s9;have T9:=T7.same Ko;obtain ⟨W0,yW,dt9⟩:=id T9;obtain ⟨Zr,hns,dns⟩:=id NN;have ntl:=i_ ws' ws.length (cj ws' ws.length ws.length);have l1:Zr.length=(bx ws' ws.length (cj ws' ws.length ws.length)).length:=by rw [dns.length,List.length_map,pp.length_eq]
  have etv:W0=tv:=by
   have z:=Ko _ _ (Ol T5 (Ne.symm n8));rw [yW] at z;injection z with z;injection z
  subst etv
  have nlt:l≠R.tk:=fun z=>by
   subst z;rw [s8 _ _ (Ol T5 (Ne.symm n8))] at hl;cases hl
  refine ⟨_,rfl,R.o,ak,R.dx,_,_,rfl,Ko _ _ Rn,aB.cls,aB.rD,rfl,.inl ⟨rfl,_,bf.of yW⟩,_,rfl,R.tk,l,_,_,rfl,rfl,yW,hns,by rw [sizeLine_eq];(clear nlt T5 htv hns yW hl hr8 MK Wh Rn rl hk hp0 hd0 hb0 hb hpr as al NQ hnx Rm yX sO Aw rH BP BR mO DK nq htw mL htn plb yp zX hkv not_ nop non xM zV zU zW yC yD q5 q4 q3 q2 q1 n10 n9 n8 n7 n6 n5 n4 n3 n2 n1 hps hp ep oM h1 h0 vg uK uU hw rC xK gY ro h8;omega), ?_⟩;have k10:Kp R.tk H9 (upd H9 R.tk (.lst (W0++Zr))):=Kp.set;have t10:=k10.tups yW;have hl0:H l=none:=f5 (f7 (s8.free hl));refine ⟨_,rfl,k l ns _ hl0 ?_ pp ss ?_ ?_⟩
  ·exact NN.kp t10 k10 nlt
  ·refine ⟨k10 _ _ (Ko _ _ Rn) not_,(W7.same Ko).kp yW k10 n3,(N7.same Ko).kp yW k10 n6,by rw [Rm];exact (K7.same Ko).kp k10 yW n8,⟨ts++ns,⟨W0++Zr,ao, ?_⟩, ?_⟩,k10 _ _ (Ko _ _ (Ol sO q3)) q4,xK,fun h x e=> ?_,nd0,rC⟩
   ·rw [List.map_append]
    exact aJ.append (aJ.keep t10 _ (bH _ gC _) dt9) (aJ.keep t10 _ (bH _ gC _) dns)
   ·rw [Rm,as,al]
    exact tp.append pp
   ·have xm:x∈R.ps:=List.mem_of_getElem? e
    exact k10 _ _ (Ko _ _ (Ol (ps5 h x e) (fun z=>n9 (z▸xm)))) (fun z=>n10 (z▸xm))
  ·intro b u e n
   exact k10 _ _ (Ko _ _ (Ol (kl5 _ _ e n) (fun z=>n (z ▸ .tail _ (.tail _ (.head _)))))) (fun z=>n (z ▸ .tail _ (.tail _ (.tail _ (.head _)))))
def n_ (C:Addr) (K:PySem.W.Frag):Sp:=fun vs H Q _=>∃(R:Rc) (ws:List bC) (hn:Nat),vs=[.ref R.o]/\RcAt C H R ws hn /\
 ∀(r:Addr) (ns:List Nt) (H':Hp),H r=none->d9 H' r ns->ns.Perm (iG ws ws.length)->uE ns->Same H H'->Q (.ref r) H'
theorem Fd {ak:Addr} {f:Addr} {fd:FuncData} (F:j4 K "notes" "Recorder.notes" bI f fd) (aB:cR K ak) (Bt:qL mg):cJ P w K mg base jf 1 f fd ["self"] (n_ ak K):=by
 refine F.ok oF (fun vs H Q E h=> ?_) (fun cdv A outer s H vs Q E hr h=> ?_)
 ·obtain ⟨R,ws,hn,rfl,_⟩:=h
  rfl
 ·obtain ⟨R,ws,hn,rfl,r,k⟩:=h
  refine ⟨_,(aG (aX (aP (je (K:=K) rfl) (by rfl) Bt.o9 mF (aj (cG (K:=K) rfl (pv 0) rfl) aq)))), ?_⟩;obtain ⟨ts,XF,tp⟩:=r.tkn;refine ⟨_,rfl,R.o,ak,R.dx,_,_,rfl,r.o,aB.cls,aB.rD,rfl, ?_⟩;dsimp only [vP];exact oE (K:=K) XF fun l ns H9 hl NN pp ss s9=>k l ns H9 hl NN (pp.trans tp) ss s9
def KnL (ws:List bC) (h:Int) (g:Int->Int):Prop:=(oK ws h=[] -> ∀i,g i=0) /\ ∀j,(oK ws h).getLast?=some j->mU ws j g /\ ∀i,0<=g i
def oh (C:Addr) (K:PySem.W.Frag):Sp:=fun vs H Q _=>∃(R:Rc) (ws:List bC) (hn:Nat) (h:Int),vs=[.ref R.o,.int h]/\RcAt C H R ws hn/\0<=h/\h<hn/\hn<=8 /\
 ∀(r:Addr) (g:Int->Int) (H':Hp),H r=none->H' r=some (.lst ((List.range hn).map fun i:Nat=>V.int (g (i:Int))))->KnL ws h g->Same H H'->Q (.ref r) H'
theorem Fe {ak:Addr} {f:Addr} {fd:FuncData} (F:j4 K "known" "Recorder.known" bJ f fd) (aB:cR K ak) (jV:FnAt P w K mg base 3 "check_hand" ["places","hand"] (oA K)) (Bt:qL mg):cJ P w K mg base jf 4 f fd ["self","hand"] (oh ak K):=by
 refine F.ok iY (fun vs H Q E h=> ?_) (fun cdv A outer s H vs Q E hr h=> ?_)
 ·obtain ⟨R,ws,hn,h,rfl,_⟩:=h
  rfl
 ·obtain ⟨R,ws,hn,h,rfl,r,h0,h1,h8,k⟩:=h
  obtain ⟨hN,rfl⟩:∃m:Nat,h=m:=⟨h.toNat,by (clear h8 h1;omega)⟩;have gY:=r.pl;have oM:hN<R.ps.length:=by rw [r.Od];(clear gY h0 h8;omega)
  obtain ⟨p,ep⟩:∃p,R.ps[hN]? = some p:=⟨R.ps[hN],by simp [oM]⟩;have hp:=r.Ro hN p ep;have hps:(R.ps.map V.ref)[hN]? = some (.ref p):=by rw [List.getElem?_map,ep];rfl
  have hu:=DN hr
  refine ⟨_,(aC (cV (bF jV (hr.mono (by decide)) (by rfl) (aj (cG (K:=K) rfl (pv 0) rfl) (aj (pv 1) aq))))
   (aC (aR (i:=2) iY.nd rfl (Or.inr rfl) (Ii (Ez (K:=K) rfl (aM (aL (K:=K) rfl) (cG (K:=K) rfl (pv 0) rfl) (pv 1) (fun _ _=>rfl))) (aM (aL (K:=K) rfl) (cG (K:=K) rfl (pv 0) rfl) (aM (aL (K:=K) rfl) (aM (aL (K:=K) rfl) (cG (K:=K) rfl (pv 0) rfl) (pv 1) (fun _ _=>rfl)) (yr rW aD) (fun _ _=>rfl)) (fun _ _=>rfl)) yt))
   (aG (aX (gK rfl (N:=["other","known"]) (own:=["other"]) (caps:=[2]) (aW.of (by kernel_rfl)) (dB (by rfl) Bt.eF (aj (aP (aV (K:=K) rfl) (by rfl) Bt.gn dU (aj (cG (K:=K) rfl (pv 0) rfl) aq)) aq)) (fun _ _ _ _=>(aU (i:=0) (show List.Nodup (["other","known"]:List Str) by decide +kernel) rfl (Or.inl rfl))) (fun _ _ _ _=>eX) (fun _ _ _ _=>(sZ hu (pv 1) (pv 0) aD ⟨rfl,rfl,rfl,rfl⟩))))))), ?_⟩
  refine ⟨_,rfl,R.o,ak,R.dx,_,_,rfl,r.o,aB.cls,aB.fX,rfl,_,rfl,R.pl,R.ps.map V.ref,(hN:Int),rfl,gY,⟨by (clear hu hps hp ep oM gY h1 h0 h8;omega),by rw [List.length_map];(clear hu hps hp ep gY h1 h0 h8;omega)⟩, ?_⟩;refine ⟨_,rfl,R.o,ak,R.dx,_,_,rfl,r.o,aB.cls,aB.fX,rfl,_,rfl,_,_,_,_,rfl,rfl,bf.of gY,bB hps,_,.inl ⟨_,bf.of hp,rfl⟩, ?_⟩
  have rest:∀(d:Addr) (g:Int->Int) (H1:Hp),iw H1 d g->Same H H1->KnL ws (hN:Int) g->(Kz (CQ ["other"] [2] (Oo (Hi (Xa (Ss K) (Hi (Pa K (rY 0) "places") vP)) vP)) (gk 0) Hl (Hh (rY 1) (rY 0) (tC (V.int 0))))) {nx:=fun x H'=>Q V.non H',rt:=Q} [some (.ref R.o),some (.int (hN:Int)),some (.ref d)] H1:=by
   intro d g H1 kd s1 kl;have r:=r.same s1;refine ⟨_,rfl,R.o,ak,R.dx,_,_,rfl,r.o,aB.cls,aB.fX,rfl,R.pl,_,rfl,.inl (bf.of r.pl),_,rfl,by (clear hu hps hp ep oM gY h1 h0 h8;omega),by rw [List.length_map,r.Od];(clear hu hps hp ep oM gY h1 h0;omega),fun D hD=> ?_⟩;rw [List.length_map,r.Od,Int.toNat_natCast];refine p8 (fun i:Nat=>some (V.int (g (i:Int)))) hD (by (clear hD hu hps hp ep oM gY h1 h0;omega)) (fun i H2 G F hi s2 kG kF=> ?_) (fun H2 s2 e2=> ?_)
   ·obtain ⟨kvs,e,_,gv⟩:=(kd.same s2).get
    refine ⟨_,rfl,d,rfl,.inl ⟨_,.inl e⟩,_,rfl,_,uH.k (k:=Sum.inl (0+(i:Int))) e,kF _ H2 (Same.refl _) ?_⟩;rw [gv,Int.zero_add]
   ·refine k D g H2 (s1.free hD) ?_ kl (s1.trans s2)
    rw [e2];congr 2;rw [←List.filterMap_eq_map];rfl
  rcases List.eq_nil_or_concat (oK ws (hN:Int)) with e|⟨l,j,e⟩
  ·rw [e]
   refine gB ?_;intro d hd;exact rest d (fun _=>0) _ (Jl ao) (aF hd) ⟨fun _ _=>rfl,fun j z=>by rw [e] at z;cases z⟩
  ·rw [List.concat_eq_append] at e
   have e1:(!(dz (oK ws (hN:Int))).isEmpty)=true:=by rw [e];simp [dz]
   rw [e1];refine iW ?_;obtain ⟨rs,hk,rl,rq⟩:=r.Tn
   have jl:j<ws.length:=by
    have:j∈oK ws (hN:Int):=by rw [e];simp
    unfold oK at this;exact List.mem_range.mp (List.mem_filter.mp this).1
   obtain ⟨d,ed⟩:∃d,rs[j]? = some d:=⟨rs[j],by simp [rl,jl]⟩;obtain ⟨g,kd,ko⟩:=rq j d ed;refine ⟨_,rfl,R.o,ak,R.dx,_,_,rfl,r.o,aB.cls,aB.oO,rfl,_,rfl,R.o,ak,R.dx,_,_,rfl,r.o,aB.cls,aB.fX,rfl,_,rfl,_,_,_,_,rfl,rfl,bf.of gY,bB hps,_,rfl,_,_,_,_,rfl,rfl,bf.of hp,(show rN (dz (oK ws (hN:Int))) (-1)=some (V.int (j:Int)) from by rw [e,dz,List.map_append];exact J6 _ _),_,_,_,_,rfl,rfl,bf.of hk,(bB (j:=j) (v:=V.ref d) (by rw [List.getElem?_map,ed];rfl)), ?_⟩;refine rest d g H kd (Same.refl _) ⟨fun z=> ?_,fun j' z=> ?_⟩
   ·rw [e] at z
    exact absurd z (by simp)
   ·rw [e] at z
    simp at z;subst z;exact ⟨ko,kd.2⟩
theorem RcAt.kp {C:Addr} {H H':Hp} {R:Rc} {ws:List bC} {hn:Nat} {x:Addr} {ys:List V} (r:RcAt C H R ws hn) (k:Kp x H H') (hx:H x=some (.lst ys)) (n1:x∉R.fp) (n2:R.pl≠x):RcAt C H' R ws hn:=by
 obtain ⟨ts,t1,t2⟩:=r.tkn;have na:R.a≠x:=fun z=>n1 (z ▸ .head _);have nn:R.nd≠x:=fun z=>n1 (z ▸ .tail _ (.head _));have nk:R.kn≠x:=fun z=>n1 (z ▸ .tail _ (.tail _ (.head _)));have nt:R.tk≠x:=fun z=>n1 (z ▸ .tail _ (.tail _ (.tail _ (.head _))));have np:∀p∈R.ps,p≠x:=fun p m z=>n1 (z ▸ .tail _ (.tail _ (.tail _ (.tail _ m))));have no:R.o≠x:=qz r.o hx (by intro z;cases z);exact ⟨k _ _ r.o no,r.web.kp hx k na,r.named.kp hx k nn,r.Tn.kp k hx nk,⟨ts,t1.kp (k.tups hx) k nt,t2⟩,k _ _ r.pl n2,r.Od,fun h p e=>k _ _ (r.Ro h p e) (np p (List.mem_of_getElem? e)),r.nd,r.rC⟩
theorem RcAt.DQ {C:Addr} {H:Hp} {R:Rc} {ws:List bC} {hn:Nat} (r:RcAt C H R ws hn) {b:Addr} (m:b∈R.fp):∃u,H b=some u:=by
 obtain ⟨_,w,_⟩:=r.web;obtain ⟨_,n,_⟩:=r.named;obtain ⟨_,k,_⟩:=r.Tn;obtain ⟨_,⟨_,t,_⟩,_⟩:=r.tkn;have m:b∈(R.a::R.nd::R.kn::R.tk::R.ps):=m;simp only [List.mem_cons] at m;rcases m with rfl|rfl|rfl|rfl|m
 ·exact ⟨_,w⟩
 ·exact ⟨_,n⟩
 ·exact ⟨_,k⟩
 ·exact ⟨_,t⟩
 ·obtain ⟨i,e⟩:=List.getElem?_of_mem m
  exact ⟨_,r.Ro i b e⟩
theorem pP:∀(suf pre:List bC) {j:Nat},j<pre.length->bx (pre++suf) j (cj (pre++suf) j j)=bx pre j (cj pre j j)
 | [],pre,j,_=>by rw [List.append_nil]
 | x::s,pre,j,h=>by
   rw [show pre++x::s=(pre++[x])++s by simp,pP s (pre++[x]) (by rw [List.length_append];omega),uy h,oN h fun e he=>o_ h he]
theorem I_ {ws:List bC} {i:Nat} (h:i<ws.length):bx (ws.take (i+1)) i (cj (ws.take (i+1)) i i)=bx ws i (cj ws i i):=by
 have:=pP (ws.drop (i+1)) (ws.take (i+1)) (j:=i) (by rw [List.length_take];omega);rw [List.take_append_drop] at this;exact this.symm
theorem G9 {hn:Int} {ws:List bC} (h:∀x∈ws,lE hn x) (h8:hn<=8):∀x∈ws,Vb x:=fun x hx=>⟨⟨(h x hx).1.1,by have:=(h x hx).1.2;omega⟩,(h x hx).2.1,(h x hx).2.2⟩
theorem Ao (ns:List Nt):SeqAt.shaped (.list (ns.map nD))=true:=
 qx nD 1 (by decide) (fun _ _=>rfl) (fun _ _=>by show (max 0 (max 0 (max 0 (max 0 0))))+1<=1;decide)
def RecAt (H:Hp) (t c a:Addr) (cs:List Int) (ns:List Nt):Prop:=H t=some (.tup [.ref c,.ref a])/\H c=some (.lst (cs.map V.int))/\d9 H a ns
theorem Uo (a b c d:V):j6 [a,b,c,d] none (some 2)=[a,b]:=zB _ 2
theorem Um (a b c d:V):j6 [a,b,c,d] (some 2) none=[c,d]:=JG _ 2
theorem Qa {α:Type} (xs:List α) (h:xs.length=4):¬(HT.gj xs.length 0 none=0/\HT.gj xs.length xs.length (some 2)=xs.length):=by
 rw [h];decide
theorem P_ {α:Type} (xs:List α) (h:xs.length=4):¬(HT.gj xs.length 0 (some 2)=0/\HT.gj xs.length xs.length none=xs.length):=by
 rw [h];decide
def qp (cs:List Int) (ns:List Nt):Prop:=Kf cs/\ns.length<=100000 /\ ∀x∈ns,J9 cs x
def num (i:Int):Str:=Str.ofString (toString i)
def nT (x:Nt):Str:=num x.1++Str.ofString "." ++ num x.2.1++Str.ofString " " ++ num x.2.2.1++Str.ofString "." ++ num x.2.2.2
def rT (cs:List Int) (ns:List Nt):Str:=Str.ofString "counts" ++ cat (cs.map fun c=>Str.ofString " " ++ num c)++cat (ns.map fun x=>Str.ofString "\n" ++ nT x)
theorem rK:∀xs:List Str,(cat xs).length=(xs.map (·.length)).sum
 | []=>rfl
 | x::xs=>by rw [cat,Str.length_append,rK xs,List.map_cons,List.sum_cons]
theorem sum_bound {α:Type} (f:α->Nat) (b:Nat):∀l:List α,(∀x∈l,f x<=b)->(l.map f).sum<=b*l.length
 | [],_=>by simp
 | x::l,h=>by
   have a:=h x (by simp);have ih:=sum_bound f b l fun y hy=>h y (by simp [hy]);rw [List.map_cons,List.sum_cons,List.length_cons,Nat.mul_add];omega
theorem jc:(Str.ofString ".").length=1:=rfl
theorem iT:(Str.ofString " ").length=1:=rfl
theorem ni:(Str.ofString "\n").length=1:=rfl
theorem jQ:(Str.ofString "counts").length=6:=rfl
theorem J9.small {cs:List Int} {x:Nt} (cok:Kf cs) (h:J9 cs x):(0<=x.1/\x.1<=1000)/\(0<=x.2.1/\x.2.1<=1000)/\(0<=x.2.2.1/\x.2.2.1<=1000)/\(0<=x.2.2.2/\x.2.2.2<=1000):=by
 obtain ⟨⟨a0,a1⟩,⟨b0,b1⟩,⟨c0,c1⟩,⟨d0,d1⟩,_⟩:=h;have l:=cok.1;have g1:=cok.gI x.1;have g2:=cok.gI x.2.2.1;refine ⟨⟨a0,by omega⟩,⟨b0,by omega⟩,⟨c0,by omega⟩,⟨d0,by omega⟩⟩
theorem Jc {x:Nt} (h:(0<=x.1/\x.1<=1000)/\(0<=x.2.1/\x.2.1<=1000)/\(0<=x.2.2.1/\x.2.2.1<=1000)/\(0<=x.2.2.2/\x.2.2.2<=1000)):(nT x).length<=19:=by
 obtain ⟨⟨a0,a1⟩,⟨b0,b1⟩,⟨c0,c1⟩,⟨d0,d1⟩⟩:=h;unfold nT num;simp only [Str.length_append,jc,iT];have:=cg a0 a1;have:=cg b0 b1;have:=cg c0 c1;have:=cg d0 d1;omega
def rZ (K:PySem.W.Frag):Sp:=fun vs H Q _=>∃(t:Addr) (a b:Int),vs=[.ref t]/\H t=some (.tup [.int a,.int b])/\(0<=a/\a<=1000)/\(0<=b/\b<=1000) /\ ∀H',Same H H'->Q (.str (num a++Str.ofString "." ++ num b)) H'
theorem E_ {f:Addr} {fd:FuncData} (F:j4 K "touch_text" "touch_text" cL f fd) (Bt:qL mg):cJ P w K mg base jf 1 f fd ["touch"] (rZ K):=by
 refine F.ok uN (fun vs H Q E h=> ?_) (fun cdv A outer s H vs Q E hr h=> ?_)
 ·obtain ⟨t,a,b,rfl,_⟩:=h
  rfl
 ·obtain ⟨t,a,b,rfl,ht,⟨a0,a1⟩,⟨b0,b1⟩,k⟩:=h
  refine ⟨_,(aG (aX (kO (K:=K) rfl PySem.F.plainAttrs_str PySem.F.slot_str_join PySem.F.type_str_join (oR (K:=K) rfl) cC (aj (gK rfl (N:=["number"]) (own:=["number"]) (caps:=[]) (aW.of (by kernel_rfl)) (Lj (K:=K) rfl (pv 0)) (fun _ _ _ _=>(aU (i:=0) (show List.Nodup (["number"]:List Str) by decide +kernel) rfl (Or.inl rfl))) (fun _ _ _ _=>eX) (fun _ _ _ _=>(dD cY (by rfl) Bt.o8 jT (aj (pv 0) aq)))) aq)))), ?_⟩;refine ⟨rfl,_,rfl,t,rfl,⟨_,dZ.of ht⟩,fun D hD=> ?_⟩;refine Gh (K:=K) (fun i=>([a,b][i]?).map fun z=>V.str (num z)) hD ht (by show 2<=100000;decide) (fun i v H2 G F hi s2 kG kF=> ?_) (fun H2 s2 e2=> ?_)
  ·obtain ⟨z,rfl,ez,z0,z1⟩:∃z,v=V.int z/\[a,b][i]? = some z/\0<=z/\z<=1000:=by
    match i,hi with
    | 0,hi=>exact ⟨a,(by simpa using hi.symm),rfl,a0,a1⟩
    | 1,hi=>exact ⟨b,(by simpa using hi.symm),rfl,b0,b1⟩
    | i+2,hi=>simp at hi
   exact ⟨_,rfl,z,rfl,jO z0 z1,kF _ H2 (Same.refl _) (by rw [ez];rfl)⟩
  ·refine ⟨_,D,[num a,num b],rfl,rfl,bf.of e2, ?_, ?_⟩
   ·have:=cg a0 a1
    have:=cg b0 b1;simp only [List.map_cons,List.map_nil,List.sum_cons,List.sum_nil,List.length_cons,List.length_nil,jc,num];omega
   ·have e:Txt.join (Str.ofString ".") [num a,num b]=num a++Str.ofString "." ++ num b:=by
     rw [glued_cons,List.map_cons,List.map_nil,cat,cat,cT,Str.append_assoc]
    rw [e];exact k H2 s2
def vV (K:PySem.W.Frag):Sp:=fun vs H Q _=>∃(t:Addr) (x:Nt),vs=[.ref t]/\H t=some (.tup (nV x))/\((0<=x.1/\x.1<=1000)/\(0<=x.2.1/\x.2.1<=1000)/\(0<=x.2.2.1/\x.2.2.1<=1000)/\(0<=x.2.2.2/\x.2.2.2<=1000)) /\ ∀H',Same H H'->Q (.str (nT x)) H'
theorem Iu {f:Addr} {fd:FuncData} (F:j4 K "note_text" "note_text" cX f fd) (pB:FnAt P w K mg base 1 "touch_text" ["touch"] (rZ K)) (Bt:qL mg):cJ P w K mg base jf 2 f fd ["note"] (vV K):=by
 refine F.ok wg (fun vs H Q E h=> ?_) (fun cdv A outer s H vs Q E hr h=> ?_)
 ·obtain ⟨t,x,rfl,_⟩:=h
  rfl
 ·obtain ⟨t,x,rfl,ht,⟨xa,xb,xc,xd⟩,k⟩:=h
  refine ⟨_,(aG (aX (kO (K:=K) rfl PySem.F.plainAttrs_str PySem.F.slot_str_join PySem.F.type_str_join (oR (K:=K) rfl) cC (aj (bT (aj (bF pB (hr.mono (by decide)) (by rfl) (aj (sX (C_ (K:=K) rfl) (pv 0) wC (wB aD)) aq)) (aj (bF pB (hr.mono (by decide)) (by rfl) (aj (sX (C_ (K:=K) rfl) (pv 0) (wB aD) wC) aq)) aq))) aq)))), ?_⟩;refine ⟨rfl,_,rfl,_,rfl,_,_,rfl,dZ.of ht,Qa _ rfl,fun p1 hp1=> ?_⟩;have c1:j6 (nV x) none (some 2)=[.int x.1,.int x.2.1]:=Uo ..;rw [c1];have s1:=aF (o:=HO.tup [V.int x.1,V.int x.2.1]) hp1;refine ⟨p1,_,_,rfl,ao,xa,xb,fun H2 s2=> ?_⟩;have s12:=s1.trans s2;refine ⟨_,rfl,_,rfl,_,_,rfl,dZ.of (s12 _ _ ht),P_ _ rfl,fun p2 hp2=> ?_⟩;have c2:j6 (nV x) (some 2) none=[.int x.2.2.1,.int x.2.2.2]:=Um ..;rw [c2];have s3:=aF (o:=HO.tup [V.int x.2.2.1,V.int x.2.2.2]) hp2;refine ⟨p2,_,_,rfl,ao,xc,xd,fun H4 s4=> ?_⟩;refine ⟨(by show 2<=sizeLine;decide),fun l hl=> ?_⟩;have s5:=aF (o:=HO.lst [V.str (num x.1++Str.ofString "." ++ num x.2.1),V.str (num x.2.2.1++Str.ofString "." ++ num x.2.2.2)]) hl;refine ⟨_,l,[num x.1++Str.ofString "." ++ num x.2.1,num x.2.2.1++Str.ofString "." ++ num x.2.2.2],rfl,rfl,bf.of ao, ?_, ?_⟩
  ·have:=cg xa.1 xa.2
   have:=cg xb.1 xb.2;have:=cg xc.1 xc.2;have:=cg xd.1 xd.2;simp only [List.map_cons,List.map_nil,List.sum_cons,List.sum_nil,List.length_cons,List.length_nil,Str.length_append,jc,iT,num];omega
  ·have e:Txt.join (Str.ofString " ") [num x.1++Str.ofString "." ++ num x.2.1,num x.2.2.1++Str.ofString "." ++ num x.2.2.2]=nT x:=by
    rw [glued_cons,List.map_cons,List.map_nil,cat,cat,cT];unfold nT;simp only [Str.append_assoc]
   rw [e];exact k _ (((s12.trans s3).trans s4).trans s5)
theorem KZ {cs:List Int} (ok:Kf cs):(Str.ofString "counts" ++ cat (cs.map fun c=>Str.ofString " " ++ num c)).length<=46:=by
 rw [Str.length_append,rK,List.map_map,jQ]
 have:=sum_bound ((fun s:Str=>s.length)∘fun c:Int=>Str.ofString " " ++ num c) 5 cs fun c hc=>by
  have q:=ok.2 c hc;have:=cg (i:=c) q.1 (by omega);simp only [Function.comp,Str.length_append,iT,num];omega
 have l:=ok.1;omega
theorem Fp {cs:List Int} {ns:List Nt} (ok:qp cs ns):((ns.map nT).map (·.length)).sum<=19*ns.length:=by
 rw [List.map_map];exact sum_bound ((fun s:Str=>s.length)∘nT) 19 ns fun x hx=>Jc ((ok.2.2 x hx).small ok.1)
theorem z6 (cs:List Int) (ns:List Nt):Txt.join (Str.ofString "\n") ((Str.ofString "counts" ++ cat (cs.map fun c=>Str.ofString " " ++ num c))::ns.map nT)=rT cs ns:=by
 rw [glued_cons,List.map_map];rfl
theorem z7 {cs:List Int} {ns:List Nt} (ok:qp cs ns):((((Str.ofString "counts" ++ cat (cs.map fun c=>Str.ofString " " ++ num c))::ns.map nT).map (·.length)).sum+((Str.ofString "counts" ++ cat (cs.map fun c=>Str.ofString " " ++ num c))::ns.map nT).length*(Str.ofString "\n").length<=16777216):=by
 have a:=KZ ok.1;have b:=Fp ok;have c:=ok.2.1;rw [List.map_cons,List.sum_cons,List.length_cons,List.length_map,ni];omega
def pH (K:PySem.W.Frag):Sp:=fun vs H Q _=>∃(t c a:Addr) (cs:List Int) (ns:List Nt),vs=[.ref t]/\RecAt H t c a cs ns/\qp cs ns /\ ∀H',Same H H'->Q (.str (rT cs ns)) H'
theorem tE {f:Addr} {fd:FuncData} (F:j4 K "record_text" "record_text" cu f fd) (zQ:FnAt P w K mg base 2 "note_text" ["note"] (vV K)) (Bt:qL mg):cJ P w K mg base jf 3 f fd ["record"] (pH K):=by
 refine F.ok kE (fun vs H Q E h=> ?_) (fun cdv A outer s H vs Q E hr h=> ?_)
 ·obtain ⟨t,c,a,cs,ns,rfl,_⟩:=h
  rfl
 ·obtain ⟨t,c,a,cs,ns,rfl,⟨ht,hc,hN⟩,ok,k⟩:=h
  obtain ⟨vs,ha,dv⟩:=id hN;have vl:vs.length=ns.length:=by rw [dv.length,List.length_map]
  have nl:=ok.2.1;have c8:=ok.1.1
  refine ⟨_,(aC (aR (i:=1) kE.nd rfl (Or.inl rfl) (bT (aj (kO (K:=K) rfl PySem.F.plainAttrs_str PySem.F.slot_str_join PySem.F.type_str_join (oR (K:=K) rfl) cC (aj (aY Qe (bT (aj cC aq)) (gK rfl (N:=["count"]) (own:=["count"]) (caps:=[]) (aW.of (by kernel_rfl)) (eV (K:=K) rfl (aM (bA (K:=K) rfl) (pv 0) aD (fun _ _=>rfl))) (fun _ _ _ _=>(aU (i:=0) (show List.Nodup (["count"]:List Str) by decide +kernel) rfl (Or.inl rfl))) (fun _ _ _ _=>eX) (fun _ _ _ _=>(dD cY (by rfl) Bt.o8 jT (aj (pv 0) aq))))) aq)) aq)))
   (aC (cV (kO (K:=K) rfl PySem.F.plainAttrs_list PySem.F.slot_list_extend PySem.F.type_list_extend pQ (pv 1) (aj (gK rfl (N:=["note"]) (own:=["note"]) (caps:=[]) (aW.of (by kernel_rfl)) (eV (K:=K) rfl (aM (bA (K:=K) rfl) (pv 0) aD (fun _ _=>rfl))) (fun _ _ _ _=>(aU (i:=0) (show List.Nodup (["note"]:List Str) by decide +kernel) rfl (Or.inl rfl))) (fun _ _ _ _=>eX) (fun _ _ _ _=>(bF zQ (hr.mono (by decide)) (by rfl) (aj (pv 0) aq)))) aq)))
   (aG (aX (kO (K:=K) rfl PySem.F.plainAttrs_str PySem.F.slot_str_join PySem.F.type_str_join (oR (K:=K) rfl) cC (aj (pv 1) aq)))))), ?_⟩
  refine ⟨rfl,(by show 1<=sizeLine;decide),fun l1 hl1=> ?_⟩;have s1:=aF (o:=HO.lst [V.str (Str.ofString "counts")]) hl1;refine ⟨_,rfl,_,_,_,_,rfl,rfl,dZ.of (s1 _ _ ht),rfl,c,rfl,⟨_,bf.of (s1 _ _ hc)⟩,fun D hD=> ?_⟩;refine uf (K:=K) (fun i=>(cs[i]?).map fun z=>V.str (num z)) hD (bf.of (s1 _ _ hc)) (by rw [List.length_map];omega) (fun i v H2 G F hi s2 kG kF=> ?_) (fun H2 s2 e2=> ?_)
  ·rw [List.getElem?_map] at hi
   cases ei:cs[i]? with
   | none=>rw [ei] at hi;cases hi
   | some z=>
     rw [ei] at hi;cases hi;have q:=ok.1.2 z (List.mem_of_getElem? ei);exact ⟨_,rfl,z,rfl,jO q.1 (by omega),kF _ H2 (Same.refl _) (by rw [ei];rfl)⟩
  rw [List.length_map,DR] at e2;refine ⟨l1,D,_,_,rfl,rfl,s2 _ _ ao,e2,by rw [List.length_map,sizeLine_eq];simp;omega,fun l2 hl2=> ?_⟩;have s3:=aF (o:=HO.lst ([V.str (Str.ofString "counts")]++cs.map fun z=>V.str (num z))) hl2;have s13:=(s1.trans s2).trans s3;have Ue:[V.str (Str.ofString "counts")]++cs.map (fun z=>V.str (num z))=(Str.ofString "counts" :: cs.map num).map V.str:=by simp
  refine ⟨_,l2,Str.ofString "counts" :: cs.map num,rfl,rfl,bf.of (by rw [ao,Ue]), ?_, ?_⟩
  ·have:=sum_bound ((fun s:Str=>s.length)∘num) 4 cs fun z hz=>cg (ok.1.2 z hz).1 (by have:=ok.1.2 z hz;omega)
   rw [List.map_cons,List.sum_cons,List.map_map,List.length_cons,List.length_map,jQ,iT];omega
  have Q0:Txt.join (Str.ofString " ") (Str.ofString "counts" :: cs.map num)=Str.ofString "counts" ++ cat (cs.map fun c=>Str.ofString " " ++ num c):=by
   rw [glued_cons,List.map_map];rfl
  rw [Q0];refine ⟨(by show 1<=sizeLine;decide),fun p hp=> ?_⟩;have s4:=aF (o:=HO.lst [V.str (Str.ofString "counts" ++ cat (cs.map fun c=>Str.ofString " " ++ num c))]) hp;have KQ:=s13.trans s4;have hp0:H p=none:=s13.free hp;refine ⟨_,rfl,.inl ⟨rfl,_,bf.of ao⟩,_,rfl,_,_,_,_,rfl,rfl,dZ.of (KQ _ _ ht),rfl,a,rfl,⟨_,bf.of (KQ _ _ ha)⟩,fun D2 hD2=> ?_⟩;refine uf (K:=K) (fun i=>(ns[i]?).map fun x=>V.str (nT x)) hD2 (bf.of (KQ _ _ ha)) (by omega) (fun i v H5 G F hi s5 kG kF=> ?_) (fun H5 s5 e5=> ?_)
  ·obtain ⟨x,q,ex,rfl,hx⟩:=rB dv hi
   exact ⟨_,rfl,q,x,rfl,s5 _ _ (KQ _ _ hx),(ok.2.2 x (List.mem_of_getElem? ex)).small ok.1,fun H6 s6=>kF _ H6 s6 (by rw [ex];rfl)⟩
  rw [vl,DR] at e5;have rH:=s5 _ _ (ao (H:=_) (a:=p) (o:=HO.lst [V.str (Str.ofString "counts" ++ cat (cs.map fun c=>Str.ofString " " ++ num c))]));refine ⟨p,D2,_,_,rfl,rfl,rH,e5,by rw [List.length_map,sizeLine_eq];simp;omega, ?_⟩;have k6:Kp p H5 (upd H5 p (.lst ([V.str (Str.ofString "counts" ++ cat (cs.map fun c=>Str.ofString " " ++ num c))]++ns.map fun x=>V.str (nT x)))):=Kp.set;have el2:[V.str (Str.ofString "counts" ++ cat (cs.map fun c=>Str.ofString " " ++ num c))]++ns.map (fun x=>V.str (nT x))=((Str.ofString "counts" ++ cat (cs.map fun c=>Str.ofString " " ++ num c))::ns.map nT).map V.str:=by simp
  refine ⟨rfl,_,rfl,_,p,_,rfl,rfl,bf.of (by rw [ao,el2]),z7 ok, ?_⟩;rw [z6];exact k _ fun b o e=>k6 _ _ ((KQ.trans s5) _ _ e) (au e hp0)
def ou (C:Addr) (K:PySem.W.Frag):Sp:=fun vs H Q _=>∃(R:Rc) (ws:List bC) (hn:Nat),vs=[.ref R.o]/\RcAt C H R ws hn/\hn<=8 /\
 ∀(r:Addr) (H':Hp),H r=none->H' r=some (.lst (((List.range hn).map fun h:Nat=>cnt ws (h:Int)).map V.int))->Same H H'->Q (.ref r) H'
theorem Fg {ak:Addr} {f:Addr} {fd:FuncData} (F:j4 K "counts" "Recorder.counts" bD f fd) (aB:cR K ak) (Bt:qL mg):cJ P w K mg base jf 1 f fd ["self"] (ou ak K):=by
 refine F.ok m8 (fun vs H Q E h=> ?_) (fun cdv A outer s H vs Q E hr h=> ?_)
 ·obtain ⟨R,ws,hn,rfl,_⟩:=h
  rfl
 ·obtain ⟨R,ws,hn,rfl,r,h8,k⟩:=h
  refine ⟨_,(aG (aX (gK rfl (N:=["places"]) (own:=["places"]) (caps:=[]) (aW.of (by kernel_rfl)) (eV (K:=K) rfl (cG (K:=K) rfl (pv 0) rfl)) (fun _ _ _ _=>(aU (i:=0) (show List.Nodup (["places"]:List Str) by decide +kernel) rfl (Or.inl rfl))) (fun _ _ _ _=>eX) (fun _ _ _ _=>(aP (aV (K:=K) rfl) (by rfl) Bt.gn dU (aj (pv 0) aq)))))), ?_⟩;have Od:=r.Od;refine ⟨_,rfl,R.o,ak,R.dx,_,_,rfl,r.o,aB.cls,aB.fX,rfl,R.pl,rfl,⟨_,bf.of r.pl⟩,fun D hD=> ?_⟩;refine uf (K:=K) (fun i:Nat=>some (V.int (cnt ws (i:Int)))) hD (bf.of r.pl) (by rw [List.length_map];omega) (fun i v H2 G F hi s2 kG kF=> ?_) (fun H2 s2 e2=> ?_)
  ·rw [List.getElem?_map] at hi
   obtain ⟨p,ep,rfl⟩:∃p,R.ps[i]? = some p/\v = .ref p:=by
    cases e:R.ps[i]? with
    | none=>rw [e] at hi;cases hi
    | some q=>rw [e] at hi;exact ⟨q,rfl,(Option.some.inj hi).symm⟩
   refine ⟨_,rfl,p,_,rfl,.inl (bf.of (s2 _ _ (r.Ro i p ep))),kF _ H2 (Same.refl _) ?_⟩;have e:=Dm ws (i:Int);show some (V.int (cnt ws (i:Int)))=some (V.int (((dz (oK ws (i:Int))).length:Nat):Int));rw [←e];unfold dz;rw [List.length_map]
  ·refine k D H2 hD ?_ s2
   rw [e2,List.length_map,Od,List.map_map,←List.filterMap_eq_map];rfl
def Aj (C:Addr) (K:PySem.W.Frag):Sp:=fun vs H Q _=>∃(R:Rc) (ws:List bC) (hn:Nat),vs=[.ref R.o]/\RcAt C H R ws hn/\Q (.int ((iG ws ws.length).length:Nat)) H
theorem L_ {ak:Addr} {f:Addr} {fd:FuncData} (F:j4 K "__len__" "Recorder.__len__" bw f fd) (aB:cR K ak) (Bt:qL mg):cJ P w K mg base jf 1 f fd ["self"] (Aj ak K):=by
 refine F.ok mJ (fun vs H Q E h=> ?_) (fun cdv A outer s H vs Q E hr h=> ?_)
 ·obtain ⟨R,ws,hn,rfl,_⟩:=h
  rfl
 ·obtain ⟨R,ws,hn,rfl,r,k⟩:=h
  refine ⟨_,(aG (aX (aP (aV (K:=K) rfl) (by rfl) Bt.gn dU (aj (cG (K:=K) rfl (pv 0) rfl) aq)))), ?_⟩;obtain ⟨ts,⟨vs,hv,dv⟩,tp⟩:=r.tkn;refine ⟨_,rfl,R.o,ak,R.dx,_,_,rfl,r.o,aB.cls,aB.rD,rfl,R.tk,_,rfl,.inl (bf.of hv), ?_⟩;have e:vs.length=(iG ws ws.length).length:=by rw [dv.length,List.length_map,tp.length_eq]
  rw [e];exact k
def Ai (C:Addr) (K:PySem.W.Frag):Sp:=fun vs H Q _=>∃(R:Rc) (ws:List bC) (hn:Nat),vs=[.ref R.o]/\RcAt C H R ws hn/\hn<=8 /\
 (∀ns:List Nt,ns.Perm (iG ws ws.length)->qp ((List.range hn).map fun h:Nat=>cnt ws (h:Int)) ns) /\
 ∀(ns:List Nt) (H':Hp),ns.Perm (iG ws ws.length)->uE ns->Same H H'->Q (.str (rT ((List.range hn).map fun h:Nat=>cnt ws (h:Int)) ns)) H'
theorem LR {ak:Addr} {f:Addr} {fd:FuncData} (F:j4 K "__str__" "Recorder.__str__" bh f fd) (aB:cR K ak) (u5:FnAt P w K mg base 3 "record_text" ["record"] (pH K)) (gb:MethAt P w K mg base 1 ak "counts" ["self"] (ou ak K)) (gF:MethAt P w K mg base 1 ak "notes" ["self"] (n_ ak K)) (Bt:qL mg):cJ P w K mg base jf 4 f fd ["self"] (Ai ak K):=by
 refine F.ok mH (fun vs H Q E h=> ?_) (fun cdv A outer s H vs Q E hr h=> ?_)
 ·obtain ⟨R,ws,hn,rfl,_⟩:=h
  rfl
 ·obtain ⟨R,ws,hn,rfl,r,h8,okk,k⟩:=h
  refine ⟨_,(aG (aX (dD Cd (by rfl) Bt.o8 jT (aj (bF u5 (hr.mono (by decide)) (by rfl) (aj (jh (aj (lR gb aB.cls (hr.mono (by decide)) (pv 0)) (aj (lR gF aB.cls (hr.mono (by decide)) (pv 0)) aq))) aq)) aq)))), ?_⟩;refine ⟨_,rfl,R.o,R.dx,_,rfl,r.o,rfl,R,ws,hn,rfl,r,h8,fun c H1 hc ec s1=> ?_⟩;have r1:=r.same s1;refine ⟨_,rfl,R.o,R.dx,_,rfl,r1.o,rfl,R,ws,hn,rfl,r1,fun a ns H2 ha N2 pm sr s2=> ?_⟩;refine ⟨(by show 2<=sizeLine;decide),fun t ht=> ?_⟩;have s3:=aF (o:=HO.tup [V.ref c,V.ref a]) ht;refine ⟨t,c,a,_,ns,rfl,⟨ao,s3 _ _ (s2 _ _ ec),N2.same s3⟩,okk ns pm,fun H4 s4=> ?_⟩;exact .inr ⟨_,rfl,k ns H4 pm sr (((s1.trans s2).trans s3).trans s4)⟩
def rO:Nat->PyData->Prop
 | 0,_=>False
 | _+1,.int _=>True
 | n+1,.list ds=>ds.length<=100000 /\ ∀d∈ds,rO n d
 | n+1,.tuple ds=>ds.length<=100000 /\ ∀d∈ds,rO n d
 | _+1,_=>False
theorem vA (n:Nat) (v:V):(List.range n).filterMap (fun _=>some v)=List.replicate n v:=by
 induction n with
 | zero=>rfl
 | succ n ih=>rw [eZ,ih,List.replicate_succ'];rfl
def fP (n:Nat) (K:PySem.W.Frag):Sp:=fun vs H Q _=>∃(x y:V) (d:PyData),vs=[x,y]/\Dat H x d/\Dat H y d/\rO n d /\ ∀H',Same H H'->Q (.bl true) H'
theorem Fl {f:Addr} {fd:FuncData} (F:j4 K "_law_alike" "_law_alike" eU f fd):cJ P w K mg base jf 1 f fd ["found","due"] (fP 0 K):=by
 refine F.ok vd (fun vs H Q E h=> ?_) (fun cdv A outer s H vs Q E hr h=> ?_)
 ·obtain ⟨x,y,d,_,_,_,z,_⟩:=h
  exact z.elim
 ·obtain ⟨x,y,d,_,_,_,z,_⟩:=h
  exact z.elim
theorem jo {n:Nat} {f:Addr} {fd:FuncData} (F:j4 K "_law_alike" "_law_alike" eU f fd) (jx:FnAt P w K mg base (n+1) "_law_alike" ["found","due"] (fP n K)) (Bt:qL mg):cJ P w K mg base jf (n+1+1) f fd ["found","due"] (fP (n+1) K):=by
 refine F.ok vd (fun vs H Q E h=> ?_) (fun cdv A outer s H vs Q E hr h=> ?_)
 ·obtain ⟨x,y,d,rfl,_⟩:=h
  rfl
 ·obtain ⟨x,y,d,rfl,dx,dy,pl,k⟩:=h
  refine ⟨_,(aC (dF (g_ (aP (Cg (K:=K) rfl) (by rfl) Bt.cO cA (aj (pv 1) (aj (jh (aj (gM (v:= .ty "list") (by rfl) Bt.uw oY rfl) (aj (gM (v:= .ty "tuple") (by rfl) Bt.w6 uq rfl) aq))) aq)))) (aC (dF (PW.pt (Dj (bZ mX (aP (fH (K:=K) (cv:= .ty "list") (c:= .type "list") rfl rfl) (by rfl) Bt.cO cA (aj (pv 0) (aj (gM (v:= .ty "list") (by rfl) Bt.uw oY rfl) aq))) (aP (fH (K:=K) (cv:= .ty "list") (c:= .type "list") rfl rfl) (by rfl) Bt.cO cA (aj (pv 1) (aj (gM (v:= .ty "list") (by rfl) Bt.uw oY rfl) aq))) (bK _)) (wu (bZ mX (aP (fH (K:=K) (cv:= .ty "tuple") (c:= .type "tuple") rfl rfl) (by rfl) Bt.cO cA (aj (pv 0) (aj (gM (v:= .ty "tuple") (by rfl) Bt.w6 uq rfl) aq))) (aP (fH (K:=K) (cv:= .ty "tuple") (c:= .type "tuple") rfl rfl) (by rfl) Bt.cO cA (aj (pv 1) (aj (gM (v:= .ty "tuple") (by rfl) Bt.w6 uq rfl) aq))) (bK _))))) (aG (aX mW)) bW)
   (aC (dF (bZ mX (aP (aV (K:=K) rfl) (by rfl) Bt.gn dU (aj (pv 0) aq)) (aP (aV (K:=K) rfl) (by rfl) Bt.gn dU (aj (pv 1) aq)) (bK _)) (aG (aX mW)) bW)
   (aG (aX (aP (jY (K:=K) rfl rfl) (by rfl) Bt.O1 JV (aj (gK rfl (N:=["k","found","due"]) (own:=["k"]) (caps:=[0,1]) (aW.of (by kernel_rfl)) (dB (by rfl) Bt.eF (aj (aP (aV (K:=K) rfl) (by rfl) Bt.gn dU (aj (pv 1) aq)) aq)) (fun _ _ _ _=>(aU (i:=0) (show List.Nodup (["k","found","due"]:List Str) by decide +kernel) rfl (Or.inl rfl))) (fun _ _ _ _=>eX) (fun _ _ _ _=>(bF jx (hr.mono (Nat.le_refl _)) (by rfl) (aj (aM (Dy (K:=K) rfl) (pv 1) (pv 0) (fun _ _=>rfl)) (aj (aM (Dy (K:=K) rfl) (pv 2) (pv 0) (fun _ _=>rfl)) aq))))) aq)))))) bW)
   (aG (aX (pO (aP (fH (K:=K) (cv:= .ty "int") (c:= .type "int") rfl rfl) (by rfl) Bt.cO cA (aj (pv 0) (aj (gM (v:= .ty "int") (by rfl) Bt.OD JT rfl) aq))) (pO (Ie (aP (fH (K:=K) (cv:= .ty "bool") (c:= .type "bool") rfl rfl) (by rfl) Bt.cO cA (aj (pv 0) (aj (gM (v:= .ty "bool") (by rfl) Bt.J3 Ed rfl) aq)))) (m9 (eY iZ (pv 0) (pv 1) (bK _)))))))), ?_⟩
  match d,pl,dx,dy with
  | .int i,pl,dx,dy=>
    simp only [Dat] at dx dy;subst dx dy;refine ⟨_,rfl,(by show 2<=sizeLine;decide),fun p hp=> ?_⟩;have s1:=aF (o:=HO.tup [V.ty "list",V.ty "tuple"]) hp;refine ⟨_,_,p,["list","tuple"],false,rfl,.int i,ao,Ck K,_,rfl, ?_⟩;refine gB ?_;refine ⟨_,rfl,_,_,true,rfl,.int i,qG K,_,rfl, ?_⟩;refine iW ?_;refine ⟨_,rfl,_,_,false,rfl,.int i,oU K,_,rfl,_,rfl, ?_⟩;refine iW ?_;refine ⟨_,rfl,_,rfl,rfl, ?_⟩;rw [decide_eq_true rfl];exact k _ s1
  | .list ds,pl,dx,dy=>
    simp only [Dat] at dx dy;obtain ⟨a,vs,rfl,ha,da⟩:=dx;obtain ⟨b,ws,rfl,hb,db⟩:=dy;have la:vs.length=ds.length:=da.length;have lb:ws.length=ds.length:=db.length;have oM:ds.length<=100000:=pl.1;refine ⟨_,rfl,(by show 2<=sizeLine;decide),fun p hp=> ?_⟩;have s1:=aF (o:=HO.tup [V.ty "list",V.ty "tuple"]) hp;have ha1:=s1 _ _ ha;have hb1:=s1 _ _ hb;refine ⟨_,_,p,["list","tuple"],true,rfl,.lst hb1,ao,zO K,_,rfl, ?_⟩;refine iW ?_;refine ⟨_,rfl,_,_,true,rfl,.lst ha1,mZ K,_,rfl,_,_,true,rfl,.lst hb1,mZ K,rfl,_,rfl, ?_⟩;refine qF rfl ?_;refine ⟨_,rfl,_,_,false,rfl,.lst ha1,k_ K,_,rfl,_,_,false,rfl,.lst hb1,k_ K,rfl,_,rfl, ?_⟩;refine qF rfl ?_;refine ⟨_,rfl,a,_,rfl,.inl (bf.of ha1),_,rfl,b,_,rfl,.inl (bf.of hb1),rfl,_,rfl, ?_⟩;refine qF (by rw [la,lb]) ?_;refine ⟨_,rfl,b,_,rfl,.inl (bf.of hb1),_,rfl,by (clear hb1 ha1 hp oM lb la hb ha;omega),by (clear hb1 ha1 hp la hb ha;omega),fun D hD=> ?_⟩;rw [show ((ws.length:Int)).toNat=ds.length by omega];refine p8 (fun i=>some (.bl true)) hD (by omega) (fun i H2 G F hi s2 kG kF=> ?_) (fun H2 s2 e2=> ?_)
    ·obtain ⟨d,ed⟩:∃d,ds[i]? = some d:=⟨ds[i],by simp [hi]⟩
     obtain ⟨x,ex,dx⟩:=da.getD ed;obtain ⟨y,ey,dy⟩:=db.getD ed;have R6:=s1.trans s2;have a1:rN vs (0+(i:Int))=some x:=by rw [Int.zero_add];exact bB ex
     have a2:rN ws (0+(i:Int))=some y:=by rw [Int.zero_add];exact bB ey
     exact ⟨_,rfl,_,rfl,.inl ⟨_,_,_,_,rfl,rfl,bf.of (s2 _ _ ha1),a1,_,rfl,_,rfl,.inl ⟨_,_,_,_,rfl,rfl,bf.of (s2 _ _ hb1),a2,x,y,d,rfl,dx.same R6 d,dy.same R6 d,pl.2 d (List.mem_of_getElem? ed),fun H3 s3=>kF _ H3 s3 rfl⟩⟩⟩
    ·rw [vA] at e2
     refine ⟨D,List.replicate ds.length true,rfl,bf.of (by rw [e2,List.map_replicate]), ?_⟩;rw [show (List.replicate ds.length true).all id=true by simp];exact k H2 (s1.trans s2)
  | .tuple ds,pl,dx,dy=>
    simp only [Dat] at dx dy;obtain ⟨a,vs,rfl,ha,da⟩:=dx;obtain ⟨b,ws,rfl,hb,db⟩:=dy;have la:vs.length=ds.length:=da.length;have lb:ws.length=ds.length:=db.length;have oM:ds.length<=100000:=pl.1;refine ⟨_,rfl,(by show 2<=sizeLine;decide),fun p hp=> ?_⟩;have s1:=aF (o:=HO.tup [V.ty "list",V.ty "tuple"]) hp;have ha1:=s1 _ _ ha;have hb1:=s1 _ _ hb;refine ⟨_,_,p,["list","tuple"],true,rfl,.tup hb1,ao,xq K,_,rfl, ?_⟩;refine iW ?_;refine ⟨_,rfl,_,_,false,rfl,.tup ha1,kZ K,_,rfl,_,_,false,rfl,.tup hb1,kZ K,rfl,_,rfl, ?_⟩;refine qF rfl ?_;refine ⟨_,rfl,_,_,true,rfl,.tup ha1,jW K,_,rfl,_,_,true,rfl,.tup hb1,jW K,rfl,_,rfl, ?_⟩;refine qF rfl ?_;refine ⟨_,rfl,a,_,rfl,.inr (dZ.of ha1),_,rfl,b,_,rfl,.inr (dZ.of hb1),rfl,_,rfl, ?_⟩;refine qF (by rw [la,lb]) ?_;refine ⟨_,rfl,b,_,rfl,.inr (dZ.of hb1),_,rfl,by (clear hb1 ha1 hp oM lb la hb ha;omega),by (clear hb1 ha1 hp la hb ha;omega),fun D hD=> ?_⟩;rw [show ((ws.length:Int)).toNat=ds.length by omega];refine p8 (fun i=>some (.bl true)) hD (by omega) (fun i H2 G F hi s2 kG kF=> ?_) (fun H2 s2 e2=> ?_)
    ·obtain ⟨d,ed⟩:∃d,ds[i]? = some d:=⟨ds[i],by simp [hi]⟩
     obtain ⟨x,ex,dx⟩:=da.getD ed;obtain ⟨y,ey,dy⟩:=db.getD ed;have R6:=s1.trans s2;have a1:rN vs (0+(i:Int))=some x:=by rw [Int.zero_add];exact bB ex
     have a2:rN ws (0+(i:Int))=some y:=by rw [Int.zero_add];exact bB ey
     exact ⟨_,rfl,_,rfl,.inr (.inl ⟨_,_,_,_,rfl,rfl,dZ.of (s2 _ _ ha1),a1,_,rfl,_,rfl,.inr (.inl ⟨_,_,_,_,rfl,rfl,dZ.of (s2 _ _ hb1),a2,x,y,d,rfl,dx.same R6 d,dy.same R6 d,pl.2 d (List.mem_of_getElem? ed),fun H3 s3=>kF _ H3 s3 rfl⟩)⟩)⟩
    ·rw [vA] at e2
     refine ⟨D,List.replicate ds.length true,rfl,bf.of (by rw [e2,List.map_replicate]), ?_⟩;rw [show (List.replicate ds.length true).all id=true by simp];exact k H2 (s1.trans s2)
theorem ud {H:Hp} {a:Addr} {ns:List Int} (h:H a=some (.lst (ns.map V.int))):Dat H (.ref a) (.list (ns.map PyData.int)):=fY h (aJ.ints ns)
theorem shaped_ints (ns:List Int):SeqAt.shaped (.list (ns.map PyData.int))=true:=qx PyData.int 0 (by decide) (fun _ _=>rfl) (fun _ _=>by show 0<=0;decide)
theorem rO.up:∀{n:Nat} {d:PyData},rO n d->rO (n+1) d
 | _+1,.int _,_=>True.intro
 | n+1,.list ds,h=>⟨h.1,fun d hd=>rO.up (h.2 d hd)⟩
 | n+1,.tuple ds,h=>⟨h.1,fun d hd=>rO.up (h.2 d hd)⟩
 | 0,_,h=>h.elim
theorem SN (ns:List Nt) (h2:ns.length<=100000):rO 3 (.list (ns.map nD)):=by
 refine ⟨by rw [List.length_map];exact h2,fun d hd=> ?_⟩;obtain ⟨x,_,rfl⟩:=List.mem_map.mp hd;refine ⟨by show 4<=100000;decide,fun d hd=> ?_⟩;simp only [List.mem_cons,List.not_mem_nil,or_false] at hd;rcases hd with rfl|rfl|rfl|rfl<;>exact True.intro
def NtC (f:Nat->List Nt):Hp->Nat->Addr->Prop:=fun H j r=>∃ns:List Nt,d9 H r ns/\ns.Perm (f j)
def Ak (K:PySem.W.Frag):Sp:=fun vs H Q _=>∃(t:Addr) (n:Nat) (f:Nat->List Nt),vs=[.ref t]/\bL H t [] n (NtC f)/\n<=300/\((List.range n).flatMap f).length<=100000 /\
 ∀(r:Addr) (ns:List Nt) (H':Hp),H r=none->d9 H' r ns->ns.Perm ((List.range n).flatMap f)->uE ns->Same H H'->Q (.ref r) H'
theorem tY {α:Type} (f:Nat->List α) (n:Nat):(List.range (n+1)).flatMap f=(List.range n).flatMap f++f n:=by
 rw [List.range_succ,List.flatMap_append];simp
theorem QV {α:Type} (f:Nat->List α):∀(n m:Nat),n<=m->((List.range n).flatMap f).length<=((List.range m).flatMap f).length
 | n,m,h=>by
   obtain ⟨d,rfl⟩:=Nat.exists_eq_add_of_le h
   induction d with
   | zero=>exact Nat.le_refl _
   | succ d ih=>
     rw [←Nat.add_assoc,tY,List.length_append];have:=ih (by omega);omega
theorem Ma {f:Addr} {fd:FuncData} (F:j4 K "_law_flat" "_law_flat" iC f fd) (Bt:qL mg):cJ P w K mg base jf 1 f fd ["lists"] (Ak K):=by
 refine F.ok sI (fun vs H Q E h=> ?_) (fun cdv A outer s H vs Q E hr h=> ?_)
 ·obtain ⟨t,n,f,rfl,_⟩:=h
  rfl
 ·obtain ⟨t,n,f,rfl,⟨rs,ht,rl,rq⟩,nl,fl,k⟩:=h
  refine ⟨_,(aC (aR (i:=1) sI.nd rfl (Or.inl rfl) (bT aq))
   (aC (gA PassesOwn.never rfl (eV (K:=K) rfl (pv 0)) (aU (i:=2) sI.nd rfl (Or.inl rfl))
   (aG (cV (kO (K:=K) rfl PySem.F.plainAttrs_list PySem.F.slot_list_extend PySem.F.type_list_extend pQ (pv 1) (aj (pv 2) aq)))))
   (aG (aX (aP (je (K:=K) rfl) (by rfl) Bt.o9 mF (aj (pv 1) aq)))))), ?_⟩
  refine ⟨(by show 0<=sizeLine;decide),fun r hr0=> ?_⟩;have s1:=aF (o:=HO.lst []) hr0;refine ⟨_,rfl,t,rfl,⟨_,bf.of (s1 _ _ ht)⟩, ?_⟩
  refine lu (K:=K) (a:=t) (xs:=rs.map V.ref) (fun i σ H2=>∃(x1:Option V) (ns:List Nt),σ=[some (.ref t),some (.ref r),x1]/\Same H H2/\d9 H2 r ns/\ns.Perm ((List.range i).flatMap f))
   ⟨none,[],rfl,s1,⟨[],ao,by simp [aJ]⟩,by simp⟩ (fun i σ H2 _ ⟨_,_,_,sm,_⟩=>bf.of (sm _ _ ht)) ?_ ?_
  ·rintro i v σ H2 hi ⟨x1,ns,rfl,sm,N,pp⟩
   rw [List.getElem?_map] at hi;cases ei:rs[i]? with
   | none=>rw [ei] at hi;cases hi
   | some q=>
     rw [ei] at hi;cases hi;have il:=(List.getElem?_eq_some_iff.mp ei).1;obtain ⟨_,ms,M,mp⟩:=rq i q ei;obtain ⟨us,hq,dq⟩:=M;obtain ⟨ts,hts,Uj⟩:=id N;have l1:ts.length=ns.length:=by rw [Uj.length,List.length_map]
     have l2:us.length=ms.length:=by rw [dq.length,List.length_map]
     have l3:=pp.length_eq;have l4:=mp.length_eq;have l5:=QV f (i+1) n (by omega);rw [tY,List.length_append] at l5;refine ⟨_,rfl,.inl ⟨rfl,_,bf.of hts⟩,_,rfl,r,q,_,_,rfl,rfl,hts,sm _ _ hq,by rw [sizeLine_eq];omega, ?_⟩;have k3:Kp r H2 (upd H2 r (.lst (ts++us))):=Kp.set;have t3:=k3.tups hts;refine ⟨_,ns++ms,rfl,fun b u e=>k3 _ _ (sm _ _ e) (au e hr0),⟨ts++us,ao, ?_⟩, ?_⟩
     ·rw [List.map_append]
      exact aJ.append (aJ.keep (fun a xs h=>t3 _ _ h) _ (bH _ gC _) Uj) (aJ.keep (fun a xs h=>t3 _ _ (sm.tups _ _ h)) _ (bH _ gC _) dq)
     ·rw [tY]
      exact pp.append mp
  ·rintro σ H2 ⟨x1,ns,rfl,sm,N,pp⟩
   rw [List.length_map,rl] at pp;refine ⟨_,rfl, ?_⟩;dsimp only [vP];refine oE (K:=K) N fun l ns' H4 hl NN p2 ss s4=>k l ns' H4 (sm.free hl) NN (p2.trans pp) ss (sm.trans s4)
theorem lA {ws:List bC} {h:Int}:∀(n:Nat) {c:Int},0<=c->c<cnt (ws.take n) h -> ∃m x,ws[m]? = some x/\x.1=h/\cnt (ws.take m) h=c
 | 0,c,h0,h1=>by
   rw [List.take_zero] at h1;have:cnt [] h=0:=rfl;omega
 | n+1,c,h0,h1=>by
   cases e:ws[n]? with
   | none=>
     have:ws.take (n+1)=ws.take n:=by rw [List.take_add_one,e];simp
     rw [this] at h1;exact lA n h0 h1
   | some x=>
     have t:ws.take (n+1)=ws.take n++[x]:=by rw [List.take_add_one,e];rfl
     rw [t,d8] at h1
     by_cases q:h=x.1
     ·rw [if_pos q] at h1
      by_cases l:c<cnt (ws.take n) h
      ·exact lA n h0 l
      ·exact ⟨n,x,e,q.symm,by omega⟩
     ·rw [if_neg q] at h1
      exact lA n h0 h1
theorem Bw {ws:List bC} {hn j:Nat} {g:Int->Int} {a:List Int} (k:mU ws j g) (g0:∀i,0<=g i) (r:nG ws hn a (fun m=>m=j\/qY ws j m) (j+1)) (h:Nat):g (h:Int)=gI a (h:Int):=by
 have b1:=k.2 (h:Int);have b2:=r.2.2 h;have p0:=g0 (h:Int);rcases Int.lt_trichotomy (g (h:Int)) (gI a (h:Int)) with l|l|l
 ·obtain ⟨m,x,ex,e,ec⟩:=lA (ws:=ws) (h:=(h:Int)) (j+1) p0 (Int.lt_of_lt_of_le l b2.2)
  have i1:=k.1 m x ex;have i2:=r.2.1 m x ex;rw [e,ec] at i1 i2;exact absurd (i1.mpr (i2.mp l)) (Int.lt_irrefl _)
 ·exact l
 ·obtain ⟨m,x,ex,e,ec⟩:=lA (ws:=ws) (h:=(h:Int)) (j+1) b2.1 (Int.lt_of_lt_of_le l b1)
  have i1:=k.1 m x ex;have i2:=r.2.1 m x ex;rw [e,ec] at i1 i2;exact absurd (i2.mpr (i1.mp l)) (Int.lt_irrefl _)
theorem mU.pre {j:Nat} {g:Int->Int}:∀(suf pre:List bC),mU pre j g->j<pre.length->mU (pre++suf) j g
 | [],pre,k,_=>by rw [List.append_nil];exact k
 | x::s,pre,k,h=>by
   rw [show pre++x::s=(pre++[x])++s by simp];exact mU.pre s _ (k.snoc h) (by rw [List.length_append];omega)
theorem mU.whole {ws:List bC} {n j:Nat} {g:Int->Int} (k:mU (ws.take n) j g) (h:j<(ws.take n).length):mU ws j g:=by
 have:=mU.pre (ws.drop n) _ k h;rwa [List.take_append_drop] at this
theorem Gs {ws:List bC} {n:Nat} (h:n<=ws.length):iG (ws.take n) n=iG ws n:=by
 unfold iG
 have e:∀j∈List.range n,bx (ws.take n) j (cj (ws.take n) j j)=bx ws j (cj ws j j):=fun j hj=>by
  have hj:=List.mem_range.mp hj;have:=pP (ws.drop n) (ws.take n) (j:=j) (by rw [List.length_take];omega);rw [List.take_append_drop] at this;exact this.symm
 rw [List.flatMap_def,List.flatMap_def,List.map_congr_left e]
def gD (ws:List bC) (hn:Nat):List Int:=(List.range hn).map fun h:Nat=>cnt ws (h:Int)
theorem jt (ws:List bC) (hn:Nat):(gD ws hn).length=hn:=by unfold gD;simp
theorem wV {ws:List bC} {hn:Nat} {h:Int} (h0:0<=h) (h1:h<hn):gI (gD ws hn) h=cnt ws h:=by
 obtain ⟨m,rfl⟩:=Int.eq_ofNat_of_zero_le h0;refine tW ?_;unfold gD;rw [List.getElem?_map,List.getElem?_range (by omega)];rfl
theorem Gj {ws:List bC} {x:bC} {hn:Nat} (h0:0<=x.1) (h1:x.1<hn):(gD ws hn).set x.1.toNat (cnt ws x.1+1)=gD (ws++[x]) hn:=by
 refine List.ext_getElem? fun i=> ?_;rw [List.getElem?_set];unfold gD
 by_cases hi:i<hn
 ·rw [List.getElem?_map,List.getElem?_map,List.getElem?_range hi]
  by_cases e:x.1.toNat=i
  ·have e':(i:Int)=x.1:=by omega
   rw [if_pos e,if_pos (by simp;omega)];show some (cnt ws x.1+1)=some (cnt (ws++[x]) (i:Int));rw [d8,if_pos e',e']
  ·rw [if_neg e]
   show some (cnt ws (i:Int))=some (cnt (ws++[x]) (i:Int));rw [d8,if_neg (by omega)]
 ·rw [List.getElem?_eq_none (by simp;omega),List.getElem?_eq_none (by simp;omega)]
  split
  ·split
   ·rename_i q1 q2
    simp at q2;omega
   ·rfl
  ·rfl
def Gw (ws:List bC) (hn n:Nat):Hp->Nat->Addr->Prop:=fun H h r=>∃a:List Int,H r=some (.lst (a.map V.int))/\a.length=hn/\((oK (ws.take n) (h:Int)=[]/\a=List.replicate hn 0) \/ ∃j,(oK (ws.take n) (h:Int)).getLast?=some j/\nG ws hn a (fun m=>m=j\/qY ws j m) (j+1))
theorem lX (ws:List bC) (hn n:Nat):Keeps (Gw ws hn n):=fun H H' j r ⟨a,h,q⟩=>⟨⟨_,h⟩,fun _ k=>⟨a,k _ h,q⟩⟩
theorem vD {ws:List bC} {hn n h:Nat} {H:Hp} {r:Addr} {g:Int->Int} (d:Gw ws hn n H h r) (k:KnL (ws.take n) (h:Int) g):H r=some (.lst ((List.range hn).map fun i:Nat=>V.int (g (i:Int)))):=by
 obtain ⟨a,hr,al,q⟩:=d;rw [hr];congr 2;refine List.ext_getElem? fun i=> ?_
 by_cases hi:i<hn
 ·rw [List.getElem?_map,List.getElem?_map,List.getElem?_range hi,List.getElem?_eq_getElem (by omega)]
  show some (V.int a[i])=some (V.int (g (i:Int)));have ea:gI a (i:Int)=a[i]:=tW (List.getElem?_eq_getElem (by omega));rcases q with ⟨e1,e2⟩|⟨j,e1,e2⟩
  ·rw [k.1 e1,←ea,e2,wU]
  ·obtain ⟨k1,k2⟩:=k.2 j e1
   have jl:j<(ws.take n).length:=by
    have:j∈oK (ws.take n) (h:Int):=List.mem_of_getLast? e1;unfold oK at this;exact List.mem_range.mp (List.mem_filter.mp this).1
   rw [Bw (k1.whole jl) k2 e2 i,ea]
 ·rw [List.getElem?_eq_none (by simp;omega),List.getElem?_eq_none (by simp;omega)]
def vZ (K:PySem.W.Frag):Sp:=fun vs H Q _=>∃(w p t1 t2:Addr) (X:List Addr) (ws:List bC) (hn n:Nat),vs=[.ref w,.ref p,.int hn,.int n]/\(∀x∈X,∃u,H x=some u)/\gU H w ws/\(∀x∈ws,lE (hn:Int) x)/\H p=some (.tup [.ref t1,.ref t2])/\bL H t1 X ws.length (RowC ws hn)/\bL H t2 [] ws.length (RD ws)/\n<=ws.length/\ws.length<=300/\hn<=8 /\
 ∀(d f c kn:Addr) (ns:List Nt) (H':Hp),H' d=some (.tup [.ref f,.ref c,.ref kn])->d9 H' f ns->ns.Perm (iG (ws.take n) n)->uE ns->H' c=some (.lst ((gD (ws.take n) hn).map V.int))->bL H' kn X hn (Gw ws hn n)->f∉X->c∉X->kn∉X->Same H H'->Q (.ref d) H'
theorem IK {f:Addr} {fd:FuncData} (F:j4 K "_law_due" "_law_due" jL f fd) (NK:FnAt P w K mg base 1 "_law_flat" ["lists"] (Ak K)) (Bt:qL mg):cJ P w K mg base jf 2 f fd ["touches","table","hands","done"] (vZ K):=by
 refine F.ok qZ (fun vs H Q E h=> ?_) (fun cdv A outer s H vs Q E hr h=> ?_)
 ·obtain ⟨w,p,t1,t2,X,ws,hn,n,rfl,_⟩:=h
  rfl
 ·obtain ⟨w,p,t1,t2,X,ws,hn,n,rfl,xst,W,CG,hp,L1,L2,nl,wl,h8,k⟩:=h
  refine ⟨_,(aC (aR (i:=4) qZ.nd rfl (Or.inl rfl) (aY wF (bT (aj aD aq)) (pv 2)))
   (aC (wA (i:=5) rfl qZ.nd rfl (Or.inl rfl) (N:=["hand","hands"]) (own:=["hand"]) (caps:=[2]) (aW.of (by kernel_rfl)) (dB (by rfl) Bt.eF (aj (pv 2) aq)) (fun _ _ _ _=>(aU (i:=0) (show List.Nodup (["hand","hands"]:List Str) by decide +kernel) rfl (Or.inl rfl))) (fun _ _ _ _=>eX) (fun _ _ _ _=>(aY wF (bT (aj aD aq)) (pv 1))))
   (aC (gA PassesOwn.never rfl (dB (by rfl) Bt.eF (aj (pv 3) aq)) (aU (i:=6) qZ.nd rfl (Or.inl rfl))
   (aC (jg (aY fB (aM (aL (K:=K) rfl) (pv 4) (aM (bA (K:=K) rfl) (aM (aL (K:=K) rfl) (pv 0) (pv 6) (fun _ _=>rfl)) aD (fun _ _=>rfl)) (fun _ _=>rfl)) aD) (kJ (pv 4) (aM (bA (K:=K) rfl) (aM (aL (K:=K) rfl) (pv 0) (pv 6) (fun _ _=>rfl)) aD (fun _ _=>rfl)) set_list))
   (aG (jg (aM (aL (K:=K) rfl) (aM (bA (K:=K) rfl) (pv 1) aD (fun _ _=>rfl)) (pv 6) (fun _ _=>rfl)) (kJ (pv 5) (aM (bA (K:=K) rfl) (aM (aL (K:=K) rfl) (pv 0) (pv 6) (fun _ _=>rfl)) aD (fun _ _=>rfl)) set_list)))))
   (aG (aX (jh (aj (bF NK (hr.mono (by decide)) (by rfl) (aj (sX (Hs (K:=K) rfl) (aM (bA (K:=K) rfl) (pv 1) aD (fun _ _=>rfl)) wC (wB (pv 3))) aq)) (aj (pv 4) (aj (pv 5) aq))))))))), ?_⟩
  have Mp:∀{y:Addr},H y=none->y∉X:=fun {y} e m=>by
   obtain ⟨u,eu⟩:=xst y m;rw [e] at eu;cases eu
  refine ⟨(by show 1<=sizeLine;decide),fun q hq=>⟨_,rfl,q,_,_,rfl,rfl,ao,by omega,by omega,by rw [sizeLine_eq];simp;omega,fun c hc=> ?_⟩⟩;rw [K3,Int.toNat_natCast];have sq:=aF (o:=HO.lst [V.int 0]) hq;have sc:=aF (o:=HO.lst ((List.replicate hn (0:Int)).map V.int)) hc;have ec:(upd (upd H q (.lst [V.int 0])) c (.lst ((List.replicate hn (0:Int)).map V.int))) c=some (.lst ((List.replicate hn (0:Int)).map V.int)):=ao;have s1:Same H (upd (upd H q (.lst [V.int 0])) c (.lst ((List.replicate hn (0:Int)).map V.int))):=sq.trans sc;have fc:H c=none:=sq.free hc;generalize (upd (upd H q (.lst [V.int 0])) c (.lst ((List.replicate hn (0:Int)).map V.int)))=H1 at ec s1 ⊢;refine ⟨_,rfl,_,rfl,by omega,by omega,fun kn hkn=> ?_⟩;rw [Int.toNat_natCast];refine iU (lo:=0) (n:=hn) (fun i σ Hc=>∃(v:Option V) (rs:List Addr),σ=[v,some (.int hn)]/\rs.length=i/\Same H1 Hc/\Hc kn=some (.lst (rs.map V.ref)) /\ ∀r∈rs,r≠kn/\H1 r=none/\Hc r=some (.lst ((List.replicate hn (0:Int)).map V.int))) ⟨none,[],rfl,rfl,aF hkn,ao,by simp⟩ ?_ ?_
  ·rintro i σ Hc hi ⟨v,rs,rfl,lr,sm,ek,hr'⟩
   dsimp only [gk,Hl];rw [if_pos rfl];refine ⟨(by show 1<=sizeLine;decide),fun q hq=>⟨_,rfl,q,_,_,rfl,rfl,ao,by omega,by omega,by rw [sizeLine_eq];simp;omega,fun r hr0=> ?_⟩⟩;rw [K3,Int.toNat_natCast];have sq:=aF (o:=HO.lst [V.int 0]) hq;have sr:=aF (o:=HO.lst ((List.replicate hn (0:Int)).map V.int)) hr0;have s2:=sq.trans sr;have nrk:r≠kn:=(au (sq _ _ ek) hr0).symm;refine ⟨_,s2 _ _ ek,by rw [List.length_map,sizeLine_eq];omega,_,rs++[r],rfl,by simp [lr],(sm.trans s2).newly hkn,by rw [ao,List.map_append];rfl,fun r' hr1=> ?_⟩;rcases List.mem_append.mp hr1 with hr1|hr1
   ·obtain ⟨x1,x2,x3⟩:=hr' r' hr1
    exact ⟨x1,x2,by rw [aQ x1];exact s2 _ _ x3⟩
   ·rw [List.mem_singleton.mp hr1]
    exact ⟨nrk,sm.free (sq.free hr0),by rw [aQ nrk,ao]⟩
  rintro σ H2 ⟨v,rs,rfl,lr,s12,ek,hr'⟩;have fk:H kn=none:=s1.free hkn;have s2:=s1.trans s12;have nck:c≠kn:=au ec hkn;refine ⟨_,rfl,_,rfl,by omega,by omega, ?_⟩;rw [Int.toNat_natCast];refine jr (lo:=0) (n:=n) (fun j σ Hc=>∃(v:Option V) (rs:List Addr),σ=[some (.ref w),some (.ref p),some (.int hn),some (.int n),some (.ref c),some (.ref kn),v]/\Same H Hc/\Hc c=some (.lst ((gD (ws.take j) hn).map V.int))/\Hc kn=some (.lst (rs.map V.ref))/\rs.length=hn /\ ∀(h:Nat) (r:Addr),rs[h]? = some r->r≠c/\(r≠kn /\ ∀x∈X,r≠x)/\Gw ws hn j Hc h r) ⟨none,rs,rfl,s2, ?_,ek,lr,fun h r e=> ?_⟩ ?_ ?_
  ·rw [s12 _ _ ec]
   congr 3;refine List.ext_getElem? fun i=> ?_;unfold gD;rw [List.getElem?_replicate,List.getElem?_map]
   by_cases hi:i<hn
   ·rw [if_pos hi,List.getElem?_range hi];rfl
   ·rw [if_neg hi,List.getElem?_eq_none (by simp;omega)];rfl
  ·obtain ⟨x1,x2,x3⟩:=hr' r (List.mem_of_getElem? e)
   exact ⟨(au ec x2).symm,⟨x1,fun y my z=>Mp (s1.free x2) (z▸my)⟩,_,x3,by simp,.inl ⟨rfl,rfl⟩⟩
  ·rintro j σ Hc hj ⟨v,rs,rfl,sm,Ui,ek',lr,hd⟩
   have jl:j<ws.length:=by omega
   have ex:ws[j]? = some ws[j]:=List.getElem?_eq_getElem jl;generalize ws[j]=x at ex;obtain ⟨⟨x0,x1⟩,_⟩:=CG x (List.mem_of_getElem? ex);obtain ⟨vs',t,hv',et,ht⟩:=lG (W.same sm) ex;have tk:ws.take (j+1)=ws.take j++[x]:=by rw [List.take_add_one,ex];rfl
   have lt:(ws.take j).length=j:=by rw [List.length_take];omega
   obtain ⟨rs1,ht1,rl1,rq1⟩:=L1;obtain ⟨r1,er1⟩:∃r1,rs1[j]? = some r1:=⟨_,List.getElem?_eq_getElem (by omega)⟩;obtain ⟨nx1,a1,ha1,rh1⟩:=rq1 j r1 er1;rw [Int.zero_add];refine ⟨_,rfl,_,rfl,_,rfl,_,_,_,_,rfl,rfl,bf.of hv',bB et,_,_,_,_,rfl,rfl,dZ.of ht,rfl,_,_,_,_,rfl,rfl,bf.of Ui,qm x0 (by rw [jt];omega),_,_,rfl,rfl,_,rfl,_,rfl,_,rfl,_,_,_,_,rfl,rfl,bf.of hv',bB et,_,_,_,_,rfl,rfl,dZ.of ht,rfl,c,_,_,_,rfl,rfl,Ui,rG x0 (by rw [List.length_map,jt];omega), ?_⟩;rw [wV x0 x1,←List.map_set,Gj x0 x1,←tk];have kc:Kp c Hc (upd Hc c (.lst ((gD (ws.take (j+1)) hn).map V.int))):=Kp.set;have tc:=kc.tups Ui;have ec3:(upd Hc c (.lst ((gD (ws.take (j+1)) hn).map V.int))) c=some (.lst ((gD (ws.take (j+1)) hn).map V.int)):=ao;have sm3:Same H (upd Hc c (.lst ((gD (ws.take (j+1)) hn).map V.int))):=fun y o e=>kc _ _ (sm _ _ e) (au e fc);have ek3:=kc _ _ ek' nck.symm
   have Wg:∀(h:Nat) (r:Addr),rs[h]? = some r->r≠c/\(r≠kn /\ ∀x∈X,r≠x)/\Gw ws hn j (upd Hc c (.lst ((gD (ws.take (j+1)) hn).map V.int))) h r:=fun h r e=>by
    obtain ⟨y1,y2,y3⟩:=hd h r e;exact ⟨y1,y2,(lX ws hn j _ _ h r y3).2 tc fun o ho=>kc _ _ ho y1⟩
   generalize (upd Hc c (.lst ((gD (ws.take (j+1)) hn).map V.int)))=H3 at ec3 sm3 ek3 Wg ⊢;obtain ⟨vs3,t3,hv3,et3,ht3⟩:=lG (W.same sm3) ex;refine ⟨_,rfl,_,_,_,_,rfl,rfl,dZ.of (sm3 _ _ hp),rfl,_,rfl,_,_,_,_,rfl,rfl,bf.of (sm3 _ _ ht1),bB (by rw [List.getElem?_map,er1];rfl),_,rfl,_,rfl,_,rfl,_,_,_,_,rfl,rfl,bf.of hv3,bB et3,_,_,_,_,rfl,rfl,dZ.of ht3,rfl,kn,_,_,_,rfl,rfl,ek3,rG x0 (by rw [List.length_map];omega), ?_⟩;have kk:Kp kn H3 (upd H3 kn (.lst ((rs.map V.ref).set x.1.toNat (V.ref r1)))):=Kp.set;have n1c:r1≠c:=au ha1 fc;have n1k:r1≠kn:=au ha1 fk;refine ⟨_,rs.set x.1.toNat r1,rfl,fun y o e=>kk _ _ (sm3 _ _ e) (au e fk),kk _ _ ec3 nck,by rw [ao,List.map_set],by rw [List.length_set];exact lr,fun h r e=> ?_⟩;rw [List.getElem?_set] at e
   by_cases q:x.1.toNat=h
   ·rw [if_pos q] at e
    split at e
    ·cases e
     have qh:x.1=(h:Int):=by omega
     refine ⟨n1c,⟨n1k,nx1⟩,a1,kk _ _ (sm3 _ _ ha1) n1k,rh1.1,.inr ⟨j, ?_,rh1⟩⟩;rw [tk,oJ,if_pos qh,lt];simp
    ·cases e
   ·rw [if_neg q] at e
    obtain ⟨y1,y2,a,z1,z2,z3⟩:=Wg h r e;have qh:¬x.1=(h:Int):=by omega
    have ep:oK (ws.take (j+1)) (h:Int)=oK (ws.take j) (h:Int):=by rw [tk,oJ,if_neg qh,List.append_nil]
    exact ⟨y1,y2,a,kk _ _ z1 y2.1,z2,by rw [ep];exact z3⟩
  ·rintro σ Hc ⟨v,rs,rfl,sm,Ui,ek',lr,hd⟩
   obtain ⟨Hu,Wd,rl2,XJ⟩:=id (L2.same (jq _) sm);refine ⟨_,rfl,_,_,_,_,rfl,rfl,dZ.of (sm _ _ hp),rfl,_,rfl,_,rfl,t2,_,rfl,bf.of Wd,fun b0 hb0=> ?_⟩;have ect:j6 (Hu.map V.ref) none (some (n:Int))=(Hu.take n).map V.ref:=by rw [zB,List.map_take]
   have sb:=aF (o:=HO.lst (j6 (Hu.map V.ref) none (some (n:Int)))) hb0
   have Lb:bL (upd Hc b0 (.lst (j6 (Hu.map V.ref) none (some (n:Int))))) b0 [] n (NtC fun j=>bx ws j (cj ws j j)):=by
    refine ⟨Hu.take n,by rw [ao,ect],by rw [List.length_take];omega,fun j r' hj=>⟨fun _ z=>absurd z (by simp), ?_⟩⟩
    have hj':Hu[j]? = some r':=by
     rw [List.getElem?_take] at hj;split at hj
     ·exact hj
     ·cases hj
    obtain ⟨_,ns,N,pp,_⟩:=XJ _ r' hj';exact ⟨ns,N.same sb,pp⟩
   generalize (upd Hc b0 (.lst (j6 (Hu.map V.ref) none (some (n:Int)))))=H3 at sb Lb ⊢;have al:=lC ws n;have al2:n*n<=300*300:=Nat.mul_le_mul (by omega) (by omega);refine ⟨b0,n,_,rfl,Lb,by omega,by show (iG ws n).length<=100000;omega,fun f ns H4 hf N4 p4 sr4 s4=> ?_⟩;have p4':ns.Perm (iG (ws.take n) n):=by rw [Gs nl];exact p4
   refine ⟨_,rfl,_,rfl,(by show 3<=sizeLine;decide),fun d hd0=> ?_⟩;have sd:=aF (o:=HO.tup [V.ref f,V.ref c,V.ref kn]) hd0;have S:=(sb.trans s4).trans sd;refine k d f c kn ns _ ao (N4.same sd) p4' sr4 (S _ _ Ui) ⟨rs,S _ _ ek',lr,fun h r e=>⟨(hd h r e).2.1.2, ?_⟩⟩ (Mp (sm.free (sb.free hf))) (Mp fc) (Mp fk) (sm.trans S);exact (lX ws hn n _ _ h r (hd h r e).2.2).2 S.tups fun o ho=>S _ _ ho
theorem ug (y:Str):∀xs:List Str,cat (xs++[y])=cat xs++y
 | []=>by
   show y++Str.empty=Str.empty++y;rw [cT];exact (Str.empty_append y).symm
 | x::xs=>by
   show cat (x::(xs++[y]))=cat (x::xs)++y;rw [cat,cat,ug y xs,Str.append_assoc]
theorem sS {cs:List Int} (ok:∀c∈cs,0<=c/\c<=1000):(cat (cs.map fun c=>Str.ofString " " ++ num c)).length<=5*cs.length:=by
 rw [rK,List.map_map]
 exact sum_bound _ 5 cs fun c hc=>by
  have q:=ok c hc;have:=cg (i:=c) q.1 q.2;simp only [Function.comp,Str.length_append,iT,num];omega
theorem wH {ns:List Nt} (ok:∀x∈ns,(0<=x.1/\x.1<=1000)/\(0<=x.2.1/\x.2.1<=1000)/\(0<=x.2.2.1/\x.2.2.1<=1000)/\(0<=x.2.2.2/\x.2.2.2<=1000)):(cat (ns.map fun x=>Str.ofString "\n" ++ nT x)).length<=20*ns.length:=by
 rw [rK,List.map_map]
 exact sum_bound _ 20 ns fun x hx=>by
  have:=Jc (ok x hx);simp only [Function.comp,Str.length_append,ni];omega
def su (K:PySem.W.Frag):Sp:=fun vs H Q _=>∃(d f c kn:Addr) (cs:List Int) (ns:List Nt),vs=[.ref d]/\H d=some (.tup [.ref f,.ref c,.ref kn])/\d9 H f ns/\H c=some (.lst (cs.map V.int))/\qp cs ns/\Q (.str (rT cs ns)) H
theorem Fb {f:Addr} {fd:FuncData} (F:j4 K "_law_text" "_law_text" iz f fd) (Bt:qL mg):cJ P w K mg base jf 1 f fd ["due"] (su K):=by
 refine F.ok eO (fun vs H Q E h=> ?_) (fun cdv A outer s H vs Q E hr h=> ?_)
 ·obtain ⟨d,f,c,kn,cs,ns,rfl,_⟩:=h
  rfl
 ·obtain ⟨d,f,c,kn,cs,ns,rfl,hd,N,hc,ok,k⟩:=h
  obtain ⟨vs,hf,dv⟩:=id N;have vl:vs.length=ns.length:=by rw [dv.length,List.length_map]
  have nl:=ok.2.1;have c8:=ok.1.1;have csm:∀z∈cs,0<=z/\z<=1000:=fun z hz=>by have:=ok.1.2 z hz;exact ⟨this.1,by omega⟩
  have nsm:∀x∈ns,(0<=x.1/\x.1<=1000)/\(0<=x.2.1/\x.2.1<=1000)/\(0<=x.2.2.1/\x.2.2.1<=1000)/\(0<=x.2.2.2/\x.2.2.2<=1000):=fun x hx=>(ok.2.2 x hx).small ok.1
  refine ⟨_,(aC (aR (i:=1) eO.nd rfl (Or.inl rfl) cC)
   (aC (gA PassesOwn.never rfl (eV (K:=K) rfl (aM (bA (K:=K) rfl) (pv 0) aD (fun _ _=>rfl))) (aU (i:=2) eO.nd rfl (Or.inl rfl))
   (aG (aR (i:=1) eO.nd rfl (Or.inl rfl) (aY dh (aY dh (pv 1) cC) (dD cY (by rfl) Bt.o8 jT (aj (pv 2) aq))))))
   (aC (gA PassesOwn.never rfl (eV (K:=K) rfl (aM (bA (K:=K) rfl) (pv 0) aD (fun _ _=>rfl))) (lQ (K:=K) (n:=4) rfl rfl (cB (aU (i:=3) eO.nd rfl (Or.inl rfl)) (cB (aU (i:=4) eO.nd rfl (Or.inl rfl)) (cB (aU (i:=5) eO.nd rfl (Or.inl rfl)) (cB (aU (i:=6) eO.nd rfl (Or.inl rfl)) lO)))))
   (aC (aR (i:=1) eO.nd rfl (Or.inl rfl) (aY dh (aY dh (aY dh (aY dh (pv 1) cC) (dD cY (by rfl) Bt.o8 jT (aj (pv 3) aq))) cC) (dD cY (by rfl) Bt.o8 jT (aj (pv 4) aq))))
   (aG (aR (i:=1) eO.nd rfl (Or.inl rfl) (aY dh (aY dh (aY dh (aY dh (pv 1) cC) (dD cY (by rfl) Bt.o8 jT (aj (pv 5) aq))) cC) (dD cY (by rfl) Bt.o8 jT (aj (pv 6) aq)))))))
   (aG (aX (pv 1)))))), ?_⟩
  refine ⟨_,rfl,_,_,_,_,rfl,rfl,dZ.of hd,rfl,c,rfl,⟨_,bf.of hc⟩, ?_⟩
  refine lu (K:=K) (a:=c) (xs:=cs.map V.int) (fun i σ Hc=>Hc=H /\ ∃(v:Option V),σ=[some (.ref d),some (.str (Str.ofString "counts" ++ cat ((cs.take i).map fun c=>Str.ofString " " ++ num c))),v,none,none,none,none])
   ⟨rfl,none,by rw [List.take_zero,List.map_nil,cat,cT];rfl⟩ (fun i σ Hc _ ⟨e,_⟩=>by rw [e];exact bf.of hc) ?_ ?_
  ·rintro i x σ Hc hi ⟨rfl,v,rfl⟩
   rw [List.getElem?_map] at hi
   obtain ⟨z,ez,rfl⟩:∃z,cs[i]? = some z/\x = .int z:=by
    cases e:cs[i]? with
    | none=>rw [e] at hi;cases hi
    | some q=>rw [e] at hi;exact ⟨q,rfl,(Option.some.inj hi).symm⟩
   have q:=csm z (List.mem_of_getElem? ez);have il:=(List.getElem?_eq_some_iff.mp ez).1;have tk:cs.take (i+1)=cs.take i++[z]:=by rw [List.take_add_one,ez];rfl
   have l1:=sS (cs:=cs.take i) fun c hc=>csm c (List.mem_of_mem_take hc);have l2:(cs.take i).length<=8:=by rw [List.length_take];omega
   have l3:=cg (i:=z) q.1 q.2;have lc:(Str.ofString "counts" ++ cat ((cs.take i).map fun c=>Str.ofString " " ++ num c)).length<=46:=by rw [Str.length_append,jQ];omega
   dsimp only [gk];refine ⟨_,rfl,_,_,rfl,rfl,by rw [iT,sizeLine_eq];omega,_,rfl,z,rfl,jO q.1 q.2,_,_,rfl,rfl,by rw [Str.length_append,iT,sizeLine_eq];omega, ?_⟩;refine ⟨rfl,some (.int z), ?_⟩;rw [tk,List.map_append,List.map_cons,List.map_nil,ug];unfold num;simp only [Str.append_assoc];rfl
  rintro σ Hc ⟨rfl,v,rfl⟩;rw [List.length_map,List.take_length]
  have ZD:(Str.ofString "counts" ++ cat (cs.map fun c=>Str.ofString " " ++ num c)).length<=46:=by
   have:=sS csm;rw [Str.length_append,jQ];omega
  generalize er0:(Str.ofString "counts" ++ cat (cs.map fun c=>Str.ofString " " ++ num c))=row at ZD ⊢;have Q0:row++cat (ns.map fun x=>Str.ofString "\n" ++ nT x)=rT cs ns:=by rw [←er0];rfl
  refine ⟨_,rfl,_,_,_,_,rfl,rfl,dZ.of hd,rfl,f,rfl,⟨_,bf.of hf⟩, ?_⟩
  refine lu (K:=K) (a:=f) (xs:=vs) (fun i σ H2=>H2=Hc /\ ∃(v1 v2 v3 v4 v5:Option V),σ=[some (.ref d),some (.str (row++cat ((ns.take i).map fun x=>Str.ofString "\n" ++ nT x))),v1,v2,v3,v4,v5])
   ⟨rfl,v,none,none,none,none,by rw [List.take_zero,List.map_nil,cat,cT]⟩ (fun i σ H2 _ ⟨e,_⟩=>by rw [e];exact bf.of hf) ?_ ?_
  ·rintro i y σ H2 hi ⟨rfl,v1,v2,v3,v4,v5,rfl⟩
   obtain ⟨x,t,ex,rfl,ht⟩:=rB dv hi;obtain ⟨qa,qb,qc,qd⟩:=nsm x (List.mem_of_getElem? ex);have il:=(List.getElem?_eq_some_iff.mp ex).1;have tk:ns.take (i+1)=ns.take i++[x]:=by rw [List.take_add_one,ex];rfl
   have l1:=wH (ns:=ns.take i) fun z hz=>nsm z (List.mem_of_mem_take hz);have l2:(ns.take i).length<=100000:=by rw [List.length_take];omega
   have la:=cg (i:=x.1) qa.1 qa.2;have lb:=cg (i:=x.2.1) qb.1 qb.2;have lc:=cg (i:=x.2.2.1) qc.1 qc.2;have ld:=cg (i:=x.2.2.2) qd.1 qd.2;have lf:(row++cat ((ns.take i).map fun x=>Str.ofString "\n" ++ nT x)).length<=2000100:=by rw [Str.length_append];omega
   have Uh:row++cat ((ns.take i).map fun x=>Str.ofString "\n" ++ nT x)++Str.ofString "\n" ++ num x.1++Str.ofString "." ++ num x.2.1++Str.ofString " " ++ num x.2.2.1++Str.ofString "." ++ num x.2.2.2=row++cat ((ns.take (i+1)).map fun x=>Str.ofString "\n" ++ nT x):=by
    rw [tk,List.map_append,List.map_cons,List.map_nil,ug];unfold nT;simp only [Str.append_assoc]
   rw [←Uh];clear Uh;generalize (row++cat ((ns.take i).map fun x=>Str.ofString "\n" ++ nT x))=Wj at lf ⊢;refine ⟨t,_,rfl,dZ.of ht,rfl,_,_,rfl,_,_,rfl,_,_,rfl,_,_,rfl,rfl, ?_⟩;refine ⟨_,rfl,_,_,rfl,rfl,by rw [ni,sizeLine_eq];omega,_,rfl,_,rfl,jO qa.1 qa.2,_,_,rfl,rfl,by rw [Str.length_append,ni,sizeLine_eq];omega,_,_,rfl,rfl,by rw [Str.length_append,Str.length_append,ni,jc,sizeLine_eq];omega,_,rfl,_,rfl,jO qb.1 qb.2,_,_,rfl,rfl,by rw [Str.length_append,Str.length_append,Str.length_append,ni,jc,sizeLine_eq];omega, ?_⟩
   have lg:(Wj++Str.ofString "\n" ++ Str.ofString (toString x.1)++Str.ofString "." ++ Str.ofString (toString x.2.1)).length<=2000200:=by
    simp only [Str.length_append,ni,jc];omega
   have eg:Wj++Str.ofString "\n" ++ num x.1++Str.ofString "." ++ num x.2.1=Wj++Str.ofString "\n" ++ Str.ofString (toString x.1)++Str.ofString "." ++ Str.ofString (toString x.2.1):=rfl;rw [eg];generalize (Wj++Str.ofString "\n" ++ Str.ofString (toString x.1)++Str.ofString "." ++ Str.ofString (toString x.2.1))=gd at lg ⊢;refine ⟨_,rfl,_,_,rfl,rfl,by rw [iT,sizeLine_eq];omega,_,rfl,_,rfl,jO qc.1 qc.2,_,_,rfl,rfl,by rw [Str.length_append,iT,sizeLine_eq];omega,_,_,rfl,rfl,by rw [Str.length_append,Str.length_append,iT,jc,sizeLine_eq];omega,_,rfl,_,rfl,jO qd.1 qd.2,_,_,rfl,rfl,by rw [Str.length_append,Str.length_append,Str.length_append,iT,jc,sizeLine_eq];omega, ?_⟩;exact ⟨rfl,v1,some (.int x.1),some (.int x.2.1),some (.int x.2.2.1),some (.int x.2.2.2),rfl⟩
  rintro σ H2 ⟨rfl,v1,v2,v3,v4,v5,rfl⟩;rw [vl,List.take_length];refine ⟨_,rfl, ?_⟩;rw [Q0];exact k
theorem B_ (ws:List bC) (h:Int):cnt ws h<=ws.length:=by
 unfold cnt;have:=List.length_filter_le (fun x:bC=>decide (x.1=h)) ws;omega
theorem qJ {ws:List bC} {i:Nat} (h:i<ws.length):cnt (ws.take i) (hnd ws i)<cnt ws (hnd ws i):=by
 have ex:ws[i]? = some ws[i]:=List.getElem?_eq_getElem h;have t:ws.take (i+1)=ws.take i++[ws[i]]:=by rw [List.take_add_one,ex];rfl
 have m:=gQ ws (hnd ws i) (i+1) (ws.length - (i+1));rw [show i+1+(ws.length - (i+1))=ws.length by omega,List.take_length,t,d8,if_pos (pY ex)] at m;omega
theorem Ml {ws:List bC} {hn:Nat} {e j:Nat} (ok:∀x∈ws,lE (hn:Int) x) (he:e<ws.length) (hj:j<ws.length) (ne:¬hnd ws e=hnd ws j):J9 (gD ws hn) (iR ws e j):=by
 have r:∀i,i<ws.length->0<=hnd ws i/\hnd ws i<hn:=fun i hi=>by
  have ex:ws[i]? = some ws[i]:=List.getElem?_eq_getElem hi;rw [pY ex];exact (ok _ (List.getElem_mem hi)).1
 obtain ⟨a0,a1⟩:=r e he;obtain ⟨b0,b1⟩:=r j hj;unfold iR;refine ⟨⟨a0,by rw [jt];exact a1⟩,⟨iu _ _, ?_⟩,⟨b0,by rw [jt];exact b1⟩,⟨iu _ _, ?_⟩,ne⟩
 ·show cnt (ws.take e) (hnd ws e)<gI (gD ws hn) (hnd ws e)
  rw [wV a0 a1];exact qJ he
 ·show cnt (ws.take j) (hnd ws j)<gI (gD ws hn) (hnd ws j)
  rw [wV b0 b1];exact qJ hj
theorem Nu {ws:List bC} {hn:Nat} (ok:∀x∈ws,lE (hn:Int) x) {n:Nat} (hn':n<=ws.length):∀x∈iG ws n,J9 (gD ws hn) x:=fun x hx=>by
 unfold iG at hx;obtain ⟨j,hj,hx⟩:=List.mem_flatMap.mp hx;have hj:=List.mem_range.mp hj;unfold bx at hx;obtain ⟨e,he,rfl⟩:=List.mem_map.mp hx;obtain ⟨h1,h2⟩:=List.mem_filter.mp he;exact Ml ok (o_ (by omega) h1) (by omega) (of_decide_eq_true h2)
theorem HB {ws:List bC} {hn:Nat} {ns:List Nt} (ok:∀x∈ws,lE (hn:Int) x) (h8:hn<=8) (wl:ws.length<=300) (pm:ns.Perm (iG ws ws.length)):qp (gD ws hn) ns:=by
 refine ⟨⟨by rw [jt];exact h8,fun c hc=> ?_⟩, ?_,fun x hx=>Nu ok (Nat.le_refl _) x (pm.mem_iff.mp hx)⟩
 ·unfold gD at hc
  obtain ⟨h,_,rfl⟩:=List.mem_map.mp hc;have:=B_ ws (h:Int);exact ⟨iu _ _,by omega⟩
 ·rw [pm.length_eq]
  have:=lC ws ws.length;have:ws.length*ws.length<=300*300:=Nat.mul_le_mul wl wl;omega
def HeldAt (H:Hp) (hd:Addr) (W:List Addr) (fs:List Addr):Prop:=H hd=some (.lst (fs.map V.ref))/\fs.length<=40/\hd∉W /\ ∀p∈fs,∃(a b:Addr) (vs1 vs2:List V) (ds:List PyData),H p=some (.tup [.ref a,.ref b])/\(a∉W/\a≠hd)/\(b∉W/\b≠hd)/\H a=some (.lst vs1)/\H b=some (.lst vs2)/\aJ H vs1 ds/\aJ H vs2 ds/\uT ds=true/\SeqAt.shaped (.list ds)=true
theorem HeldAt.keep {H H':Hp} {hd:Addr} {W fs:List Addr} (h:HeldAt H hd W fs) (k:∀b u,H b=some u->b∉W->H' b=some u) (tp:∀a xs,H a=some (HO.tup xs)->H' a=some (HO.tup xs)):HeldAt H' hd W fs:=by
 obtain ⟨h1,h2,h3,h4⟩:=h;refine ⟨k _ _ h1 h3,h2,h3,fun p hp=> ?_⟩;obtain ⟨a,b,vs1,vs2,ds,e1,e2,e3,e4,e5,e6,e7,e8,e9⟩:=h4 p hp;exact ⟨a,b,vs1,vs2,ds,tp _ _ e1,e2,e3,k _ _ e4 e2.1,k _ _ e5 e3.1,aJ.keep tp _ e8 e6,aJ.keep tp _ e8 e7,e8,e9⟩
theorem HeldAt.same {H H':Hp} {hd:Addr} {W fs:List Addr} (h:HeldAt H hd W fs) (k:Same H H'):HeldAt H' hd W fs:=h.keep (fun b u e _=>k _ _ e) k.tups
structure jy (H:Hp) (X:List Addr) (ws:List bC) (hn n:Nat) (d f c kn:Addr) (ns:List Nt):Prop where
 nf:f∉X
 nc:c∉X
 nk:kn∉X
 d:H d=some (.tup [.ref f,.ref c,.ref kn])
 f:d9 H f ns
 pm:ns.Perm (iG (ws.take n) n)
 sr:uE ns
 c:H c=some (.lst ((gD (ws.take n) hn).map V.int))
 kn:bL H kn X hn (Gw ws hn n)
theorem jy.same {H H':Hp} {X:List Addr} {ws:List bC} {hn n:Nat} {d f c kn:Addr} {ns:List Nt} (h:jy H X ws hn n d f c kn ns) (k:Same H H'):jy H' X ws hn n d f c kn ns:=⟨h.nf,h.nc,h.nk,k _ _ h.d,h.f.same k,h.pm,h.sr,k _ _ h.c,h.kn.same (lX _ _ _) k⟩
theorem jy.kp {H H':Hp} {X:List Addr} {ws:List bC} {hn n:Nat} {d f c kn x:Addr} {ns:List Nt} {ys:List V} (h:jy H X ws hn n d f c kn ns) (k:Kp x H H') (hx:H x=some (.lst ys)) (m:x∈X):jy H' X ws hn n d f c kn ns:=⟨h.nf,h.nc,h.nk,k.tups hx _ _ h.d,h.f.kp (k.tups hx) k (fun z=>h.nf (z▸m)),h.pm,h.sr,k _ _ h.c (fun z=>h.nc (z▸m)),h.kn.kp (lX _ _ _) k hx (fun z=>h.nk (z▸m)) m⟩
def v8 (C:Addr) (K:PySem.W.Frag):Sp:=fun vs H Q _=>∃(R:Rc) (X:List Addr) (ws:List bC) (hn n:Nat) (d f c kn:Addr) (ns:List Nt) (kind h:Nat) (hv:V) (W:List Addr),vs=[.ref R.o,.ref d,.int kind,.int h,hv]/\RcAt C H R (ws.take n) hn/\jy H X ws hn n d f c kn ns/\n<=ws.length/\ws.length<=300/\(∀x∈ws,lE (hn:Int) x)/\kind<5/\h<hn/\hn<=8/\(∀x∈W,∃u,H x=some u) /\
 ((hv = .non /\ ∀H',Same H H'->Q (.bl true) H') \/ ∃hd fs,hv = .ref hd/\HeldAt H hd W fs /\ ∀fs' H',HeldAt H' hd W fs'->Kp hd H H'->Q (.bl true) H')
theorem RcAt.QT {C:Addr} {H:Hp} {R:Rc} {ws:List bC} {hn:Nat} (r:RcAt C H R ws hn) {b:Addr} (m:b∈R.fp):∃xs,H b=some (.lst xs):=by
 obtain ⟨_,w,_⟩:=r.web;obtain ⟨_,n,_⟩:=r.named;obtain ⟨_,k,_⟩:=r.Tn;obtain ⟨_,⟨_,t,_⟩,_⟩:=r.tkn;have m:b∈(R.a::R.nd::R.kn::R.tk::R.ps):=m;simp only [List.mem_cons] at m;rcases m with rfl|rfl|rfl|rfl|m
 ·exact ⟨_,w⟩
 ·exact ⟨_,n⟩
 ·exact ⟨_,k⟩
 ·exact ⟨_,t⟩
 ·obtain ⟨i,e⟩:=List.getElem?_of_mem m
  exact ⟨_,r.Ro i b e⟩
theorem Vo.tups {C:Addr} {H H':Hp} {R:Rc} {ws:List bC} {hn:Nat} (k:Vo R.fp H H') (r:RcAt C H R ws hn):∀a xs,H a=some (HO.tup xs)->H' a=some (HO.tup xs):=fun a xs e=>k _ _ e fun m=>by
 obtain ⟨ys,q⟩:=r.QT m;rw [e] at q;cases q
theorem wD {ns:List Int} (h:ns.length<=100000):rO 2 (.list (ns.map PyData.int)):=by
 refine ⟨by rw [List.length_map];exact h,fun d hd=> ?_⟩;obtain ⟨x,_,rfl⟩:=List.mem_map.mp hd;exact True.intro
theorem IV {ak:Addr} {f:Addr} {fd:FuncData} (F:j4 K "_law_asked" "_law_asked" fW f fd) (aB:cR K ak) (gF:MethAt P w K mg base 1 ak "notes" ["self"] (n_ ak K)) (gb:MethAt P w K mg base 1 ak "counts" ["self"] (ou ak K)) (gG:MethAt P w K mg base 4 ak "known" ["self","hand"] (oh ak K)) (nJ:MethAt P w K mg base 1 ak "__len__" ["self"] (Aj ak K)) (nH:MethAt P w K mg base 4 ak "__str__" ["self"] (Ai ak K)) (Nz:FnAt P w K mg base 1 "_law_text" ["due"] (su K)) (jx:FnAt P w K mg base 6 "_law_alike" ["found","due"] (fP 5 K)) (Bt:qL mg):cJ P w K mg base jf 7 f fd ["recorder","due","kind","hand","held"] (v8 ak K):=by
 refine F.ok lM (fun vs H Q E h=> ?_) (fun cdv A outer s H vs Q E hr h=> ?_)
 ·obtain ⟨R,X,ws,hn,n,d,f,c,kn,ns,kind,h,hv,W,rfl,_⟩:=h
  rfl
 ·obtain ⟨R,X,ws,hn,n,d,f,c,kn,ns,kind,h,hv,W,rfl,r,D,nl,wl,CG,k5,hh,h8,Vt,kk⟩:=h
  have jk:=hr.units
  refine ⟨_,(aC (dF (bZ iZ (pv 2) aD (bK _)) (aG (aX (eY iZ (aP (Gm nJ (hr.mono (by decide))) (by rfl) Bt.gn dU (aj (pv 0) aq)) (aP (aV (K:=K) rfl) (by rfl) Bt.gn dU (aj (aM (bA (K:=K) rfl) (pv 1) aD (fun _ _=>rfl)) aq)) (bK _)))) bW)
   (aC (dF (bZ iZ (pv 2) aD (bK _)) (aG (aX (eY iZ (dD (Gk nH (hr.mono (by decide))) (by rfl) Bt.o8 jT (aj (pv 0) aq)) (bF Nz (hr.mono (by decide)) (by rfl) (aj (pv 1) aq)) (bK _)))) bW)
   (aC (dF (bZ iZ (pv 2) aD (bK _)) (aG (aR (i:=5) lM.nd rfl (Or.inl rfl) (lR gF aB.cls (hr.mono (by decide)) (pv 0)))) (aG (dF (bZ iZ (pv 2) aD (bK _)) (aG (aR (i:=5) lM.nd rfl (Or.inl rfl) (lR gb aB.cls (hr.mono (by decide)) (pv 0)))) (aG (aR (i:=5) lM.nd rfl (Or.inl rfl) (sY gG aB.cls (hr.mono (by decide)) (pv 0) (aj (pv 3) aq)))))))
   (aC (dF (jN (g_ (bF jx (hr.mono (by decide)) (by rfl) (aj (pv 5) (aj (aM (aL (K:=K) rfl) (bT (aj (aM (bA (K:=K) rfl) (pv 1) aD (fun _ _=>rfl)) (aj (aM (bA (K:=K) rfl) (pv 1) aD (fun _ _=>rfl)) (aj (aM (aL (K:=K) rfl) (aM (bA (K:=K) rfl) (pv 1) aD (fun _ _=>rfl)) (pv 3) (fun _ _=>rfl)) aq)))) (pv 2) (fun _ _=>rfl)) aq))))) (aG (aX mW)) bW)
   (aC (dF (PW.pt (wz (bZ Lz (pv 4) A_ (bK _)) (rm (bZ tu (aP (aV (K:=K) rfl) (by rfl) Bt.gn dU (aj (pv 4) aq)) aD (bK _))))) (aG (cV (dg (K:=K) rfl (pv 4) (aj (jh (aj (pv 5) (aj (dD (m6 (K:=K) rfl) (by rfl) Bt.uw oY (aj (pv 5) aq)) aq))) aq)))) (aG (cV (Ly (K:=K) rfl PySem.F.plainAttrs_list PySem.F.slot_list_clear PySem.F.type_list_clear Je (pv 5)))))
   (aG (aX mW))))))), ?_⟩
  have lt:(ws.take n).length=n:=by rw [List.length_take];omega
  have RJ:∀x∈ws.take n,lE (hn:Int) x:=fun x hx=>CG x (List.mem_of_mem_take hx);have pm':ns.Perm (iG (ws.take n) (ws.take n).length):=by rw [lt];exact D.pm
  have same:∀H',Same H H'->Q (.bl true) H':=fun H' s'=>by
   rcases kk with ⟨_,k⟩|⟨hd,fs,_,hh',k⟩
   ·exact k H' s'
   ·exact k fs H' (hh'.same s') (Kp.of_same s')
  obtain ⟨vsf,hf,df⟩:=id D.f
  have nsl:ns.length<=90000:=by
   rw [D.pm.length_eq];have:=lC (ws.take n) n;have:n*n<=300*300:=Nat.mul_le_mul (by omega) (by omega);omega
  have vfl:vsf.length=ns.length:=by rw [df.length,List.length_map]
  refine ⟨_,rfl,rfl,_,rfl, ?_⟩;refine mK (fun q=> ?_) (fun q3=> ?_)
  ·refine ⟨_,rfl,R.o,R.dx,_,rfl,r.o,⟨R,ws.take n,hn,rfl,r,_,rfl,by omega,by rw [←pm'.length_eq];omega, ?_⟩⟩
   refine ⟨_,rfl,_,_,_,_,rfl,rfl,dZ.of D.d,rfl,f,_,rfl,.inl (bf.of hf),rfl, ?_⟩;rw [vfl,←pm'.length_eq,decide_eq_true rfl];exact same H (Same.refl _)
  refine ⟨_,rfl,rfl,_,rfl, ?_⟩;refine mK (fun q=> ?_) (fun q4=> ?_)
  ·refine ⟨_,rfl,R.o,R.dx,_,rfl,r.o,⟨R,ws.take n,hn,rfl,r,h8,fun ns' p'=>HB RJ h8 (by omega) p',fun ns' H1 p' s' s1=>⟨_,rfl, ?_⟩⟩⟩
   have e1:ns'=ns:=lU (p'.trans pm'.symm) s' D.sr;subst e1;have D1:=D.same s1;refine ⟨_,rfl,d,f,c,kn,_,ns',rfl,D1.d,D1.f,D1.c,HB RJ h8 (by omega) pm',rfl, ?_⟩;show Q (.bl (decide (V.str (rT (gD (ws.take n) hn) ns')=V.str (rT (gD (ws.take n) hn) ns')))) H1;rw [decide_eq_true rfl];exact same H1 s1
  have q3:¬kind=3:=fun z=>q3 (by rw [z];rfl);have q4:¬kind=4:=fun z=>q4 (by rw [z];rfl);unfold G_;dsimp only;obtain ⟨rs,hkn,rl,rq⟩:=id D.kn;obtain ⟨rh,erh⟩:∃rh,rs[h]? = some rh:=⟨_,List.getElem?_eq_getElem (by omega)⟩;obtain ⟨_,DC⟩:=rq h rh erh;refine lJ (fun σ H1=>∃(l:Addr) (vs:List V) (ds:List PyData) (x:Addr),σ=[some (.ref R.o),some (.ref d),some (.int kind),some (.int h),some hv,some (.ref l)]/\Same H H1/\H l=none/\H1 l=some (.lst vs)/\aJ H1 vs ds/\uT ds=true/\SeqAt.shaped (.list ds)=true/\rO 5 (.list ds)/\[V.ref f,V.ref c,V.ref rh][kind]? = some (.ref x)/\Dat H1 (.ref x) (.list ds)/\vs.length<=90000) (fun D' hD' _=> ?_) ?_
  ·refine ⟨_,rfl,rfl,_,rfl, ?_⟩
   refine mK (fun q=> ?_) (fun q0=> ?_)
   ·have q:kind=0:=by have:=V.int.inj (of_decide_eq_true q);omega
    subst q;refine ⟨_,rfl,R.o,R.dx,_,rfl,r.o,rfl,R,ws.take n,hn,rfl,r,fun l ns' H1 hl N1 p1 sr1 s1=> ?_⟩;have e1:ns'=ns:=lU (p1.trans pm'.symm) sr1 D.sr;subst e1;obtain ⟨vs,hvs,nP⟩:=N1;exact hD' _ _ ⟨l,vs,ns'.map nD,f,rfl,s1,hl,hvs,nP,bH _ gC _,Ao _,rO.up (rO.up (SN ns' (by omega))),rfl,fY (s1 _ _ hf) (aJ.keep s1.tups _ (bH _ gC _) df),by rw [nP.length,List.length_map];exact nsl⟩
   ·refine ⟨_,rfl,rfl,_,rfl, ?_⟩
    refine mK (fun q=> ?_) (fun q1=> ?_)
    ·have q:kind=1:=by have:=V.int.inj (of_decide_eq_true q);omega
     subst q;refine ⟨_,rfl,R.o,R.dx,_,rfl,r.o,rfl,R,ws.take n,hn,rfl,r,h8,fun l H1 hl e1 s1=> ?_⟩;have e1':H1 l=some (.lst ((gD (ws.take n) hn).map V.int)):=e1;have cl:=jt (ws.take n) hn;exact hD' _ _ ⟨l,_,(gD (ws.take n) hn).map PyData.int,c,rfl,s1,hl,e1',aJ.ints _,bH PyData.int (fun _=>rfl) _,shaped_ints _,rO.up (rO.up (rO.up (wD (by omega)))),rfl,ud (s1 _ _ D.c),by rw [List.length_map];omega⟩
    ·have q:kind=2:=by
      have z0:¬kind=0:=fun z=>q0 (by rw [z];rfl);have z1:¬kind=1:=fun z=>q1 (by rw [z];rfl);omega
     subst q;refine ⟨_,rfl,R.o,R.dx,_,rfl,r.o,rfl,_,rfl,R,ws.take n,hn,(h:Int),rfl,r,by omega,by omega,h8,fun l g H1 hl e1 kl s1=> ?_⟩;have er:=vD DC kl;have em:(List.range hn).map (fun i:Nat=>V.int (g (i:Int)))=((List.range hn).map fun i:Nat=>g (i:Int)).map V.int:=by rw [List.map_map];rfl
     rw [em] at e1 er;exact hD' _ _ ⟨l,_,((List.range hn).map fun i:Nat=>g (i:Int)).map PyData.int,rh,rfl,s1,hl,e1,aJ.ints _,bH PyData.int (fun _=>rfl) _,shaped_ints _,rO.up (rO.up (rO.up (wD (by simp;omega)))),rfl,ud (s1 _ _ er),by simp;omega⟩
  rintro σ H1 ⟨l,vs,ds,x,rfl,s1,hl,el,dl,im,sh,pl,ex,dx,vl⟩;have D1:=D.same s1;refine ⟨_,rfl,_,rfl,_,_,_,_,rfl,rfl,dZ.of D1.d,rfl,_,rfl,_,_,_,_,rfl,rfl,dZ.of D1.d,rfl,_,rfl,_,_,_,_,rfl,rfl,dZ.of D1.d,rfl,_,rfl,_,_,_,_,rfl,rfl,bf.of (s1 _ _ hkn),bB (by rw [List.getElem?_map,erh];rfl),(by show 3<=sizeLine;decide),fun q hq=> ?_⟩;have sq:=aF (o:=HO.lst [V.ref f,V.ref c,V.ref rh]) hq;refine ⟨_,rfl,_,_,_,_,rfl,rfl,bf.of ao,bB ex, ?_⟩;refine ⟨_,_,_,rfl,fY (sq _ _ el) (aJ.keep sq.tups _ im dl),dx.same sq _,pl,fun H2 s2=>⟨_,rfl,gB ?_⟩⟩;have S2:=(s1.trans sq).trans s2;have el2:=s2 _ _ (sq _ _ el);have dl2:aJ H2 vs ds:=aJ.keep (sq.trans s2).tups _ im dl;dsimp only
  have nlw:∀y∈W,y≠l:=fun y hy z=>by
   obtain ⟨u,e⟩:=Vt y hy;rw [z,hl] at e;cases e
  have clear':∀H3,Same H2 H3->Q (.bl true) (upd H3 l (.lst [])):=fun H3 s3=>same _ (fun y o e=>by rw [aQ (au e hl)];exact s3 _ _ (S2 _ _ e));rcases kk with ⟨rfl,_⟩|⟨hd,fs,rfl,HH,k⟩
  ·refine ⟨_,rfl,rfl,_,rfl,gB ?_⟩
   refine gB ?_;exact ⟨_,rfl,.inl ⟨rfl,_,bf.of el2⟩,l,_,rfl,rfl,el2,clear' H2 (Same.refl _)⟩
  ·obtain ⟨hh1,hh2,hh3,hh4⟩:=id (HH.same S2)
   have nlh:l≠hd:=(au HH.1 hl).symm;refine ⟨_,rfl,rfl,_,rfl,iW ?_⟩;refine ⟨_,rfl,hd,_,rfl,.inl (bf.of hh1),_,_,rfl,rfl,_,rfl, ?_⟩;rw [List.length_map];refine mK (fun q=> ?_) (fun _=> ?_)
   ·have q:(fs.length:Int)<40:=of_decide_eq_true q
    refine ⟨_,rfl,.inl ⟨rfl,_,bf.of hh1⟩,_,rfl,_,rfl,l,_,rfl,.inl (bf.of el2),fun l2 hl2=>⟨(by show 2<=sizeLine;decide),fun p hp=> ?_⟩⟩;have sl2:=aF (o:=HO.lst vs) hl2;have sp:=aF (o:=HO.tup [V.ref l,V.ref l2]) hp;have s3:=sl2.trans sp;have S3:=S2.trans s3;have Ug:=sp _ _ (ao (H:=H2) (a:=l2) (o:=HO.lst vs));have el3:=s3 _ _ el2;have ep:(upd (upd H2 l2 (.lst vs)) p (.tup [V.ref l,V.ref l2])) p=some (.tup [V.ref l,V.ref l2]):=ao;have QK:=s3 _ _ hh1;have dl3:aJ (upd (upd H2 l2 (.lst vs)) p (.tup [V.ref l,V.ref l2])) vs ds:=aJ.keep s3.tups _ im dl2;have HH3:=HH.same S3;generalize (upd (upd H2 l2 (.lst vs)) p (.tup [V.ref l,V.ref l2]))=H3 at s3 S3 Ug el3 ep QK dl3 HH3 ⊢;have fl2:H l2=none:=S2.free hl2;have n2h:l2≠hd:=(au HH.1 fl2).symm;refine ⟨hd,_,_,rfl,rfl,QK,by rw [List.length_map,sizeLine_eq];omega, ?_⟩;have kp:Kp hd H3 (upd H3 hd (.lst (fs.map V.ref++[V.ref p]))):=Kp.set;have tp:=kp.tups QK;refine k (fs++[p]) _ ⟨by rw [ao,List.map_append];rfl,by simp;omega,hh3,fun p' hp'=> ?_⟩ (fun y o e nh=>kp _ _ (S3 _ _ e) nh);rcases List.mem_append.mp hp' with hp'|hp'
    ·obtain ⟨a,b,vs1,vs2,ds',e1,e2,e3,e4,e5,e6,e7,e8,e9⟩:=HH3.2.2.2 p' hp'
     exact ⟨a,b,vs1,vs2,ds',tp _ _ e1,e2,e3,kp _ _ e4 e2.2,kp _ _ e5 e3.2,aJ.keep tp _ e8 e6,aJ.keep tp _ e8 e7,e8,e9⟩
    ·rw [List.mem_singleton.mp hp']
     refine ⟨l,l2,vs,vs,ds,tp _ _ ep,⟨fun m=>nlw l m rfl,nlh⟩,⟨fun m=> ?_,n2h⟩,kp _ _ el3 nlh,kp _ _ Ug n2h,aJ.keep tp _ im dl3,aJ.keep tp _ im dl3,im,sh⟩;obtain ⟨u,e⟩:=Vt l2 m;rw [fl2] at e;cases e
   ·exact ⟨_,rfl,.inl ⟨rfl,_,bf.of el2⟩,l,_,rfl,rfl,el2,clear' H2 (Same.refl _)⟩
mutual
theorem vC:∀d:PyData,d.canLay0=true->PyData.eqv d d=true
 | .none,_=>rfl
 | .bool b,_=>by simp [PyData.eqv]
 | .int i,_=>by simp [PyData.eqv]
 | .str x,_=>by simp [PyData.eqv]
 | .list ds,h=>by simp only [PyData.eqv];exact nu ds (by simpa [PyData.canLay0] using h)
 | .tuple ds,h=>by simp only [PyData.eqv];exact nu ds (by simpa [PyData.canLay0] using h)
 | .dict _,h=>by simp [PyData.canLay0] at h
theorem nu:∀ds:List PyData,PyData.canLayAll0 ds=true->PyData.eqvAll ds ds=true
 | [],_=>rfl
 | d::ds,h=>by
   simp only [PyData.canLayAll0,Bool.and_eq_true] at h;simp only [PyData.eqvAll,Bool.and_eq_true];exact ⟨vC d h.1,nu ds h.2⟩
end
theorem M9 {d:PyData} (h:SeqAt.shaped d=true):PyData.eqv d d=true:=by
 unfold SeqAt.shaped at h;rw [Bool.and_eq_true] at h;exact vC d h.1
theorem vB {α β:Type} (f:α->β):∀(l:List α) (z:Nat),(l.map f).eraseIdx z=(l.eraseIdx z).map f
 | [],_=>rfl
 | _::_,0=>rfl
 | a::l,z+1=>by
   show f a::(l.map f).eraseIdx z=f a::(l.eraseIdx z).map f;rw [vB f l z]
def lD (a:List Int):PyData:= .list (a.map PyData.int)
def wj (H:Hp) (r:Addr):List Int:=match H r with
 | some (.lst us)=>us.map vInt
 | _=>[]
theorem Dg {H:Hp} {r:Addr} {a:List Int} (e:H r=some (.lst (a.map V.int))):wj H r=a:=by
 unfold wj;rw [e];show (a.map V.int).map vInt=a;rw [List.map_map];exact List.map_id _
theorem nA {H:Hp}:∀(ls:List Addr) (as:List (List Int)),ls.length=as.length->(∀(i:Nat) (l:Addr) (a:List Int),ls[i]? = some l->as[i]? = some a->H l=some (.lst (a.map V.int)))->aJ H (ls.map V.ref) (as.map lD)
 | [],[],_,_=>by simp [aJ]
 | [],_::_,h,_=>by simp at h
 | _::_,[],h,_=>by simp at h
 | l::ls,a::as,h,q=>by
   simp only [List.map_cons,aJ];exact ⟨ud (q 0 l a rfl rfl),nA ls as (by simpa using h) fun i l' a' h1 h2=>q (i+1) l' a' h1 h2⟩
theorem cF.kpl {H H':Hp} {r b:Addr} {n:Nat} (W:List Addr) (h:cF H r b n) (k:∀x u,H x=some u->x∉W->H' x=some u) (n1:r∉W) (n2:b∉W):cF H' r b n:=by
 obtain ⟨ns,i,f,c,t,e1,e2,q⟩:=h;exact ⟨ns,i,f,c,t,k _ _ e1 n1,k _ _ e2 n2,q⟩
structure Rz (H5:Hp) (R:Rc) (r b hd:Addr):Prop where
 fp:∀x∈R.fp,H5 x=none
 pl:H5 R.pl=none
 Wi:H5 hd=none
 nh:hd∉R.fp
 np:R.pl≠hd
 er:∃u,H5 r=some u
 eb:∃u,H5 b=some u
structure xr (C:Addr) (H5 H:Hp) (R:Rc) (r b hd:Addr) (m:Nat) (ws:List bC) (hn j:Nat) (fs:List Addr):Prop where
 kp:Kp r H5 H
 bag:cF H r b m
 rc:RcAt C H R (ws.take j) hn
 held:HeldAt H hd (r::R.fp) fs
section
variable {C:Addr} {H5 H H':Hp} {R:Rc} {r b hd:Addr} {m:Nat} {ws:List bC} {hn j:Nat} {fs:List Addr}
theorem Rz.K1 (S:Rz H5 R r b hd):r∉R.fp/\b∉R.fp/\R.pl≠r/\r≠hd/\b≠hd:=by
 obtain ⟨u,e⟩:=S.er;obtain ⟨v,e'⟩:=S.eb;exact ⟨fun q=>(by rw [S.fp _ q] at e;cases e),fun q=>(by rw [S.fp _ q] at e';cases e'),(au e S.pl).symm,au e S.Wi,au e' S.Wi⟩
theorem xr.Vt (L:xr C H5 H R r b hd m ws hn j fs):∀x∈r::R.fp,∃u,H x=some u:=fun x hx=>by
 rcases List.mem_cons.mp hx with rfl|hx
 ·exact L.bag.at
 ·exact L.rc.DQ hx
theorem xr.draw (S:Rz H5 R r b hd) (L:xr C H5 H R r b hd m ws hn j fs) (k:Kp r H H') (B:cF H' r b (m+1)):xr C H5 H' R r b hd (m+1) ws hn j fs:=by
 obtain ⟨ys,hr⟩:=L.bag.lst;exact ⟨L.kp.trans k,B,L.rc.kp k hr S.K1.1 S.K1.2.2.1,L.held.keep (fun x u e n=>k _ _ e (fun z=>n (by rw [z];exact .head _))) (L.bag.tups k)⟩
theorem xr.same (L:xr C H5 H R r b hd m ws hn j fs) (k:Same H H'):xr C H5 H' R r b hd m ws hn j fs:=⟨L.kp.trans (Kp.of_same k),L.bag.keep k,L.rc.same k,L.held.same k⟩
theorem xr.asked (S:Rz H5 R r b hd) (L:xr C H5 H R r b hd m ws hn j fs) {fs':List Addr} (h:HeldAt H' hd (r::R.fp) fs') (k:Kp hd H H'):xr C H5 H' R r b hd m ws hn j fs':=
 ⟨fun x u e n=>k _ _ (L.kp _ _ e n) (au e S.Wi),L.bag.kp k S.K1.2.2.2.1 S.K1.2.2.2.2,L.rc.kp k L.held.1 S.nh S.np,h⟩
theorem xr.did (S:Rz H5 R r b hd) (L:xr C H5 H R r b hd m ws hn j fs) {j':Nat} (h:RcAt C H' R (ws.take j') hn) (k:Vo R.fp H H'):xr C H5 H' R r b hd m ws hn j' fs:=
 ⟨fun x u e n=>k _ _ (L.kp _ _ e n) (fun q=>by rw [S.fp _ q] at e;cases e),L.bag.kpl R.fp k S.K1.1 S.K1.2.1,h,L.held.keep (fun x u e n=>k _ _ e (fun q=>n (.tail _ q))) (k.tups L.rc)⟩
end
def CZ (K:PySem.W.Frag):Sp:=fun vs H Q _=>∃(a:Addr) (ns:List Int),vs=[.ref a]/\bf K H a (ns.map V.int)/\ns.length<=63 /\ ∀H',Q (.bl true) H'
theorem Qg {ak:Addr} {f:Addr} {fd:FuncData} (F:j4 K "law" "law" oG f fd) (aB:cR K ak) (Rh:FnAt P w K mg base 1 "_law_bag" ["script"] (Hr K)) (cP:FnAt P w K mg base 2 "_law_draw" ["bag","many"] (pJ K)) (Kd:FnAt P w K mg base 3 "_law_hands" ["bag"] (vY K)) (Cy:FnAt P w K mg base 4 "_law_touches" ["bag","hands"] (pG K)) (Kc:FnAt P w K mg base 1 "_law_table" ["touches","hands"] (sE K)) (Cq:Cr P w K mg base 2 ak "Recorder" ["self","hands"] [] (vU ak K)) (uF:MethAt P w K mg base 4 ak "did" ["self","hand","kind","cell"] (Hq ak K)) (gG:MethAt P w K mg base 4 ak "known" ["self","hand"] (oh ak K)) (jx:FnAt P w K mg base 6 "_law_alike" ["found","due"] (fP 5 K)) (Rg:FnAt P w K mg base 2 "_law_due" ["touches","table","hands","done"] (vZ K)) (zR:FnAt P w K mg base 7 "_law_asked" ["recorder","due","kind","hand","held"] (v8 ak K)) (Bt:qL mg):cJ P w K mg base jf 8 f fd ["script"] (CZ K):=by
 refine F.ok cZ (fun vs H Q E h=> ?_) (fun cdv A outer s H vs Q E hr h=> ?_)
 ·obtain ⟨a,ns,rfl,_⟩:=h
  rfl
 ·obtain ⟨sa,sns,rfl,hS,hlen,k⟩:=h
  have jk:=hr.units
  refine ⟨_,(aC (aR (i:=1) cZ.nd rfl (Or.inl rfl) (bF Rh (hr.mono (by decide)) (by rfl) (aj (pv 0) aq)))
   (aC (aR (i:=2) cZ.nd rfl (Or.inl rfl) (bF Kd (hr.mono (by decide)) (by rfl) (aj (pv 1) aq)))
   (aC (aR (i:=3) cZ.nd rfl (Or.inl rfl) (bF Cy (hr.mono (by decide)) (by rfl) (aj (pv 1) (aj (pv 2) aq))))
   (aC (aR (i:=4) cZ.nd rfl (Or.inl rfl) (bF Kc (hr.mono (by decide)) (by rfl) (aj (pv 3) (aj (pv 2) aq))))
   (aC (aR (i:=5) cZ.nd rfl (Or.inr rfl) (Ih Cq (hr.mono (by decide)) (by rfl) (aj (pv 2) aq)))
   (aC (aR (i:=6) cZ.nd rfl (Or.inl rfl) (bT aq))
   (aC (gA PassesOwn.never rfl (dB (by rfl) Bt.eF (aj (aY fB (aP (aV (K:=K) rfl) (by rfl) Bt.gn dU (aj (pv 3) aq)) aD) aq)) (aU (i:=7) cZ.nd rfl (Or.inl rfl))
   (aC (aR (i:=8) cZ.nd rfl (Or.inl rfl) (bF Rg (hr.mono (by decide)) (by rfl) (aj (pv 3) (aj (pv 4) (aj (pv 2) (aj (pv 7) aq))))))
   (aC (gA PassesOwn.never rfl (dB (by rfl) Bt.eF (aj (bF cP (hr.mono (by decide)) (by rfl) (aj (pv 1) (aj aD aq))) aq)) (aU (i:=9) cZ.nd rfl (Or.inl rfl))
   (aC (aR (i:=10) cZ.nd rfl (Or.inl rfl) (bF cP (hr.mono (by decide)) (by rfl) (aj (pv 1) (aj aD aq))))
   (aC (aR (i:=11) cZ.nd rfl (Or.inl rfl) (bF cP (hr.mono (by decide)) (by rfl) (aj (pv 1) (aj (pv 2) aq))))
   (aC (aR (i:=12) cZ.nd rfl (Or.inl rfl) (aM (aL (K:=K) rfl) (bT (aj A_ (aj (pv 6) aq))) (bF cP (hr.mono (by decide)) (by rfl) (aj (pv 1) (aj aD aq))) (fun _ _=>rfl)))
   (aG (dF (jN (g_ (bF zR (hr.mono (by decide)) (by rfl) (aj (pv 5) (aj (pv 8) (aj (pv 10) (aj (pv 11) (aj (pv 12) aq)))))))) (aG (aX mW)) bW))))))
   (aG (dF (bZ tu (pv 7) (aP (aV (K:=K) rfl) (by rfl) Bt.gn dU (aj (pv 3) aq)) (bK _)) (aC (jg (aM (aL (K:=K) rfl) (pv 3) (pv 7) (fun _ _=>rfl)) (lQ (K:=K) (n:=3) rfl rfl (cB (aU (i:=11) cZ.nd rfl (Or.inl rfl)) (cB (aU (i:=13) cZ.nd rfl (Or.inl rfl)) (cB (aU (i:=14) cZ.nd rfl (Or.inl rfl)) lO)))))
   (aG (dF (jN (g_ (bF jx (hr.mono (by decide)) (by rfl) (aj (sY uF aB.cls (hr.mono (by decide)) (pv 5) (aj (pv 11) (aj (pv 13) (aj (pv 14) aq)))) (aj (aM (aL (K:=K) rfl) (aM (bA (K:=K) rfl) (pv 4) aD (fun _ _=>rfl)) (pv 7) (fun _ _=>rfl)) aq))))) (aG (aX mW)) bW))) bW)))))
   (aC (aR (i:=15) cZ.nd rfl (Or.inl rfl) (bT (aj aD (aj aD (aj aD (aj aD (aj aD aq)))))))
   (aC (gA PassesOwn.never rfl (dB (by rfl) Bt.eF (aj aD aq)) (aU (i:=9) cZ.nd rfl (Or.inl rfl))
   (aC (aR (i:=13) cZ.nd rfl (Or.inl rfl) (kO (K:=K) rfl PySem.F.plainAttrs_list PySem.F.slot_list_pop PySem.F.type_list_pop Jd (pv 15) (aj (bF cP (hr.mono (by decide)) (by rfl) (aj (pv 1) (aj (aP (aV (K:=K) rfl) (by rfl) Bt.gn dU (aj (pv 15) aq)) aq))) aq)))
   (aG (gA PassesOwn.never rfl (dB (by rfl) Bt.eF (aj (pv 2) aq)) (aU (i:=11) cZ.nd rfl (Or.inl rfl))
   (aG (dF (jN (g_ (bF zR (hr.mono (by decide)) (by rfl) (aj (pv 5) (aj (pv 8) (aj (pv 13) (aj (pv 11) (aj A_ aq)))))))) (aG (aX mW)) bW))))))
   (aC (wA (i:=16) rfl cZ.nd rfl (Or.inl rfl) (N:=["hand","recorder"]) (own:=["hand"]) (caps:=[5]) (aW.of (by kernel_rfl)) (dB (by rfl) Bt.eF (aj (pv 2) aq)) (fun _ _ _ _=>(aU (i:=0) (show List.Nodup (["hand","recorder"]:List Str) by decide +kernel) rfl (Or.inl rfl))) (fun _ _ _ _=>eX) (fun _ _ _ _=>(sY gG aB.cls (hr.mono (by decide)) (pv 1) (aj (pv 0) aq))))
   (aC (dF (jN (g_ (bF jx (hr.mono (by decide)) (by rfl) (aj (pv 16) (aj (aM (bA (K:=K) rfl) (pv 8) aD (fun _ _=>rfl)) aq))))) (aG (aX mW)) bW)
   (aG (aX (aP (jY (K:=K) rfl rfl) (by rfl) Bt.O1 JV (aj (gK rfl (N:=["one","copied"]) (own:=["one","copied"]) (caps:=[]) (aW.of (by kernel_rfl)) (eV (K:=K) rfl (pv 6)) (fun _ _ _ _=>(lQ (K:=K) (n:=2) rfl rfl (cB (aU (i:=0) (show List.Nodup (["one","copied"]:List Str) by decide +kernel) rfl (Or.inl rfl)) (cB (aU (i:=1) (show List.Nodup (["one","copied"]:List Str) by decide +kernel) rfl (Or.inl rfl)) lO)))) (fun _ _ _ _=>eX) (fun _ _ _ _=>(eY (LC (K:=K) rfl jk) (pv 0) (pv 1) (bK _)))) aq))))))))))))))), ?_⟩
  refine ⟨_,rfl,sa,sns,rfl,hS,hlen,fun r b H1 hr1 hb1 B1 sm1=> ?_⟩;refine ⟨_,rfl,r,b,0,rfl,B1,by decide,fun hn H3 hn0 hn1 B3 k3=> ?_⟩;refine ⟨_,rfl,_,rfl,r,b,_,hn,rfl,B3,by decide,hn0,hn1,fun w ws H4 hw0 W CG wl B4 k4=> ?_⟩;obtain ⟨hn,rfl⟩:=Int.eq_ofNat_of_zero_le (show 0<=hn by omega);have tok:=G9 CG hn1;have Oh:∀x∈ws,0<=x.1/\x.1<8:=fun x hx=>(tok x hx).1;refine ⟨_,rfl,_,rfl,w,hn,ws,rfl,W,CG,hn0,hn1,wl,fun p t1 t2 H5 rH L1 L2 ft1 ft2 s5=> ?_⟩;rw [Int.toNat_natCast] at L1;have W5:=W.same s5;have B5:cF H5 r b 100000:=(B4.keep s5).mono (by omega);obtain ⟨o4,tQ⟩:=B4.at;obtain ⟨o3,Ou⟩:=B3.at;have nwr:w≠r:=(au Ou hw0).symm;have nt1:t1≠r:=(au tQ ft1).symm;have nt2:t2≠r:=(au tQ ft2).symm;obtain ⟨vs,hv,dv⟩:=id W5;have vl:vs.length=ws.length:=by rw [dv.length,List.length_map]
  refine ⟨_,rfl,fun o dx ho hdx ndo=> ?_⟩;have s6:Same H5 (upd (upd H5 dx (.own o)) o (.ins ak dx [])):=(aF hdx).trans (aF (by rw [aQ (Ne.symm ndo)];exact ho));refine ⟨o,dx,hn,rfl,ao,hn0,hn1,fun R H7 ero RC fr fpl k7=>⟨rfl, ?_⟩⟩;rw [Int.toNat_natCast] at RC;have s7:Same H5 H7:=fun c u e=>k7 _ _ (s6 _ _ e) (au e ho);have TX:∀c∈R.fp,H5 c=none:=fun c m=>s6.free (fr c m);have aaQ:H5 R.pl=none:=s6.free fpl;generalize (upd (upd H5 dx (.own o)) o (.ins ak dx []))=H6 at *;subst ero;refine ⟨(by show 0<=sizeLine;decide),fun hd hhd=> ?_⟩;have shd:=aF (o:=HO.lst []) hhd;have hd7:(upd H7 hd (.lst [])) hd=some (.lst []):=ao
  have nhd:hd∉R.fp:=fun m=>by
   obtain ⟨u,e⟩:=RC.DQ m;rw [hhd] at e;cases e
  have eb5:∃u,H5 b=some u:=by
   obtain ⟨_,_,_,_,_,_,e,_⟩:=B5;exact ⟨_,e⟩
  have St:Rz H5 R r b hd:=⟨TX,aaQ,s7.free hhd,nhd,au RC.pl hhd,B5.at,eb5⟩
  have L0:xr ak H5 (upd H7 hd (.lst [])) R r b hd 100000 ws hn 0 []:=by
   refine ⟨Kp.of_same (s7.trans shd),B5.keep (s7.trans shd),by rw [List.take_zero];exact RC.same shd,⟨hd7,by simp, ?_,by simp⟩⟩;intro m;rcases List.mem_cons.mp m with z|z
   ·exact St.K1.2.2.2.1 z.symm
   ·exact St.nh z
  generalize (upd H7 hd (.lst []))=H8 at L0 ⊢;clear shd hd7 hhd
  have L1x:∀Hc,Kp r H5 Hc->bL Hc t1 [r,hd] ws.length (RowC ws hn):=fun Hc kc=>by
   obtain ⟨rs,e,l,q⟩:=L1;obtain ⟨bns,i1,f1,c1,t1',e1,_⟩:=B5;refine ⟨rs,kc _ _ e nt1,l,fun jj r1 hj=> ?_⟩;obtain ⟨_,a,ha,rh⟩:=q jj r1 hj
   have n1:r1≠r:=fun z=>by
    rw [z,e1] at ha;have:=HO.lst.inj (Option.some.inj ha);cases a with
    | nil=>cases this
    | cons y ys=>cases this
   refine ⟨fun x hx=> ?_,a,kc _ _ ha n1,rh⟩;simp only [List.mem_cons,List.not_mem_nil,or_false] at hx;rcases hx with rfl|rfl
   ·exact n1
   ·exact au ha St.Wi
  have tps:∀Hc,Kp r H5 Hc -> ∀a xs,H5 a=some (HO.tup xs)->Hc a=some (HO.tup xs):=fun Hc kc=>B5.tups kc
  have L2x:∀Hc,Kp r H5 Hc->bL Hc t2 [] ws.length (RD ws):=fun Hc kc=>by
   obtain ⟨rs,e,l,q⟩:=L2;obtain ⟨bns,i1,f1,c1,t1',e1,_⟩:=id B5;refine ⟨rs,kc _ _ e nt2,l,fun jj r1 hj=> ?_⟩;obtain ⟨_,nn,⟨us,hus,dus⟩,q2⟩:=q jj r1 hj
   have n1:r1≠r:=fun z=>by
    rw [z,e1] at hus;have e2:=HO.lst.inj (Option.some.inj hus);obtain ⟨y,t,_,ev,_⟩:=rB dus (i:=1) (v:= .int i1) (by rw [←e2];rfl);cases ev
   exact ⟨fun _ z=>absurd z (by simp),nn,⟨us,kc _ _ hus n1,aJ.keep (tps Hc kc) _ (bH _ gC _) dus⟩,q2⟩
  have Wx:∀Hc,Kp r H5 Hc->gU Hc w ws:=fun Hc kc=>by
   obtain ⟨ys,e⟩:=B5.lst;exact W5.kp e kc nwr
  clear L1 L2 ft1 ft2 tQ Ou o4 o3 k3 k4 B1 B3 B4 sm1 s6 fr fpl k7;obtain ⟨vs8,hv8,dv8⟩:=id (Wx _ L0.kp);have vl8:vs8.length=ws.length:=by rw [dv8.length,List.length_map]
  dsimp only [gk];refine lJ (fun σ Hz=>∃(x7 x9 x10 x11 x12 Ks G3:Option V) (m:Nat) (fs:List Addr) (d f c kn:Addr) (ns:List Nt),σ=[some (.ref sa),some (.ref r),some (.int hn),some (.ref w),some (.ref p),some (.ref R.o),some (.ref hd),x7,some (.ref d),x9,x10,x11,x12,Ks,G3,none,none]/\m<=110000/\xr ak H5 Hz R r b hd m ws hn ws.length fs/\jy Hz [r,hd] ws hn ws.length d f c kn ns) (fun D' hD' _=> ?_) ?_
  ·refine ⟨_,rfl,w,vs8,rfl,.inl (bf.of hv8),_,_,rfl,rfl,_,rfl,by omega,by omega, ?_⟩
   rw [vl8];rw [show ((ws.length:Int)+1).toNat=ws.length+1 by omega]
   refine jr (lo:=0) (n:=ws.length+1) (fun j σ Hc=>∃(x7 x8 x9 x10 x11 x12 Ks G3:Option V) (m:Nat) (fs:List Addr),σ=[some (.ref sa),some (.ref r),some (.int hn),some (.ref w),some (.ref p),some (.ref R.o),some (.ref hd),x7,x8,x9,x10,x11,x12,Ks,G3,none,none]/\m<=100000+10*j/\xr ak H5 Hc R r b hd m ws hn (min j ws.length) fs/\(j=ws.length+1 -> ∃(d f c kn:Addr) (ns:List Nt),x8=some (.ref d)/\jy Hc [r,hd] ws hn ws.length d f c kn ns))
    ⟨none,none,none,none,none,none,none,none,_,[],rfl,Nat.le_refl _,by rw [Nat.zero_min];exact L0,fun z=>by omega⟩ ?_ ?_
   ·rintro j σ Hc hj ⟨x7,x8,x9,x10,x11,x12,Ks,G3,m,fs,rfl,mb,L,_⟩
    rw [Int.zero_add];have jl:j<=ws.length:=by omega
    rw [Nat.min_eq_left jl] at L;obtain ⟨ysr,hrr⟩:=L.bag.lst;refine ⟨_,rfl,_,rfl,_,rfl,_,rfl,w,p,t1,t2,[r,hd],ws,hn,j,rfl, ?_,Wx _ L.kp,CG,tps _ L.kp _ _ rH,L1x _ L.kp,L2x _ L.kp,jl,wl,by omega,fun d f c kn ns H9 ed Nf pf sf ec lk nf nc nk s9=> ?_⟩
    ·intro x hx
     simp only [List.mem_cons,List.not_mem_nil,or_false] at hx;rcases hx with rfl|rfl
     ·exact ⟨_,hrr⟩
     ·exact ⟨_,L.held.1⟩
    have D9:jy H9 [r,hd] ws hn j d f c kn ns:=⟨nf,nc,nk,ed,Nf,pf,sf,ec,lk⟩;have L9:=L.same s9;clear L ed Nf pf sf ec lk nf nc nk s9;dsimp only [gk];refine lJ (fun σ Hd=>∃(y9 y10 y11 y12:Option V) (m':Nat) (fs':List Addr),σ=[some (.ref sa),some (.ref r),some (.int hn),some (.ref w),some (.ref p),some (.ref R.o),some (.ref hd),some (.int j),some (.ref d),y9,y10,y11,y12,Ks,G3,none,none]/\m'<=m+10/\xr ak H5 Hd R r b hd m' ws hn j fs'/\jy Hd [r,hd] ws hn j d f c kn ns) (fun D2 hD2 rt2=> ?_) ?_
    ·obtain ⟨ys9,hr9⟩:=L9.bag.lst
     refine ⟨_,rfl,r,b,3,m,rfl,L9.bag,by omega,by decide,by decide,fun z Ha z0 z1 Ba ka=>⟨_,rfl,by omega,by omega, ?_⟩⟩;have La:=L9.draw St ka Ba;have Da:=D9.kp ka hr9 (.head _)
     refine jr (lo:=0) (n:=z.toNat) (fun i σ Hb=>∃(y9 y10 y11 y12:Option V) (m':Nat) (fs':List Addr),σ=[some (.ref sa),some (.ref r),some (.int hn),some (.ref w),some (.ref p),some (.ref R.o),some (.ref hd),some (.int j),some (.ref d),y9,y10,y11,y12,Ks,G3,none,none]/\m'<=m+1+3*i/\xr ak H5 Hb R r b hd m' ws hn j fs'/\jy Hb [r,hd] ws hn j d f c kn ns)
      ⟨x9,x10,x11,x12,m+1,fs,rfl,by omega,La,Da⟩ ?_ (fun σ Hb ⟨y9,y10,y11,y12,m',fs',e,mb',Lb,Db⟩=>hD2 _ _ ⟨y9,y10,y11,y12,m',fs',e,by omega,Lb,Db⟩)
     rintro i σ Hb hi ⟨y9,y10,y11,y12,m',fs',rfl,mb',Lb,Db⟩;obtain ⟨ysb,hrb⟩:=Lb.bag.lst;refine ⟨_,rfl,r,b,5,m',rfl,Lb.bag,by omega,by decide,by decide,fun kd Hc1 kd0 kd1 B1' k1'=> ?_⟩;have Lc:=Lb.draw St k1' B1';have Dc:=Db.kp k1' hrb (.head _);obtain ⟨kd,rfl⟩:=Int.eq_ofNat_of_zero_le kd0;obtain ⟨ysc,hrc⟩:=Lc.bag.lst;refine ⟨_,rfl,_,rfl,r,b,hn,m'+1,rfl,Lc.bag,by omega,by omega,by omega,fun h Hc2 h0 h1 B2' k2'=> ?_⟩;have Ld:=Lc.draw St k2' B2';have Dd:=Dc.kp k2' hrc (.head _);obtain ⟨h,rfl⟩:=Int.eq_ofNat_of_zero_le h0;refine ⟨_,rfl,(by show 2<=sizeLine;decide),fun q hq=> ?_⟩;have sq:=aF (o:=HO.lst [V.non,V.ref hd]) hq;have Dt:=(Ld.bag.ne hq).1;have eq0:(upd Hc2 q (.lst [V.non,V.ref hd])) q=some (.lst [V.non,V.ref hd]):=ao;have Ld:=Ld.same sq;have Dd:=Dd.same sq;generalize (upd Hc2 q (.lst [V.non,V.ref hd]))=Hc3 at sq eq0 Ld Dd ⊢;obtain ⟨ysd,hrd⟩:=Ld.bag.lst;refine ⟨_,rfl,r,b,2,m'+1+1,rfl,Ld.bag,by omega,by decide,by decide,fun u Hc4 u0 u1 B4' k4'=> ?_⟩;have Le:=Ld.draw St k4' B4';have De:=Dd.kp k4' hrd (.head _);have eq4:=k4' _ _ eq0 Dt
     obtain ⟨hv,ehv,aaF⟩:∃hv,rN [V.non,V.ref hd] u=some hv/\(hv = .non\/hv = .ref hd):=by
      rcases (show u=0\/u=1 by omega) with rfl|rfl
      ·exact ⟨_,rfl,.inl rfl⟩
      ·exact ⟨_,rfl,.inr rfl⟩
     refine ⟨_,_,_,_,rfl,rfl,bf.of eq4,ehv, ?_⟩;refine ⟨_,rfl,_,rfl,_,rfl,_,rfl,_,rfl,R,[r,hd],ws,hn,j,d,f,c,kn,ns,kd,h,hv,r::R.fp,rfl,Le.rc,De,jl,wl,CG,by omega,by omega,by omega,Le.Vt, ?_⟩;rcases aaF with rfl|rfl
     ·exact .inl ⟨rfl,fun H5' s5'=>⟨_,rfl,gB ⟨_,_,_,_,m'+1+1+1,fs',rfl,by omega,Le.same s5',De.same s5'⟩⟩⟩
     ·exact .inr ⟨hd,fs',rfl,Le.held,fun aaP H5' hh kk=>⟨_,rfl,gB ⟨_,_,_,_,m'+1+1+1,aaP,rfl,by omega,Le.asked St hh kk,De.kp kk Le.held.1 (.tail _ (.head _))⟩⟩⟩
    rintro σ Hd ⟨y9,y10,y11,y12,m',fs',rfl,mb',Ld,Dd⟩;obtain ⟨vsd,hvd,dvd⟩:=id (Wx _ Ld.kp);have vld:vsd.length=ws.length:=by rw [dvd.length,List.length_map]
    refine ⟨_,rfl,_,rfl,w,vsd,rfl,.inl (bf.of hvd),_,_,rfl,rfl,_,rfl, ?_⟩;rw [vld];refine mK (fun q=> ?_) (fun q=> ?_)
    ·have jlt:j<ws.length:=by have:=of_decide_eq_true q;omega
     obtain ⟨x,ex⟩:∃x,ws[j]? = some x:=⟨_,List.getElem?_eq_getElem jlt⟩;obtain ⟨vs',t,hv',et,ht⟩:=lG (Wx _ Ld.kp) ex;have RG:=CG x (List.mem_of_getElem? ex);have lt:(ws.take j).length=j:=by rw [List.length_take];omega
     refine ⟨_,rfl,_,rfl,_,_,_,_,rfl,rfl,bf.of hv',bB et,t,_,rfl,dZ.of ht,rfl,_,_,rfl,_,_,rfl,_,_,rfl,rfl, ?_⟩;refine ⟨_,rfl,R.o,R.dx,_,rfl,Ld.rc.o,rfl,_,rfl,_,rfl,_,rfl,R,ws.take j,hn,x.1,x.2.2,x.2.1,rfl,Ld.rc,by omega,fun y hy=>Oh y (List.mem_of_mem_take hy),RG.1.1,RG.1.2,by omega,fun fl ns2 He hf0 NN pp ss R9 k9=> ?_⟩;rw [show ws.take j++[(x.1,x.2.1,x.2.2)]=ws.take (j+1) from take_snoc ex] at pp R9;rw [lt,I_ jlt] at pp;have Lf:=Ld.did St R9 k9;obtain ⟨rs,hrs,rl,rq⟩:=L2x _ Lf.kp;obtain ⟨br,ebr⟩:∃br,rs[j]? = some br:=⟨_,List.getElem?_eq_getElem (by omega)⟩;obtain ⟨_,Zt,N2,p2,ss2⟩:=rq j br ebr;have e2:Zt=ns2:=lU (p2.trans pp.symm) ss2 ss;subst e2;obtain ⟨fv,hfv,dfv⟩:=id NN;obtain ⟨bv,hbv,dbv⟩:=id N2
     have nl:Zt.length<=300:=by
      rw [pp.length_eq];have:=i_ ws j (cj ws j j);have:=ju ws j j;omega
     refine ⟨_,rfl,_,_,_,_,rfl,rfl,dZ.of (tps _ Lf.kp _ _ rH),rfl,_,rfl,_,_,_,_,rfl,rfl,bf.of hrs,bB (by rw [List.getElem?_map,ebr];rfl),_,_,_,rfl,fY hfv dfv,fY hbv dbv,rO.up (rO.up (SN Zt (by omega))),fun Rf s10=>⟨_,rfl,gB ?_⟩⟩;exact ⟨_,_,_,_,_,_,_,_,m',fs',rfl,by omega,by rw [Nat.min_eq_left (by omega)];exact Lf.same s10,fun z=>by omega⟩
    ·have jeq:j=ws.length:=by
      have:¬(j:Int)<ws.length:=fun z=>q (decide_eq_true z);omega
     exact ⟨_,_,_,_,_,_,_,_,m',fs',rfl,by omega,by rw [Nat.min_eq_right (by omega),←jeq];exact Ld,fun _=>⟨d,f,c,kn,ns,rfl,by rw [←jeq];exact Dd⟩⟩
   ·rintro σ Hc ⟨x7,x8,x9,x10,x11,x12,Ks,G3,m,fs,rfl,mb,L,q⟩
    obtain ⟨d,f,c,kn,ns,rfl,D⟩:=q rfl;rw [Nat.min_eq_right (by omega)] at L;exact hD' _ _ ⟨_,_,_,_,_,_,_,m,fs,d,f,c,kn,ns,rfl,by omega,L,D⟩
  rintro σ Hz ⟨x7,x9,x10,x11,x12,Ks,G3,m,fs,d,f,c,kn,ns,rfl,mb,L,D⟩;obtain ⟨d7,hrz⟩:=L.bag.lst;have rcX:∀Hx,Kp r Hz Hx->RcAt ak Hx R (ws.take ws.length) hn:=fun Hx kx=>L.rc.kp kx hrz St.K1.1 St.K1.2.2.1;have dX:∀Hx,Kp r Hz Hx->jy Hx [r,hd] ws hn ws.length d f c kn ns:=fun Hx kx=>D.kp kx hrz (.head _);have hX:∀Hx,Kp r Hz Hx->HeldAt Hx hd (r::R.fp) fs:=fun Hx kx=>L.held.keep (fun x u e n=>kx _ _ e (fun z=>n (by rw [z];exact .head _))) (L.bag.tups kx);refine ⟨(by show 5<=sizeLine;decide),fun kd hkd=> ?_⟩;have skd:=aF (o:=HO.lst [V.int 0,V.int 1,V.int 2,V.int 3,V.int 4]) hkd;have nkr:kd≠r:=(L.bag.ne hkd).1;have S9:kd≠b:=(L.bag.ne hkd).2;have ek0:(upd Hz kd (.lst [V.int 0,V.int 1,V.int 2,V.int 3,V.int 4])) kd=some (.lst (([0,1,2,3,4]:List Nat).map fun k:Nat=>V.int k)):=ao;have B0:=L.bag.keep skd;have K0:Kp r Hz (upd Hz kd (.lst [V.int 0,V.int 1,V.int 2,V.int 3,V.int 4])):=Kp.of_same skd;generalize (upd Hz kd (.lst [V.int 0,V.int 1,V.int 2,V.int 3,V.int 4]))=Hk at ek0 B0 K0 ⊢;dsimp only [gk];refine lJ (fun σ Hy=>∃(y9 y11 y13:Option V),σ=[some (.ref sa),some (.ref r),some (.int hn),some (.ref w),some (.ref p),some (.ref R.o),some (.ref hd),x7,some (.ref d),y9,x10,y11,x12,y13,G3,some (.ref kd),none]/\Kp r Hz Hy) (fun D' hD' _=> ?_) ?_
  ·refine ⟨_,rfl,by decide,by decide, ?_⟩
   refine jr (lo:=0) (n:=5) (fun i σ Hc=>∃(y9 y11 y13:Option V) (m':Nat) (ks:List Nat),σ=[some (.ref sa),some (.ref r),some (.int hn),some (.ref w),some (.ref p),some (.ref R.o),some (.ref hd),x7,some (.ref d),y9,x10,y11,x12,y13,G3,some (.ref kd),none]/\Kp r Hz Hc/\cF Hc r b m'/\m'<=110000+i/\Hc kd=some (.lst (ks.map fun k:Nat=>V.int k))/\ks.length+i=5 /\ ∀k∈ks,k<5)
    ⟨x9,x11,Ks,m,[0,1,2,3,4],rfl,K0,B0,by omega,ek0,rfl,by decide⟩ ?_ (fun σ Hc ⟨y9,y11,y13,m',ks,e,kc,_⟩=>hD' _ _ ⟨y9,y11,y13,e,kc⟩)
   rintro i σ Hc hi ⟨y9,y11,y13,m',ks,rfl,kc,Bc,mb',ek,kl,k5⟩;refine ⟨_,rfl,.inl ⟨rfl,_,bf.of ek⟩,_,rfl,_,rfl,kd,_,rfl,.inl (bf.of ek), ?_⟩;rw [List.length_map];refine ⟨r,b,_,m',rfl,Bc,by omega,by omega,by omega,fun z Hd z0 z1 Bd kz=> ?_⟩;obtain ⟨z,rfl⟩:=Int.eq_ofNat_of_zero_le z0;have ekd:=kz _ _ ek nkr;have zl:z<ks.length:=by omega
   obtain ⟨kk,ekk⟩:∃kk,ks[z]? = some kk:=⟨_,List.getElem?_eq_getElem zl⟩;have VP:=k5 kk (List.mem_of_getElem? ekk);refine ⟨kd,_,z,z,.int kk,rfl,rfl,ekd,by omega,by omega,by rw [List.length_map,PySem.StrLaws.seqIndex_nonneg (by omega) (by omega),Int.toNat_natCast],by rw [List.getElem?_map,ekk];rfl, ?_⟩;have Tj:Kp kd Hd (upd Hd kd (.lst ((ks.map fun k:Nat=>V.int k).eraseIdx z))):=Kp.set;have eke:(upd Hd kd (.lst ((ks.map fun k:Nat=>V.int k).eraseIdx z))) kd=some (.lst ((ks.eraseIdx z).map fun k:Nat=>V.int k)):=by rw [ao,vB]
   have ke:Kp r Hz (upd Hd kd (.lst ((ks.map fun k:Nat=>V.int k).eraseIdx z))):=fun x u e n=>Tj _ _ (kz _ _ (kc _ _ e n) n) (au e hkd);have Be:cF (upd Hd kd (.lst ((ks.map fun k:Nat=>V.int k).eraseIdx z))) r b (m'+1):=Bd.kp Tj nkr.symm S9.symm;generalize (upd Hd kd (.lst ((ks.map fun k:Nat=>V.int k).eraseIdx z)))=He at eke ke Be ⊢;have rce:=rcX He ke;have dce:=dX He ke;dsimp only [gk];refine ⟨_,rfl,_,rfl,by omega,by omega, ?_⟩;rw [Int.toNat_natCast];refine jr (lo:=0) (n:=hn) (fun h σ Hf=>∃(y11:Option V),σ=[some (.ref sa),some (.ref r),some (.int hn),some (.ref w),some (.ref p),some (.ref R.o),some (.ref hd),x7,some (.ref d),some (.int (0+(i:Int))),x10,y11,x12,some (.int kk),G3,some (.ref kd),none]/\Same He Hf) ⟨y11,rfl,Same.refl _⟩ ?_ ?_
   ·rintro h σ Hf hh ⟨WX,rfl,sf⟩
    rw [Int.zero_add];refine ⟨_,rfl,_,rfl,_,rfl,_,rfl,R,[r,hd],ws,hn,ws.length,d,f,c,kn,ns,kk,h,.non,[],rfl,rce.same sf,dce.same sf,Nat.le_refl _,wl,CG,VP,hh,by omega,by simp,.inl ⟨rfl,fun Hg sg=>⟨_,rfl,gB ⟨_,rfl,sf.trans sg⟩⟩⟩⟩
   ·rintro σ Hf ⟨WX,rfl,sf⟩
    exact ⟨_,_,_,m'+1,ks.eraseIdx z,rfl,ke.trans (Kp.of_same sf),Be.keep sf,by omega,sf _ _ eke,by rw [List.length_eraseIdx_of_lt zl];omega,fun k hk=>k5 k (List.mem_of_mem_eraseIdx hk)⟩
  rintro σ Hy ⟨y9,y11,y13,rfl,ky⟩;have rcy:=rcX Hy ky;have dy:=dX Hy ky;have hy:=hX Hy ky;obtain ⟨rs,hkn,rl,rq⟩:=id dy.kn;refine ⟨_,rfl,_,rfl,by omega,by omega,fun Dl hDl=> ?_⟩;rw [Int.toNat_natCast];refine iU (lo:=0) (n:=hn) (fun i σ Hc=>∃(v:Option V) (ls:List Addr),σ=[v,some (.ref R.o)]/\ls.length=i/\Same Hy Hc/\Hc Dl=some (.lst (ls.map V.ref)) /\ ∀(h:Nat) (l rh:Addr),ls[h]? = some l->rs[h]? = some rh->l≠Dl/\Hc l=some (.lst ((wj Hy rh).map V.int))) ⟨none,[],rfl,rfl,aF hDl,ao,fun h l rh e=>by simp at e⟩ ?_ ?_
  ·rintro i σ Hc hi ⟨v,ls,rfl,ll,sc,eD,hq⟩
   dsimp only [gk,Hl];rw [if_pos rfl,Int.zero_add];have rcc:=rcy.same sc;refine ⟨_,rfl,R.o,R.dx,_,rfl,rcc.o,rfl,_,rfl,R,ws.take ws.length,hn,(i:Int),rfl,rcc,by omega,by omega,by omega,fun l g Hd hl e1 kl sd=> ?_⟩;have nl:l≠Dl:=(au eD hl).symm;refine ⟨_,sd _ _ eD,by rw [List.length_map,sizeLine_eq];omega,_,ls++[l],rfl,by simp [ll],(sc.trans sd).newly hDl,by rw [ao,List.map_append];rfl,fun h l' rh h1 h2=> ?_⟩
   have lh:h<ls.length\/h=ls.length:=by
    have:=(List.getElem?_eq_some_iff.mp h1).1;simp at this;omega
   rcases lh with lh|lh
   ·rw [List.getElem?_append_left lh] at h1
    obtain ⟨n1,e⟩:=hq h l' rh h1 h2;exact ⟨n1,by rw [aQ n1];exact sd _ _ e⟩
   ·subst lh
    rw [List.getElem?_append_right (Nat.le_refl _)] at h1;simp at h1;subst h1;rw [ll] at h2;obtain ⟨_,DC⟩:=rq i rh h2;have er:=vD DC kl;have em:(List.range hn).map (fun i:Nat=>V.int (g (i:Int)))=((List.range hn).map fun i:Nat=>g (i:Int)).map V.int:=by rw [List.map_map];rfl
    rw [em] at e1 er;refine ⟨nl, ?_⟩;rw [aQ nl,e1,Dg er]
  rintro σ Hc ⟨v,ls,rfl,ll,sc,eD,hq⟩;have dc:=dy.same sc;have hc:=hy.same sc;have lrs:ls.length=(rs.map (wj Hy)).length:=by rw [List.length_map];omega
  have R7:∀(h:Nat) (rh:Addr),rs[h]? = some rh->Hy rh=some (.lst ((wj Hy rh).map V.int))/\(wj Hy rh).length=hn:=fun h rh e=>by
   obtain ⟨_,a,ha,al,_⟩:=rq h rh e;rw [Dg ha];exact ⟨ha,al⟩
  have D1:Dat Hc (.ref Dl) (.list ((rs.map (wj Hy)).map lD)):=fY eD (nA ls _ lrs fun i l a h1 h2=>by
   rw [List.getElem?_map] at h2;cases e:rs[i]? with
   | none=>rw [e] at h2;cases h2
   | some rh=>
     rw [e] at h2;cases h2;exact (hq i l rh h1 e).2)
  have D2:Dat Hc (.ref kn) (.list ((rs.map (wj Hy)).map lD)):=fY (sc _ _ hkn) (nA rs _ (by rw [List.length_map]) fun i l a h1 h2=>by
   rw [List.getElem?_map,h1] at h2;cases h2;exact sc _ _ (R7 i l h1).1)
  have P5:rO 5 (.list ((rs.map (wj Hy)).map lD)):=by
   refine ⟨by rw [List.length_map,List.length_map];omega,fun dd hdd=> ?_⟩;obtain ⟨a,ha,rfl⟩:=List.mem_map.mp hdd;obtain ⟨rh,hrh,rfl⟩:=List.mem_map.mp ha;obtain ⟨i,ei⟩:=List.getElem?_of_mem hrh;exact rO.up (rO.up (wD (by rw [(R7 i rh ei).2];omega)))
  refine ⟨_,rfl,_,rfl,_,_,_,_,rfl,rfl,dZ.of dc.d,rfl,_,_,_,rfl,D1,D2,P5,fun Hd sd=>⟨_,rfl,gB ?_⟩⟩;have hh:=hc.same sd;dsimp only;refine ⟨_,rfl,hd,rfl,⟨_,bf.of hh.1⟩,fun D9 hD9=> ?_⟩;refine qe (K:=K) (xs:=fs.map V.ref) (fun i σ He=>(∃u v:Option V,σ=[u,v])/\Same Hd He/\He D9=some (.lst ((List.replicate i true).map V.bl))) ⟨⟨none,none,rfl⟩,aF hD9,ao⟩ (fun i σ He _ ⟨_,se,_⟩=>bf.of (se _ _ hh.1)) ?_ ?_
  ·rintro i x σ He hi ⟨⟨u,v,rfl⟩,se,eD9⟩
   rw [List.getElem?_map] at hi
   obtain ⟨q,eq,rfl⟩:∃q,fs[i]? = some q/\x = .ref q:=by
    cases e:fs[i]? with
    | none=>rw [e] at hi;cases hi
    | some q=>rw [e] at hi;exact ⟨q,rfl,(Option.some.inj hi).symm⟩
   obtain ⟨a1,b1,vs1,vs2,ds,g1,_,_,g4,g5,g6,g7,g8,g9⟩:=hh.2.2.2 q (List.mem_of_getElem? eq);have il:=(List.getElem?_eq_some_iff.mp eq).1;have fl:=hh.2.1;refine ⟨q,_,rfl,dZ.of (se _ _ g1),rfl,_,_,rfl,_,_,rfl,rfl, ?_⟩;dsimp only [gk,Hl];rw [if_pos rfl];refine ⟨_,rfl,_,rfl,_,_,(fY g4 g6).same se _,(fY g5 g7).same se _,g9,g9, ?_⟩;rw [if_neg Bool.false_ne_true,M9 g9];refine ⟨_,eD9,(by rw [List.length_map,List.length_replicate,sizeLine_eq];omega),⟨_,_,rfl⟩,se.newly hD9, ?_⟩;rw [ao,List.replicate_succ',List.map_append];rfl
  ·rintro σ He ⟨⟨u,v,rfl⟩,se,eD9⟩
   refine ⟨D9,_,rfl,bf.of eD9, ?_⟩;rw [show (List.replicate (fs.map V.ref).length true).all id=true by simp];exact k _
end
theorem len0 {us:List Value} (h:us.length=0):us=[]:=List.eq_nil_of_length_eq_zero h
theorem bO {us:List Value} {n:Nat} (h:us.length=n+1):∃a vs,us=a::vs/\vs.length=n:=by
 cases us with
 | nil=>cases h
 | cons a t=>exact ⟨a,t,rfl,Nat.succ.inj h⟩
theorem Nk (kV doc pm:Value) (an:Option Addr) (cdv ct:Value) (us:List Value) (hl:us.length=(["script"]:List Str).length):bindArgs (PySem.W.fnOf "_law_bag" "_law_bag" (aK jM) (aH jM) (aA jM) .none kV doc pm an cdv ct) ⟨us,[]⟩=pure ((["script"]:List Str).zip us):=by obtain ⟨_,_,rfl,h1⟩:=bO hl;cases len0 h1;rfl
theorem J0 (kV doc pm:Value) (an:Option Addr) (cdv ct:Value) (us:List Value) (hl:us.length=(["number","place"]:List Str).length):bindArgs (PySem.W.fnOf "_law_stir" "_law_stir" (aK iB) (aH iB) (aA iB) .none kV doc pm an cdv ct) ⟨us,[]⟩=pure ((["number","place"]:List Str).zip us):=by obtain ⟨_,_,rfl,h1⟩:=bO hl;obtain ⟨_,_,rfl,h2⟩:=bO h1;cases len0 h2;rfl
theorem J2 (kV doc pm:Value) (an:Option Addr) (cdv ct:Value) (us:List Value) (hl:us.length=(["bag","many"]:List Str).length):bindArgs (PySem.W.fnOf "_law_draw" "_law_draw" (aK iD) (aH iD) (aA iD) .none kV doc pm an cdv ct) ⟨us,[]⟩=pure ((["bag","many"]:List Str).zip us):=by obtain ⟨_,_,rfl,h1⟩:=bO hl;obtain ⟨_,_,rfl,h2⟩:=bO h1;cases len0 h2;rfl
theorem Gq (kV doc pm:Value) (an:Option Addr) (cdv ct:Value) (us:List Value) (hl:us.length=(["bag"]:List Str).length):bindArgs (PySem.W.fnOf "_law_hands" "_law_hands" (aK fV) (aH fV) (aA fV) .none kV doc pm an cdv ct) ⟨us,[]⟩=pure ((["bag"]:List Str).zip us):=by obtain ⟨_,_,rfl,h1⟩:=bO hl;cases len0 h1;rfl
theorem Gn (kV doc pm:Value) (an:Option Addr) (cdv ct:Value) (us:List Value) (hl:us.length=(["bag","hands","cells","loads","apart"]:List Str).length):bindArgs (PySem.W.fnOf "_law_touch" "_law_touch" (aK fQ) (aH fQ) (aA fQ) .none kV doc pm an cdv ct) ⟨us,[]⟩=pure ((["bag","hands","cells","loads","apart"]:List Str).zip us):=by obtain ⟨_,_,rfl,h1⟩:=bO hl;obtain ⟨_,_,rfl,h2⟩:=bO h1;obtain ⟨_,_,rfl,h3⟩:=bO h2;obtain ⟨_,_,rfl,h4⟩:=bO h3;obtain ⟨_,_,rfl,h5⟩:=bO h4;cases len0 h5;rfl
theorem zM (kV doc pm:Value) (an:Option Addr) (cdv ct:Value) (us:List Value) (hl:us.length=(["bag","hands"]:List Str).length):bindArgs (PySem.W.fnOf "_law_touches" "_law_touches" (aK dM) (aH dM) (aA dM) .none kV doc pm an cdv ct) ⟨us,[]⟩=pure ((["bag","hands"]:List Str).zip us):=by obtain ⟨_,_,rfl,h1⟩:=bO hl;obtain ⟨_,_,rfl,h2⟩:=bO h1;cases len0 h2;rfl
theorem qW (kV doc pm:Value) (an:Option Addr) (cdv ct:Value) (us:List Value) (hl:us.length=(["one","other"]:List Str).length):bindArgs (PySem.W.fnOf "touches_meet" "touches_meet" (aK bU) (aH bU) (aA bU) .none kV doc pm an cdv ct) ⟨us,[]⟩=pure ((["one","other"]:List Str).zip us):=by obtain ⟨_,_,rfl,h1⟩:=bO hl;obtain ⟨_,_,rfl,h2⟩:=bO h1;cases len0 h2;rfl
theorem Cj (kV doc pm:Value) (an:Option Addr) (cdv ct:Value) (us:List Value) (hl:us.length=(["web","place","later"]:List Str).length):bindArgs (PySem.W.fnOf "is_step" "is_step" (aK d_) (aH d_) (aA d_) .none kV doc pm an cdv ct) ⟨us,[]⟩=pure ((["web","place","later"]:List Str).zip us):=by obtain ⟨_,_,rfl,h1⟩:=bO hl;obtain ⟨_,_,rfl,h2⟩:=bO h1;obtain ⟨_,_,rfl,h3⟩:=bO h2;cases len0 h3;rfl
theorem zK (kV doc pm:Value) (an:Option Addr) (cdv ct:Value) (us:List Value) (hl:us.length=(["name","known"]:List Str).length):bindArgs (PySem.W.fnOf "is_known" "is_known" (aK dI) (aH dI) (aA dI) .none kV doc pm an cdv ct) ⟨us,[]⟩=pure ((["name","known"]:List Str).zip us):=by obtain ⟨_,_,rfl,h1⟩:=bO hl;obtain ⟨_,_,rfl,h2⟩:=bO h1;cases len0 h2;rfl
theorem JX (kV doc pm:Value) (an:Option Addr) (cdv ct:Value) (us:List Value) (hl:us.length=(["known","more"]:List Str).length):bindArgs (PySem.W.fnOf "learn" "learn" (aK iy) (aH iy) (aA iy) .none kV doc pm an cdv ct) ⟨us,[]⟩=pure ((["known","more"]:List Str).zip us):=by obtain ⟨_,_,rfl,h1⟩:=bO hl;obtain ⟨_,_,rfl,h2⟩:=bO h1;cases len0 h2;rfl
theorem uZ (kV doc pm:Value) (an:Option Addr) (cdv ct:Value) (us:List Value) (hl:us.length=(["web","named","knowns","place"]:List Str).length):bindArgs (PySem.W.fnOf "bare_steps" "bare_steps" (aK cN) (aH cN) (aA cN) .none kV doc pm an cdv ct) ⟨us,[]⟩=pure ((["web","named","knowns","place"]:List Str).zip us):=by obtain ⟨_,_,rfl,h1⟩:=bO hl;obtain ⟨_,_,rfl,h2⟩:=bO h1;obtain ⟨_,_,rfl,h3⟩:=bO h2;obtain ⟨_,_,rfl,h4⟩:=bO h3;cases len0 h4;rfl
theorem zH (kV doc pm:Value) (an:Option Addr) (cdv ct:Value) (us:List Value) (hl:us.length=(["named","bare","name"]:List Str).length):bindArgs (PySem.W.fnOf "notes_to" "notes_to" (aK dG) (aH dG) (aA dG) .none kV doc pm an cdv ct) ⟨us,[]⟩=pure ((["named","bare","name"]:List Str).zip us):=by obtain ⟨_,_,rfl,h1⟩:=bO hl;obtain ⟨_,_,rfl,h2⟩:=bO h1;obtain ⟨_,_,rfl,h3⟩:=bO h2;cases len0 h3;rfl
theorem Gp (kV doc pm:Value) (an:Option Addr) (cdv ct:Value) (us:List Value) (hl:us.length=(["touches","hands"]:List Str).length):bindArgs (PySem.W.fnOf "_law_table" "_law_table" (aK fU) (aH fU) (aA fU) .none kV doc pm an cdv ct) ⟨us,[]⟩=pure ((["touches","hands"]:List Str).zip us):=by obtain ⟨_,_,rfl,h1⟩:=bO hl;obtain ⟨_,_,rfl,h2⟩:=bO h1;cases len0 h2;rfl
theorem zJ (kV doc pm:Value) (an:Option Addr) (cdv ct:Value) (us:List Value) (hl:us.length=(["value"]:List Str).length):bindArgs (PySem.W.fnOf "is_whole" "is_whole" (aK dH) (aH dH) (aA dH) .none kV doc pm an cdv ct) ⟨us,[]⟩=pure ((["value"]:List Str).zip us):=by obtain ⟨_,_,rfl,h1⟩:=bO hl;cases len0 h1;rfl
theorem zL (kV doc pm:Value) (an:Option Addr) (cdv ct:Value) (us:List Value) (hl:us.length=(["value","count"]:List Str).length):bindArgs (PySem.W.fnOf "is_below" "is_below" (aK dJ) (aH dJ) (aA dJ) .none kV doc pm an cdv ct) ⟨us,[]⟩=pure ((["value","count"]:List Str).zip us):=by obtain ⟨_,_,rfl,h1⟩:=bO hl;obtain ⟨_,_,rfl,h2⟩:=bO h1;cases len0 h2;rfl
theorem uY (kV doc pm:Value) (an:Option Addr) (cdv ct:Value) (us:List Value) (hl:us.length=(["places","hand"]:List Str).length):bindArgs (PySem.W.fnOf "check_hand" "check_hand" (aK cM) (aH cM) (aA cM) .none kV doc pm an cdv ct) ⟨us,[]⟩=pure ((["places","hand"]:List Str).zip us):=by obtain ⟨_,_,rfl,h1⟩:=bO hl;obtain ⟨_,_,rfl,h2⟩:=bO h1;cases len0 h2;rfl
theorem ql (kV doc pm:Value) (an:Option Addr) (cdv ct:Value) (us:List Value) (hl:us.length=(["self","hands"]:List Str).length):bindArgs (PySem.W.fnOf "__init__" "Recorder.__init__" (aK bN) (aH bN) (aA bN) .none kV doc pm an cdv ct) ⟨us,[]⟩=pure ((["self","hands"]:List Str).zip us):=by obtain ⟨_,_,rfl,h1⟩:=bO hl;obtain ⟨_,_,rfl,h2⟩:=bO h1;cases len0 h2;rfl
theorem qX (kV doc pm:Value) (an:Option Addr) (cdv ct:Value) (us:List Value) (hl:us.length=(["self","hand","kind","cell"]:List Str).length):bindArgs (PySem.W.fnOf "did" "Recorder.did" (aK bV) (aH bV) (aA bV) .none kV doc pm an cdv ct) ⟨us,[]⟩=pure ((["self","hand","kind","cell"]:List Str).zip us):=by obtain ⟨_,_,rfl,h1⟩:=bO hl;obtain ⟨_,_,rfl,h2⟩:=bO h1;obtain ⟨_,_,rfl,h3⟩:=bO h2;obtain ⟨_,_,rfl,h4⟩:=bO h3;cases len0 h4;rfl
theorem oZ (kV doc pm:Value) (an:Option Addr) (cdv ct:Value) (us:List Value) (hl:us.length=(["self"]:List Str).length):bindArgs (PySem.W.fnOf "notes" "Recorder.notes" (aK bI) (aH bI) (aA bI) .none kV doc pm an cdv ct) ⟨us,[]⟩=pure ((["self"]:List Str).zip us):=by obtain ⟨_,_,rfl,h1⟩:=bO hl;cases len0 h1;rfl
theorem o7 (kV doc pm:Value) (an:Option Addr) (cdv ct:Value) (us:List Value) (hl:us.length=(["self","hand"]:List Str).length):bindArgs (PySem.W.fnOf "known" "Recorder.known" (aK bJ) (aH bJ) (aA bJ) .none kV doc pm an cdv ct) ⟨us,[]⟩=pure ((["self","hand"]:List Str).zip us):=by obtain ⟨_,_,rfl,h1⟩:=bO hl;obtain ⟨_,_,rfl,h2⟩:=bO h1;cases len0 h2;rfl
theorem nF (kV doc pm:Value) (an:Option Addr) (cdv ct:Value) (us:List Value) (hl:us.length=(["self"]:List Str).length):bindArgs (PySem.W.fnOf "counts" "Recorder.counts" (aK bD) (aH bD) (aA bD) .none kV doc pm an cdv ct) ⟨us,[]⟩=pure ((["self"]:List Str).zip us):=by obtain ⟨_,_,rfl,h1⟩:=bO hl;cases len0 h1;rfl
theorem mR (kV doc pm:Value) (an:Option Addr) (cdv ct:Value) (us:List Value) (hl:us.length=(["self"]:List Str).length):bindArgs (PySem.W.fnOf "__len__" "Recorder.__len__" (aK bw) (aH bw) (aA bw) .none kV doc pm an cdv ct) ⟨us,[]⟩=pure ((["self"]:List Str).zip us):=by obtain ⟨_,_,rfl,h1⟩:=bO hl;cases len0 h1;rfl
theorem uX (kV doc pm:Value) (an:Option Addr) (cdv ct:Value) (us:List Value) (hl:us.length=(["touch"]:List Str).length):bindArgs (PySem.W.fnOf "touch_text" "touch_text" (aK cL) (aH cL) (aA cL) .none kV doc pm an cdv ct) ⟨us,[]⟩=pure ((["touch"]:List Str).zip us):=by obtain ⟨_,_,rfl,h1⟩:=bO hl;cases len0 h1;rfl
theorem w5 (kV doc pm:Value) (an:Option Addr) (cdv ct:Value) (us:List Value) (hl:us.length=(["note"]:List Str).length):bindArgs (PySem.W.fnOf "note_text" "note_text" (aK cX) (aH cX) (aA cX) .none kV doc pm an cdv ct) ⟨us,[]⟩=pure ((["note"]:List Str).zip us):=by obtain ⟨_,_,rfl,h1⟩:=bO hl;cases len0 h1;rfl
theorem ur (kV doc pm:Value) (an:Option Addr) (cdv ct:Value) (us:List Value) (hl:us.length=(["record"]:List Str).length):bindArgs (PySem.W.fnOf "record_text" "record_text" (aK cu) (aH cu) (aA cu) .none kV doc pm an cdv ct) ⟨us,[]⟩=pure ((["record"]:List Str).zip us):=by obtain ⟨_,_,rfl,h1⟩:=bO hl;cases len0 h1;rfl
theorem mQ (kV doc pm:Value) (an:Option Addr) (cdv ct:Value) (us:List Value) (hl:us.length=(["self"]:List Str).length):bindArgs (PySem.W.fnOf "__str__" "Recorder.__str__" (aK bh) (aH bh) (aA bh) .none kV doc pm an cdv ct) ⟨us,[]⟩=pure ((["self"]:List Str).zip us):=by obtain ⟨_,_,rfl,h1⟩:=bO hl;cases len0 h1;rfl
theorem iK (kV doc pm:Value) (an:Option Addr) (cdv ct:Value) (us:List Value) (hl:us.length=(["found","due"]:List Str).length):bindArgs (PySem.W.fnOf "_law_alike" "_law_alike" (aK eU) (aH eU) (aA eU) .none kV doc pm an cdv ct) ⟨us,[]⟩=pure ((["found","due"]:List Str).zip us):=by obtain ⟨_,_,rfl,h1⟩:=bO hl;obtain ⟨_,_,rfl,h2⟩:=bO h1;cases len0 h2;rfl
theorem J1 (kV doc pm:Value) (an:Option Addr) (cdv ct:Value) (us:List Value) (hl:us.length=(["lists"]:List Str).length):bindArgs (PySem.W.fnOf "_law_flat" "_law_flat" (aK iC) (aH iC) (aA iC) .none kV doc pm an cdv ct) ⟨us,[]⟩=pure ((["lists"]:List Str).zip us):=by obtain ⟨_,_,rfl,h1⟩:=bO hl;cases len0 h1;rfl
theorem Nj (kV doc pm:Value) (an:Option Addr) (cdv ct:Value) (us:List Value) (hl:us.length=(["touches","table","hands","done"]:List Str).length):bindArgs (PySem.W.fnOf "_law_due" "_law_due" (aK jL) (aH jL) (aA jL) .none kV doc pm an cdv ct) ⟨us,[]⟩=pure ((["touches","table","hands","done"]:List Str).zip us):=by obtain ⟨_,_,rfl,h1⟩:=bO hl;obtain ⟨_,_,rfl,h2⟩:=bO h1;obtain ⟨_,_,rfl,h3⟩:=bO h2;obtain ⟨_,_,rfl,h4⟩:=bO h3;cases len0 h4;rfl
theorem JZ (kV doc pm:Value) (an:Option Addr) (cdv ct:Value) (us:List Value) (hl:us.length=(["due"]:List Str).length):bindArgs (PySem.W.fnOf "_law_text" "_law_text" (aK iz) (aH iz) (aA iz) .none kV doc pm an cdv ct) ⟨us,[]⟩=pure ((["due"]:List Str).zip us):=by obtain ⟨_,_,rfl,h1⟩:=bO hl;cases len0 h1;rfl
theorem Gr (kV doc pm:Value) (an:Option Addr) (cdv ct:Value) (us:List Value) (hl:us.length=(["recorder","due","kind","hand","held"]:List Str).length):bindArgs (PySem.W.fnOf "_law_asked" "_law_asked" (aK fW) (aH fW) (aA fW) .none kV doc pm an cdv ct) ⟨us,[]⟩=pure ((["recorder","due","kind","hand","held"]:List Str).zip us):=by obtain ⟨_,_,rfl,h1⟩:=bO hl;obtain ⟨_,_,rfl,h2⟩:=bO h1;obtain ⟨_,_,rfl,h3⟩:=bO h2;obtain ⟨_,_,rfl,h4⟩:=bO h3;obtain ⟨_,_,rfl,h5⟩:=bO h4;cases len0 h5;rfl
theorem all_mk {l:PySem.W.OpenLaw} {w:World} {K:PySem.W.Frag} {h:Heap} {mg:Str->Option Value} {fa f0 f1 f2 f3 f4 f5 f6 f7 f8 f9 Wy f11 Ww Wv Wu Wt Ud Uc Ub Ua T_ T8 Ws Wr Wq T6 M6 Wo Wn Wm Wk f31 ak:Addr} (X:K.In h) (G:h.Ns mainGlobals mg) (hfa:mg "law" = some (.ref fa))
 {od0 an0 od1 an1 od2 an2 od3 an3 od4 an4 od5 an5 od6 an6 od7 an7 od8 an8 od9 an9 YZ acp YX aco YW acn YT acj YS aci YQ ach YM acg YL acf YK ace YJ acd YH ab' YG ab_ YF ab9 YD ab8 YC ab7 YB ab6 Yz ab5 Yy ab4 Yx ab3 Yw ab2 Yv ab1 Yu Va:Option Addr} {sl0 sl1 sl2 sl3 sl4 sl5 sl6 sl7 sl8 sl9 XC Xz Xy Xx Xw Xv Xu Xr Xq Xp Xo Xn Xm Xl Xk Xj Xi Xh Xg Xf Xe Xd:Array (Option Value)} {oc0 kV0 dc0 pm0 cd0 ct0 oc1 kV1 dc1 pm1 cd1 ct1 oc2 kV2 dc2 pm2 cd2 ct2 oc3 kV3 dc3 pm3 cd3 ct3 oc4 kV4 dc4 pm4 cd4 ct4 oc5 kV5 dc5 pm5 cd5 ct5 oc6 kV6 dc6 pm6 cd6 ct6 oc7 kV7 dc7 pm7 cd7 ct7 oc8 kV8 dc8 pm8 cd8 ct8 oc9 kV9 dc9 pm9 cd9 ct9 Zo aax abj Yp U9 abF Zn aaw abh Yo U8 abE Zm aav abg Yn U7 abD Zk aau abf Ym U6 abC Zj aat abe Yl U5 abB Zi aas abd Yk U4 abA Zh aar abb Yj U3 abz Zg aaq aa' Yi U0 aby Zf aap aa_ Yh UW abx Ze aao aa9 Yg UL abw Zd aan aa8 Ye UJ abv Zc aam aa7 Yd UG abu Zb aal aa6 Yc Uz abt Za aak aa5 Yb Uy abr Y_ aaj aa4 X_ Ux abq Y9 aai aa3 X8 Uw abp Y8 aah aa2 X7 Uv abo Y7 aag aa1 X6 Uu abn Y6 aaf aa0 X5 Ut abm Y5 aae aaZ X4 Us abl Y4 aad aaY X3 Ur abk Y0 Tp Ul SM Q9 Uq:Value}
 (a0:PySem.W.nsIn K mainGlobals "_law_bag" = some (some (.ref f0))) (l0:K.lookup f0=some ⟨oc0,od0,.func (PySem.W.fnOf "_law_bag" "_law_bag" (aK jM) (aH jM) (aA jM) .none kV0 dc0 pm0 an0 cd0 ct0),sl0⟩) (c0:PySem.W.codeIn K cd0 "_law_bag" = true) (k0:PySem.W.keepIn K (.ref f0)=true)
 (a1:PySem.W.nsIn K mainGlobals "_law_stir" = some (some (.ref f1))) (l1:K.lookup f1=some ⟨oc1,od1,.func (PySem.W.fnOf "_law_stir" "_law_stir" (aK iB) (aH iB) (aA iB) .none kV1 dc1 pm1 an1 cd1 ct1),sl1⟩) (c1:PySem.W.codeIn K cd1 "_law_stir" = true) (k1:PySem.W.keepIn K (.ref f1)=true)
 (a2:PySem.W.nsIn K mainGlobals "_law_draw" = some (some (.ref f2))) (l2:K.lookup f2=some ⟨oc2,od2,.func (PySem.W.fnOf "_law_draw" "_law_draw" (aK iD) (aH iD) (aA iD) .none kV2 dc2 pm2 an2 cd2 ct2),sl2⟩) (c2:PySem.W.codeIn K cd2 "_law_draw" = true) (k2:PySem.W.keepIn K (.ref f2)=true)
 (a3:PySem.W.nsIn K mainGlobals "_law_hands" = some (some (.ref f3))) (l3:K.lookup f3=some ⟨oc3,od3,.func (PySem.W.fnOf "_law_hands" "_law_hands" (aK fV) (aH fV) (aA fV) .none kV3 dc3 pm3 an3 cd3 ct3),sl3⟩) (c3:PySem.W.codeIn K cd3 "_law_hands" = true) (k3:PySem.W.keepIn K (.ref f3)=true)
 (a4:PySem.W.nsIn K mainGlobals "_law_touch" = some (some (.ref f4))) (l4:K.lookup f4=some ⟨oc4,od4,.func (PySem.W.fnOf "_law_touch" "_law_touch" (aK fQ) (aH fQ) (aA fQ) .none kV4 dc4 pm4 an4 cd4 ct4),sl4⟩) (c4:PySem.W.codeIn K cd4 "_law_touch" = true) (k4:PySem.W.keepIn K (.ref f4)=true)
 (a5:PySem.W.nsIn K mainGlobals "_law_touches" = some (some (.ref f5))) (l5:K.lookup f5=some ⟨oc5,od5,.func (PySem.W.fnOf "_law_touches" "_law_touches" (aK dM) (aH dM) (aA dM) .none kV5 dc5 pm5 an5 cd5 ct5),sl5⟩) (c5:PySem.W.codeIn K cd5 "_law_touches" = true) (k5:PySem.W.keepIn K (.ref f5)=true)
 (a6:PySem.W.nsIn K mainGlobals "touches_meet" = some (some (.ref f6))) (l6:K.lookup f6=some ⟨oc6,od6,.func (PySem.W.fnOf "touches_meet" "touches_meet" (aK bU) (aH bU) (aA bU) .none kV6 dc6 pm6 an6 cd6 ct6),sl6⟩) (c6:PySem.W.codeIn K cd6 "touches_meet" = true) (k6:PySem.W.keepIn K (.ref f6)=true)
 (a7:PySem.W.nsIn K mainGlobals "is_step" = some (some (.ref f7))) (l7:K.lookup f7=some ⟨oc7,od7,.func (PySem.W.fnOf "is_step" "is_step" (aK d_) (aH d_) (aA d_) .none kV7 dc7 pm7 an7 cd7 ct7),sl7⟩) (c7:PySem.W.codeIn K cd7 "is_step" = true) (k7:PySem.W.keepIn K (.ref f7)=true)
 (a8:PySem.W.nsIn K mainGlobals "is_known" = some (some (.ref f8))) (l8:K.lookup f8=some ⟨oc8,od8,.func (PySem.W.fnOf "is_known" "is_known" (aK dI) (aH dI) (aA dI) .none kV8 dc8 pm8 an8 cd8 ct8),sl8⟩) (c8:PySem.W.codeIn K cd8 "is_known" = true) (k8:PySem.W.keepIn K (.ref f8)=true)
 (a9:PySem.W.nsIn K mainGlobals "learn" = some (some (.ref f9))) (l9:K.lookup f9=some ⟨oc9,od9,.func (PySem.W.fnOf "learn" "learn" (aK iy) (aH iy) (aA iy) .none kV9 dc9 pm9 an9 cd9 ct9),sl9⟩) (c9:PySem.W.codeIn K cd9 "learn" = true) (k9:PySem.W.keepIn K (.ref f9)=true)
 (a10:PySem.W.nsIn K mainGlobals "bare_steps" = some (some (.ref Wy))) (l10:K.lookup Wy=some ⟨Zo,YZ,.func (PySem.W.fnOf "bare_steps" "bare_steps" (aK cN) (aH cN) (aA cN) .none aax abj Yp acp U9 abF),XC⟩) (c10:PySem.W.codeIn K U9 "bare_steps" = true) (k10:PySem.W.keepIn K (.ref Wy)=true)
 (a11:PySem.W.nsIn K mainGlobals "notes_to" = some (some (.ref f11))) (Z8:K.lookup f11=some ⟨Zn,YX,.func (PySem.W.fnOf "notes_to" "notes_to" (aK dG) (aH dG) (aA dG) .none aaw abh Yo aco U8 abE),Xz⟩) (c11:PySem.W.codeIn K U8 "notes_to" = true) (k11:PySem.W.keepIn K (.ref f11)=true)
 (a12:PySem.W.nsIn K mainGlobals "_law_table" = some (some (.ref Ww))) (Z7:K.lookup Ww=some ⟨Zm,YW,.func (PySem.W.fnOf "_law_table" "_law_table" (aK fU) (aH fU) (aA fU) .none aav abg Yn acn U7 abD),Xy⟩) (c12:PySem.W.codeIn K U7 "_law_table" = true) (k12:PySem.W.keepIn K (.ref Ww)=true)
 (a13:PySem.W.nsIn K mainGlobals "is_whole" = some (some (.ref Wv))) (Z6:K.lookup Wv=some ⟨Zk,YT,.func (PySem.W.fnOf "is_whole" "is_whole" (aK dH) (aH dH) (aA dH) .none aau abf Ym acj U6 abC),Xx⟩) (c13:PySem.W.codeIn K U6 "is_whole" = true) (k13:PySem.W.keepIn K (.ref Wv)=true)
 (a14:PySem.W.nsIn K mainGlobals "is_below" = some (some (.ref Wu))) (Z5:K.lookup Wu=some ⟨Zj,YS,.func (PySem.W.fnOf "is_below" "is_below" (aK dJ) (aH dJ) (aA dJ) .none aat abe Yl aci U5 abB),Xw⟩) (c14:PySem.W.codeIn K U5 "is_below" = true) (k14:PySem.W.keepIn K (.ref Wu)=true)
 (a15:PySem.W.nsIn K mainGlobals "check_hand" = some (some (.ref Wt))) (Z4:K.lookup Wt=some ⟨Zi,YQ,.func (PySem.W.fnOf "check_hand" "check_hand" (aK cM) (aH cM) (aA cM) .none aas abd Yk ach U4 abA),Xv⟩) (c15:PySem.W.codeIn K U4 "check_hand" = true) (Wb:PySem.W.keepIn K (.ref Wt)=true)
 (a16:PySem.W.findIn K (.ref ak) "__init__" = some (some (.ref Ud))) (Z2:K.lookup Ud=some ⟨Zh,YM,.func (PySem.W.fnOf "__init__" "Recorder.__init__" (aK bN) (aH bN) (aA bN) .none aar abb Yj acg U3 abz),Xu⟩) (c16:PySem.W.codeIn K U3 "Recorder.__init__" = true) (k16:PySem.W.keepIn K (.ref Ud)=true) (n16:PySem.W.isFn K (.ref Ud)=true)
 (a17:PySem.W.findIn K (.ref ak) "did" = some (some (.ref Uc))) (Z1:K.lookup Uc=some ⟨Zg,YL,.func (PySem.W.fnOf "did" "Recorder.did" (aK bV) (aH bV) (aA bV) .none aaq aa' Yi acf U0 aby),Xr⟩) (c17:PySem.W.codeIn K U0 "Recorder.did" = true) (Wa:PySem.W.keepIn K (.ref Uc)=true) (n17:PySem.W.isFn K (.ref Uc)=true)
 (a18:PySem.W.findIn K (.ref ak) "notes" = some (some (.ref Ub))) (Z0:K.lookup Ub=some ⟨Zf,YK,.func (PySem.W.fnOf "notes" "Recorder.notes" (aK bI) (aH bI) (aA bI) .none aap aa_ Yh ace UW abx),Xq⟩) (c18:PySem.W.codeIn K UW "Recorder.notes" = true) (V_:PySem.W.keepIn K (.ref Ub)=true) (n18:PySem.W.isFn K (.ref Ub)=true)
 (a19:PySem.W.findIn K (.ref ak) "known" = some (some (.ref Ua))) (ZX:K.lookup Ua=some ⟨Ze,YJ,.func (PySem.W.fnOf "known" "Recorder.known" (aK bJ) (aH bJ) (aA bJ) .none aao aa9 Yg acd UL abw),Xp⟩) (c19:PySem.W.codeIn K UL "Recorder.known" = true) (V9:PySem.W.keepIn K (.ref Ua)=true) (n19:PySem.W.isFn K (.ref Ua)=true)
 (a20:PySem.W.findIn K (.ref ak) "counts" = some (some (.ref T_))) (ZW:K.lookup T_=some ⟨Zd,YH,.func (PySem.W.fnOf "counts" "Recorder.counts" (aK bD) (aH bD) (aA bD) .none aan aa8 Ye ab' UJ abv),Xo⟩) (c20:PySem.W.codeIn K UJ "Recorder.counts" = true) (V8:PySem.W.keepIn K (.ref T_)=true) (n20:PySem.W.isFn K (.ref T_)=true)
 (a21:PySem.W.findIn K (.ref ak) "__len__" = some (some (.ref T8))) (ZV:K.lookup T8=some ⟨Zc,YG,.func (PySem.W.fnOf "__len__" "Recorder.__len__" (aK bw) (aH bw) (aA bw) .none aam aa7 Yd ab_ UG abu),Xn⟩) (c21:PySem.W.codeIn K UG "Recorder.__len__" = true) (V7:PySem.W.keepIn K (.ref T8)=true) (n21:PySem.W.isFn K (.ref T8)=true)
 (a22:PySem.W.nsIn K mainGlobals "touch_text" = some (some (.ref Ws))) (ZS:K.lookup Ws=some ⟨Zb,YF,.func (PySem.W.fnOf "touch_text" "touch_text" (aK cL) (aH cL) (aA cL) .none aal aa6 Yc ab9 Uz abt),Xm⟩) (c22:PySem.W.codeIn K Uz "touch_text" = true) (V6:PySem.W.keepIn K (.ref Ws)=true)
 (a23:PySem.W.nsIn K mainGlobals "note_text" = some (some (.ref Wr))) (ZR:K.lookup Wr=some ⟨Za,YD,.func (PySem.W.fnOf "note_text" "note_text" (aK cX) (aH cX) (aA cX) .none aak aa5 Yb ab8 Uy abr),Xl⟩) (c23:PySem.W.codeIn K Uy "note_text" = true) (V5:PySem.W.keepIn K (.ref Wr)=true)
 (a24:PySem.W.nsIn K mainGlobals "record_text" = some (some (.ref Wq))) (ZQ:K.lookup Wq=some ⟨Y_,YC,.func (PySem.W.fnOf "record_text" "record_text" (aK cu) (aH cu) (aA cu) .none aaj aa4 X_ ab7 Ux abq),Xk⟩) (c24:PySem.W.codeIn K Ux "record_text" = true) (V4:PySem.W.keepIn K (.ref Wq)=true)
 (a25:PySem.W.findIn K (.ref ak) "__str__" = some (some (.ref T6))) (ZP:K.lookup T6=some ⟨Y9,YB,.func (PySem.W.fnOf "__str__" "Recorder.__str__" (aK bh) (aH bh) (aA bh) .none aai aa3 X8 ab6 Uw abp),Xj⟩) (c25:PySem.W.codeIn K Uw "Recorder.__str__" = true) (V3:PySem.W.keepIn K (.ref T6)=true) (n25:PySem.W.isFn K (.ref T6)=true)
 (a26:PySem.W.nsIn K mainGlobals "_law_alike" = some (some (.ref M6))) (ZM:K.lookup M6=some ⟨Y8,Yz,.func (PySem.W.fnOf "_law_alike" "_law_alike" (aK eU) (aH eU) (aA eU) .none aah aa2 X7 ab5 Uv abo),Xi⟩) (c26:PySem.W.codeIn K Uv "_law_alike" = true) (MF:PySem.W.keepIn K (.ref M6)=true)
 (a27:PySem.W.nsIn K mainGlobals "_law_flat" = some (some (.ref Wo))) (ZL:K.lookup Wo=some ⟨Y7,Yy,.func (PySem.W.fnOf "_law_flat" "_law_flat" (aK iC) (aH iC) (aA iC) .none aag aa1 X6 ab4 Uu abn),Xh⟩) (c27:PySem.W.codeIn K Uu "_law_flat" = true) (V2:PySem.W.keepIn K (.ref Wo)=true)
 (a28:PySem.W.nsIn K mainGlobals "_law_due" = some (some (.ref Wn))) (ZK:K.lookup Wn=some ⟨Y6,Yx,.func (PySem.W.fnOf "_law_due" "_law_due" (aK jL) (aH jL) (aA jL) .none aaf aa0 X5 ab3 Ut abm),Xg⟩) (c28:PySem.W.codeIn K Ut "_law_due" = true) (V1:PySem.W.keepIn K (.ref Wn)=true)
 (a29:PySem.W.nsIn K mainGlobals "_law_text" = some (some (.ref Wm))) (ZJ:K.lookup Wm=some ⟨Y5,Yw,.func (PySem.W.fnOf "_law_text" "_law_text" (aK iz) (aH iz) (aA iz) .none aae aaZ X4 ab2 Us abl),Xf⟩) (c29:PySem.W.codeIn K Us "_law_text" = true) (V0:PySem.W.keepIn K (.ref Wm)=true)
 (a30:PySem.W.nsIn K mainGlobals "_law_asked" = some (some (.ref Wk))) (ZG:K.lookup Wk=some ⟨Y4,Yv,.func (PySem.W.fnOf "_law_asked" "_law_asked" (aK fW) (aH fW) (aA fW) .none aad aaY X3 ab1 Ur abk),Xe⟩) (c30:PySem.W.codeIn K Ur "_law_asked" = true) (VR:PySem.W.keepIn K (.ref Wk)=true)
 (a31:PySem.W.nsIn K mainGlobals "law" = some (some (.ref f31))) (ZF:K.lookup f31=some ⟨Y0,Yu,.func (PySem.W.fnOf "law" "law" (aK oG) (aH oG) (aA oG) .none Tp Ul SM Va Q9 Uq),Xd⟩) (c31:PySem.W.codeIn K Q9 "law" = true) (k31:PySem.W.keepIn K (.ref f31)=true)
 (j9:PySem.W.nsIn K mainGlobals "Recorder" = some (some (.ref ak)))
 (jD:PySem.W.plainGet K ak Str.empty=true)
 (jG:PySem.W.hasDictIn K ak=true)
 (jC:PySem.W.plainOver K ak=true)
 (jB:PySem.W.findIn K (.ref ak) "__setattr__" = some (some (.builtin "object.__setattr__")))
 (jE:PySem.W.makesIn K ak=true)
 (jF:PySem.W.keepIn K (.ref ak)=true)
 (gZ:PySem.W.findIn K (.ref ak) "web" = some none)
 (fO:PySem.W.findIn K (.ref ak) "named" = some none)
 (fu:PySem.W.findIn K (.ref ak) "knowns" = some none)
 (fM:PySem.W.findIn K (.ref ak) "taken" = some none)
 (fj:PySem.W.findIn K (.ref ak) "places" = some none)
 {uW:Tok} (jR:PySem.W.nsIn K mainGlobals "MOST_HANDS" = some (some (.int 8 uW)))
 (jJ:PySem.W.nsIn K mainGlobals "ValueError" = some none) (GZ:PySem.W.nsIn K mainGlobals "all" = some none) (zZ:PySem.W.nsIn K mainGlobals "bool" = some none) (j_:PySem.W.nsIn K mainGlobals "enumerate" = some none) (GX:PySem.W.nsIn K mainGlobals "int" = some none) (jH:PySem.W.nsIn K mainGlobals "isinstance" = some none) (GR:PySem.W.nsIn K mainGlobals "len" = some none) (zY:PySem.W.nsIn K mainGlobals "list" = some none) (GQ:PySem.W.nsIn K mainGlobals "max" = some none) (GP:PySem.W.nsIn K mainGlobals "min" = some none) (vO:PySem.W.nsIn K mainGlobals "range" = some none) (rP:PySem.W.nsIn K mainGlobals "sorted" = some none) (GK:PySem.W.nsIn K mainGlobals "str" = some none) (GJ:PySem.W.nsIn K mainGlobals "sum" = some none) (vN:PySem.W.nsIn K mainGlobals "tuple" = some none) (GF:PySem.W.nsIn K mainGlobals "zip" = some none):
 ∃fd:FuncData,(∀(s:Shared) (v:Value),BindsTo s fd ⟨[v],[]⟩ [("script",v)]) /\ ∀base:Heap,K.In base->base.Ns mainGlobals mg->cJ l.prog w K mg base jf 8 fa fd ["script"] (CZ K):=by
 have e:=hfa.symm.trans (PySem.W.mg_of X G a31);cases e;have Bt:qL mg:=⟨PySem.W.mg_none_of X G jJ,PySem.W.mg_none_of X G GZ,PySem.W.mg_none_of X G zZ,PySem.W.mg_none_of X G j_,PySem.W.mg_none_of X G GX,PySem.W.mg_none_of X G jH,PySem.W.mg_none_of X G GR,PySem.W.mg_none_of X G zY,PySem.W.mg_none_of X G GQ,PySem.W.mg_none_of X G GP,PySem.W.mg_none_of X G vO,PySem.W.mg_none_of X G rP,PySem.W.mg_none_of X G GK,PySem.W.mg_none_of X G GJ,PySem.W.mg_none_of X G vN,PySem.W.mg_none_of X G GF⟩;have aB:cR K ak:=⟨⟨jD,jG,jC,jB⟩,gZ,fO,fu,fM,fj⟩;have iH:Gv mg "MOST_HANDS" (.int 8):=⟨_,PySem.W.mg_of X G jR,⟨_,rfl⟩⟩;have F0:=bM (st:=jM) l0 c0 k0;have F1:=bM (st:=iB) l1 c1 k1;have F2:=bM (st:=iD) l2 c2 k2;have F3:=bM (st:=fV) l3 c3 k3;have F4:=bM (st:=fQ) l4 c4 k4;have F5:=bM (st:=dM) l5 c5 k5;have F6:=bM (st:=bU) l6 c6 k6;have F7:=bM (st:=d_) l7 c7 k7;have F8:=bM (st:=dI) l8 c8 k8;have F9:=bM (st:=iy) l9 c9 k9;have F10:=bM (st:=cN) l10 c10 k10;have F11:=bM (st:=dG) Z8 c11 k11;have F12:=bM (st:=fU) Z7 c12 k12;have F13:=bM (st:=dH) Z6 c13 k13;have F14:=bM (st:=dJ) Z5 c14 k14;have F15:=bM (st:=cM) Z4 c15 Wb;have F16:=bM (st:=bN) Z2 c16 k16;have F17:=bM (st:=bV) Z1 c17 Wa;have F18:=bM (st:=bI) Z0 c18 V_;have F19:=bM (st:=bJ) ZX c19 V9;have F20:=bM (st:=bD) ZW c20 V8;have F21:=bM (st:=bw) ZV c21 V7;have F22:=bM (st:=cL) ZS c22 V6;have F23:=bM (st:=cX) ZR c23 V5;have F24:=bM (st:=cu) ZQ c24 V4;have F25:=bM (st:=bh) ZP c25 V3;have F26:=bM (st:=eU) ZM c26 MF;have F27:=bM (st:=iC) ZL c27 V2;have F28:=bM (st:=jL) ZK c28 V1;have F29:=bM (st:=iz) ZJ c29 V0;have F30:=bM (st:=fW) ZG c30 VR;have F31:=bM (st:=oG) ZF c31 k31;refine ⟨PySem.W.fnOf "law" "law" (aK oG) (aH oG) (aA oG) .none Tp Ul SM Va Q9 Uq,fun s v=> .of_eq rfl,fun base _ _=> ?_⟩;have A0:FnAt l.prog w K mg base 1 "_law_bag" ["script"] (Hr K):=⟨f0,_,Qi F0 Bt,PySem.W.mg_of X G a0,k0,F0.binds (ps:=["script"]) Nk⟩;have A1:FnAt l.prog w K mg base 1 "_law_stir" ["number","place"] (Ag K):=⟨f1,_,LQ F1,PySem.W.mg_of X G a1,k1,F1.binds (ps:=["number","place"]) J0⟩;have A2:FnAt l.prog w K mg base 2 "_law_draw" ["bag","many"] (pJ K):=⟨f2,_,Mf F2 A1 Bt,PySem.W.mg_of X G a2,k2,F2.binds (ps:=["bag","many"]) J2⟩;have A3:FnAt l.prog w K mg base 3 "_law_hands" ["bag"] (vY K):=⟨f3,_,Iz F3 A2,PySem.W.mg_of X G a3,k3,F3.binds (ps:=["bag"]) Gq⟩;have A4:FnAt l.prog w K mg base 3 "_law_touch" ["bag","hands","cells","loads","apart"] (vR K):=⟨f4,_,Ip F4 A2 Bt,PySem.W.mg_of X G a4,k4,F4.binds (ps:=["bag","hands","cells","loads","apart"]) Gn⟩;have A5:FnAt l.prog w K mg base 4 "_law_touches" ["bag","hands"] (pG K):=⟨f5,_,Bf F5 A2 A4 Bt,PySem.W.mg_of X G a5,k5,F5.binds (ps:=["bag","hands"]) zM⟩;have A6:FnAt l.prog w K mg base 1 "touches_meet" ["one","other"] (Pk K):=⟨f6,_,qN F6,PySem.W.mg_of X G a6,k6,F6.binds (ps:=["one","other"]) qW⟩;have A7:FnAt l.prog w K mg base 2 "is_step" ["web","place","later"] (Ah K):=⟨f7,_,Bh F7 A6,PySem.W.mg_of X G a7,k7,F7.binds (ps:=["web","place","later"]) Cj⟩;have A8:FnAt l.prog w K mg base 1 "is_known" ["name","known"] (vX K):=⟨f8,_,Iw F8,PySem.W.mg_of X G a8,k8,F8.binds (ps:=["name","known"]) zK⟩;have A9:FnAt l.prog w K mg base 1 "learn" ["known","more"] (vW K):=⟨f9,_,Iv F9 Bt,PySem.W.mg_of X G a9,k9,F9.binds (ps:=["known","more"]) JX⟩;have A10:FnAt l.prog w K mg base 3 "bare_steps" ["web","named","knowns","place"] (Al K):=⟨Wy,_,Mh F10 A7 A8 A9 Bt,PySem.W.mg_of X G a10,k10,F10.binds (ps:=["web","named","knowns","place"]) uZ⟩;have A11:FnAt l.prog w K mg base 1 "notes_to" ["named","bare","name"] (pI K):=⟨f11,_,Bg F11,PySem.W.mg_of X G a11,k11,F11.binds (ps:=["named","bare","name"]) zH⟩;have A12:FnAt l.prog w K mg base 1 "_law_table" ["touches","hands"] (sE K):=⟨Ww,_,Fj F12 Bt,PySem.W.mg_of X G a12,k12,F12.binds (ps:=["touches","hands"]) Gp⟩;have A13:FnAt l.prog w K mg base 1 "is_whole" ["value"] (KH K):=⟨Wv,_,yw F13 Bt,PySem.W.mg_of X G a13,k13,F13.binds (ps:=["value"]) zJ⟩;have A14:FnAt l.prog w K mg base 2 "is_below" ["value","count"] (v7 K):=⟨Wu,_,yx F14 A13,PySem.W.mg_of X G a14,k14,F14.binds (ps:=["value","count"]) zL⟩;have A15:FnAt l.prog w K mg base 3 "check_hand" ["places","hand"] (oA K):=⟨Wt,_,Fi F15 A14 Bt,PySem.W.mg_of X G a15,Wb,F15.binds (ps:=["places","hand"]) uY⟩;have A16:Cr l.prog w K mg base 2 ak "Recorder" ["self","hands"] [] (vU ak K):=⟨Ud,_,[],Ir F16 aB A13 iH Bt,⟨jE,a16,n16,jF⟩,PySem.W.mg_of X G j9,F16.binds (ps:=["self","hands"]) ql,.nil⟩;have A17:MethAt l.prog w K mg base 4 ak "did" ["self","hand","kind","cell"] (Hq ak K):=⟨Uc,_,Qh F17 aB A15 A10 A11 Bt,⟨a17,n17,Wa⟩,F17.binds (ps:=["self","hand","kind","cell"]) qX⟩;have A18:MethAt l.prog w K mg base 1 ak "notes" ["self"] (n_ ak K):=⟨Ub,_,Fd F18 aB Bt,⟨a18,n18,V_⟩,F18.binds (ps:=["self"]) oZ⟩;have A19:MethAt l.prog w K mg base 4 ak "known" ["self","hand"] (oh ak K):=⟨Ua,_,Fe F19 aB A15 Bt,⟨a19,n19,V9⟩,F19.binds (ps:=["self","hand"]) o7⟩;have A20:MethAt l.prog w K mg base 1 ak "counts" ["self"] (ou ak K):=⟨T_,_,Fg F20 aB Bt,⟨a20,n20,V8⟩,F20.binds (ps:=["self"]) nF⟩;have A21:MethAt l.prog w K mg base 1 ak "__len__" ["self"] (Aj ak K):=⟨T8,_,L_ F21 aB Bt,⟨a21,n21,V7⟩,F21.binds (ps:=["self"]) mR⟩;have A22:FnAt l.prog w K mg base 1 "touch_text" ["touch"] (rZ K):=⟨Ws,_,E_ F22 Bt,PySem.W.mg_of X G a22,V6,F22.binds (ps:=["touch"]) uX⟩;have A23:FnAt l.prog w K mg base 2 "note_text" ["note"] (vV K):=⟨Wr,_,Iu F23 A22 Bt,PySem.W.mg_of X G a23,V5,F23.binds (ps:=["note"]) w5⟩;have A24:FnAt l.prog w K mg base 3 "record_text" ["record"] (pH K):=⟨Wq,_,tE F24 A23 Bt,PySem.W.mg_of X G a24,V4,F24.binds (ps:=["record"]) ur⟩;have A25:MethAt l.prog w K mg base 4 ak "__str__" ["self"] (Ai ak K):=⟨T6,_,LR F25 aB A24 A20 A18 Bt,⟨a25,n25,V3⟩,F25.binds (ps:=["self"]) mQ⟩;have Vh:FnAt l.prog w K mg base 1 "_law_alike" ["found","due"] (fP 0 K):=⟨M6,_,Fl F26,PySem.W.mg_of X G a26,MF,F26.binds (ps:=["found","due"]) iK⟩;have Vg:FnAt l.prog w K mg base 2 "_law_alike" ["found","due"] (fP 1 K):=⟨M6,_,jo (n:=0) F26 Vh Bt,PySem.W.mg_of X G a26,MF,F26.binds (ps:=["found","due"]) iK⟩;have Vf:FnAt l.prog w K mg base 3 "_law_alike" ["found","due"] (fP 2 K):=⟨M6,_,jo (n:=1) F26 Vg Bt,PySem.W.mg_of X G a26,MF,F26.binds (ps:=["found","due"]) iK⟩;have Ve:FnAt l.prog w K mg base 4 "_law_alike" ["found","due"] (fP 3 K):=⟨M6,_,jo (n:=2) F26 Vf Bt,PySem.W.mg_of X G a26,MF,F26.binds (ps:=["found","due"]) iK⟩;have Vd:FnAt l.prog w K mg base 5 "_law_alike" ["found","due"] (fP 4 K):=⟨M6,_,jo (n:=3) F26 Ve Bt,PySem.W.mg_of X G a26,MF,F26.binds (ps:=["found","due"]) iK⟩;have A26:FnAt l.prog w K mg base 6 "_law_alike" ["found","due"] (fP 5 K):=⟨M6,_,jo (n:=4) F26 Vd Bt,PySem.W.mg_of X G a26,MF,F26.binds (ps:=["found","due"]) iK⟩;have A27:FnAt l.prog w K mg base 1 "_law_flat" ["lists"] (Ak K):=⟨Wo,_,Ma F27 Bt,PySem.W.mg_of X G a27,V2,F27.binds (ps:=["lists"]) J1⟩;have A28:FnAt l.prog w K mg base 2 "_law_due" ["touches","table","hands","done"] (vZ K):=⟨Wn,_,IK F28 A27 Bt,PySem.W.mg_of X G a28,V1,F28.binds (ps:=["touches","table","hands","done"]) Nj⟩;have A29:FnAt l.prog w K mg base 1 "_law_text" ["due"] (su K):=⟨Wm,_,Fb F29 Bt,PySem.W.mg_of X G a29,V0,F29.binds (ps:=["due"]) JZ⟩;have A30:FnAt l.prog w K mg base 7 "_law_asked" ["recorder","due","kind","hand","held"] (v8 ak K):=⟨Wk,_,IV F30 aB A18 A20 A19 A21 A25 A29 A26 Bt,PySem.W.mg_of X G a30,VR,F30.binds (ps:=["recorder","due","kind","hand","held"]) Gr⟩;exact Qg F31 aB A0 A2 A3 A5 A12 A16 A17 A19 A26 A28 A30 Bt
theorem walk {l:PySem.W.OpenLaw} {q:Program} {loose:List Str} {XP:(Str->Option Value)->Heap->Prop} {YP:World->Heap->Prop} {d:DefRec} {K:Params->PySem.W.Frag} (hn:l.most=some 63) (hdf:d.params.defaults=[])
 (hY:∀(w:World) (h:Heap),YP w h->(K w.params).In h)
 (F:∀(w:World) (mg:Str->Option Value) (fa:Addr) (h:Heap),(K w.params).In h->h.Ns mainGlobals mg->mg d.name=some (.ref fa) ->
   ∃fd:FuncData,(∀(s:Shared) (u:Value),BindsTo s fd ⟨[u],[]⟩ [("script",u)]) /\ ∀base:Heap,(K w.params).In base->base.Ns mainGlobals mg->cJ l.prog w (K w.params) mg base jf 8 fa fd ["script"] (CZ (K w.params))):
 PySem.W.WalkO q loose XP YP l.row.toRowW d [] (fun f vs=>PySem.call f vs):=
 L2.Kv (n:=63) (k:=8) (x:= "script") (CX:=fun _=>jf) (sp:=fun w=>CZ (K w.params)) hn (by decide) hdf ⟨rfl,by decide,by decide⟩ hY F (fun _ _ a ns hl _ hS=>⟨a,ns,rfl,hS,hl,fun _=>rfl⟩) fun _ _ _ _ _ z=>z
end Prf
namespace PySem.W.Fast
def tw17042260451047508918:=()
def tw12317450075972289920:=()
def tw4824144947167647398:=()
def tw10840337749407791095:=()
def tw11804910497404055690:=()
def tw8466962217767353618:=()
def tw22539875226114908:=()
def tw15974042931493542503:=()
def tw10993693894961981119:=()
def tw5172712580476892357:=()
def tw14778973398238546594:=()
def tw11091554726490972610:=()
def tw8479737383803953922:=()
def tw10703050875336159160:=()
def tw7301739622941585504:=()
def tw1526869052203071326:=()
def tw16697787508856257946:=()
def tw13404545534352975548:=()
def tw6199945361628274953:=()
def tw2611264830591400347:=()
def tw14225273825232420792:=()
def tw8291136539244242601:=()
def tw1801073627243978817:=()
def tw4935987703204547097:=()
def tw9887443382752252084:=()
def tw11304007776049774167:=()
def tw6573230314467035806:=()
def tw14010671969708534442:=()
def tw1445373988002780256:=()
def tw13965127396937841837:=()
def tw11416957898541009546:=()
def tw11783989929097006716:=()
def tw13230352157535811613:=()
def tw9557358998033498185:=()
def tw13035943808312758824:=()
def tw15571624452767801994:=()
def tw9921281706021131467:=()
def tw9079294529268820635:=()
def tw3783777876181803410:=()
def tw6746601785544053161:=()
def tw13486056067133330660:=()
def tw1050698469262883019:=()
def tw11209186073150509512:=()
def tw14452292782867696914:=()
def tw542251789451723947:=()
def tw13901884766244723803:=()
def tw15104155917764923407:=()
def tw8383961235048774505:=()
def tw8786863446335674235:=()
def tw7213290522545770204:=()
def tw18152563049923180898:=()
def tw10211559231463966639:=()
def tw15174277808378436509:=()
def tw13960414805982888451:=()
def tw621807731935760866:=()
def tw4417380754738828795:=()
def tw8227441258870239111:=()
def tw7695582664196930046:=()
def tw16647006960829808740:=()
def tw11815972771762596580:=()
def tw11102384527321381497:=()
def tw10725092811244730090:=()
def tw13080600775034129579:=()
def tw4197005262874901844:=()
def tw17010840291305157432:=()
def tw17625920695999418833:=()
def tw2324804089221118054:=()
def tw2066488283970359981:=()
def tw33759788871965352:=()
def tw6236223758601654575:=()
def tw14537388176140418605:=()
def tw2637050366680767822:=()
def tw11048144451371794162:=()
def tw10140409616584627843:=()
def tw16625616692066258474:=()
def tw13110288024198056561:=()
def tw11154938178401414390:=()
def tw2803544597018592883:=()
def tw3656322899317684880:=()
def tw4225826691367877215:=()
def tw6237923449760054566:=()
def tw16196019573037479772:=()
def tw6179646403835141667:=()
def tw7931008027190494740:=()
def tw5901595257383505191:=()
def tw14132812127737634932:=()
def tw1527605298571378517:=()
def tw15477796125330291597:=()
def tw13989634148058228059:=()
def tw17663765691613104237:=()
def tw12280183846110192895:=()
def tw1674372096739590466:=()
def tw11006941892940545490:=()
def tw4219162031149080228:=()
def tw628602232165991692:=()
def tw12225073464080619093:=()
def tw6994179957299658259:=()
def tw2517091336746266385:=()
def tw4182405372754355806:=()
def tw7868972157196710576:=()
def tw2005068150750036651:=()
def tw14595167589327305220:=()
def tw18411767051559762901:=()
def tw16472697845169676467:=()
def tw12184245750898661131:=()
def tw4935492136091869132:=()
def tw5019988192032781651:=()
def tw6719659369524848125:=()
def tw407146961183365029:=()
def tw2155932247303251111:=()
def tw10198692284133194034:=()
def tw12972783266113687457:=()
def tw11807491167521337444:=()
def tw7266881365192893383:=()
def tw17662761177140548569:=()
def tw8924856132395920383:=()
def tw9229586387650721644:=()
def tw9458114917217580471:=()
def tw7823510799033773994:=()
def tw6309967487046200943:=()
def tw12495962122979818737:=()
def tw8693861526554258046:=()
def tw7766897831737314284:=()
def tw8848209957802186046:=()
def tw8229799032810811982:=()
def tw10499082407205200822:=()
def tw9765645866776646018:=()
def tw5414299506420480554:=()
def tw661755843045095667:=()
def tw6143089575012205520:=()
def tw6034524802291516335:=()
def tw6618539164409606494:=()
def tw7883364913534162107:=()
def tw11893925213123291466:=()
def tw11607156972921922436:=()
def tw2737501119798041813:=()
def tw2708581400352581801:=()
def tw9638647405075233178:=()
def tw9041034138618833752:=()
def tw9954958169819283319:=()
def tw17387584810093127168:=()
def tw16690464829962222983:=()
def tw17324906715550336355:=()
def tw17963412618024470959:=()
def tw7343233654121219683:=()
def tw13609053071073920109:=()
def tw5414813087833810309:=()
def tw6636259053285800292:=()
def tw8476856085857985907:=()
def tw9718774649229491041:=()
def tw13242753370606701474:=()
def tw9503952216472734026:=()
def tw1698223737055164760:=()
def tw3099616060726277915:=()
def tw11451931571311116122:=()
def tw3303087093667355723:=()
def tw15893224476323879571:=()
def tw10788128811166835601:=()
def tw17488549448580626020:=()
def tw11140493775258275052:=()
def tw2878583517715616566:=()
def tw12637359984682094471:=()
def tw11112303077706208858:=()
def tw9820381537067804151:=()
def tw7935860488220126378:=()
def tw14310470044120567558:=()
def tw15992937849546528743:=()
def tw16199878306809191397:=()
def tw17292434110468448187:=()
def tw16262035295921639987:=()
def tw14095620952875686384:=()
def tw4102730295916188735:=()
def tw11712948487492361213:=()
def tw14749372812858902792:=()
def tw14022035316434503166:=()
def tw2020344907236311160:=()
def tw10927590263847456970:=()
def tw5297989286765138589:=()
def tw9701493778502413060:=()
def tw4908647939445002039:=()
def tw13791701159828098474:=()
def tw10690268697995655082:=()
def tw1142172794958432846:=()
def tw17107705871589418105:=()
def tw13038361106381041447:=()
def tw11891380930392082705:=()
def tw16092753520784091393:=()
def tw1873534254475451685:=()
def tw7336690153603569887:=()
def tw12461113753344422025:=()
def tw1142409058140396447:=()
def tw2882457541996726847:=()
def tw1899586151512520152:=()
def tw6215405609242184766:=()
def tw2587148854175778475:=()
def tw5258711334474767908:=()
def tw5127280853861680955:=()
def tw15841780149356149682:=()
def tw10938051721013950642:=()
def tw4119944016788050473:=()
def tw13994585215367323306:=()
def tw15843577263463310607:=()
def tw3952960087189831668:=()
def tw17603696637208457112:=()
def tw1473085662334820874:=()
def tw2455353344509640116:=()
def tw5261987071612010613:=()
def tw14630927596225822129:=()
def tw2141542972116258545:=()
def tw6441728076684331795:=()
def tw5274519109336622140:=()
def tw5031434597838959413:=()
def tw17049649233784836342:=()
def tw13851073257640343595:=()
def tw3331236289440921339:=()
def tw4779534249303153902:=()
def tw11315892408095614763:=()
def tw18263744421796188879:=()
def tw5586391547172997278:=()
def tw1811993414750525691:=()
def tw673564874979837005:=()
def tw3525794129566919432:=()
def tw1651930525565215038:=()
def tw11149317275959794093:=()
def tw4679176525905561699:=()
def tw2122346862581033256:=()
def tw4971141063882212947:=()
def tw18258052479822494580:=()
def tw63363937481166478:=()
def tw54558642850229561:=()
def tw10228559504807170953:=()
def tw2304064329681953361:=()
def tw14369559474010097572:=()
def tw18111955074346116575:=()
def tw7879575763502334807:=()
def tw6209063888402636983:=()
def tw14934758250611078674:=()
def tw6994190050226088442:=()
def tw856106874735610770:=()
def tw6304075408332010777:=()
def tw9945438324333612179:=()
def tw18308138773062188175:=()
def tw4814161273779691380:=()
def tw6297202159857450276:=()
def tw3275823671070256588:=()
def tw8901579381356749046:=()
def tw7263100726858168303:=()
def tw3023541593272654744:=()
def tw1113637459226545097:=()
def tw5697655560146127401:=()
def tw12715627257059312237:=()
def tw8849692781451324403:=()
def tw1984618965597807205:=()
def tw16962495587987519114:=()
end PySem.W.Fast
open PySem PySem.W PyProof.Rows
set_option maxRecDepth 100000 in
set_option maxHeartbeats 0 in
theorem PySem.Challenge.cw_fewnotes_k45_what_is_recorded_so_far_holds : PySem.Challenge.rw_fewnotes_k45_what_is_recorded_so_far.Holds := by
 w_on;o_law;k_head;(case hw=>w_witness2)
 k_fill
 refine Prf.walk (l:=PySem.Challenge.rw_fewnotes_k45_what_is_recorded_so_far) rfl rfl (fun w h Y=>PySem.W.kIn_of Y) ?F
 case F=>
  intro w mg fa h KX G hmg
  replace hmg:mg (Str.ofString "law")=some (.ref fa):=hmg
  refine' Prf.all_mk KX G hmg ?a0 ?l0 ?c0 ?k0 ?a1 ?l1 ?c1 ?k1 ?a2 ?l2 ?c2 ?k2 ?a3 ?l3 ?c3 ?k3 ?a4 ?l4 ?c4 ?k4 ?a5 ?l5 ?c5 ?k5 ?a6 ?l6 ?c6 ?k6 ?a7 ?l7 ?c7 ?k7 ?a8 ?l8 ?c8 ?k8 ?a9 ?l9 ?c9 ?k9 ?a10 ?l10 ?c10 ?k10 ?a11 ?Z8 ?c11 ?k11 ?a12 ?Z7 ?c12 ?k12 ?a13 ?Z6 ?c13 ?k13 ?a14 ?Z5 ?c14 ?k14 ?a15 ?Z4 ?c15 ?Wb ?a16 ?Z2 ?c16 ?k16 ?n16 ?a17 ?Z1 ?c17 ?Wa ?n17 ?a18 ?Z0 ?c18 ?V_ ?n18 ?a19 ?ZX ?c19 ?V9 ?n19 ?a20 ?ZW ?c20 ?V8 ?n20 ?a21 ?ZV ?c21 ?V7 ?n21 ?a22 ?ZS ?c22 ?V6 ?a23 ?ZR ?c23 ?V5 ?a24 ?ZQ ?c24 ?V4 ?a25 ?ZP ?c25 ?V3 ?n25 ?a26 ?ZM ?c26 ?MF ?a27 ?ZL ?c27 ?V2 ?a28 ?ZK ?c28 ?V1 ?a29 ?ZJ ?c29 ?V0 ?a30 ?ZG ?c30 ?VR ?a31 ?ZF ?c31 ?k31 ?j9 ?jD ?jG ?jC ?jB ?jE ?jF ?gZ ?fO ?fu ?fM ?fj ?jR ?jJ ?GZ ?zZ ?j_ ?GX ?jH ?GR ?zY ?GQ ?GP ?vO ?rP ?GK ?GJ ?vN ?GF
  (case j9=>k_is)
  (case jD=>k_is)
  (case jG=>k_is)
  (case jC=>k_is)
  (case jB=>k_is)
  (case jE=>k_is)
  (case jF=>k_is)
  (case gZ=>k_is)
  (case fO=>k_is)
  (case fu=>k_is)
  (case fM=>k_is)
  (case fj=>k_is)
  (case jR=>k_is)
  (case a0=>k_is)
  (case l0=>k_is)
  (case c0=>k_is)
  (case k0=>k_is)
  (case a1=>k_is)
  (case l1=>k_is)
  (case c1=>k_is)
  (case k1=>k_is)
  (case a2=>k_is)
  (case l2=>k_is)
  (case c2=>k_is)
  (case k2=>k_is)
  (case a3=>k_is)
  (case l3=>k_is)
  (case c3=>k_is)
  (case k3=>k_is)
  (case a4=>k_is)
  (case l4=>k_is)
  (case c4=>k_is)
  (case k4=>k_is)
  (case a5=>k_is)
  (case l5=>k_is)
  (case c5=>k_is)
  (case k5=>k_is)
  (case a6=>k_is)
  (case l6=>k_is)
  (case c6=>k_is)
  (case k6=>k_is)
  (case a7=>k_is)
  (case l7=>k_is)
  (case c7=>k_is)
  (case k7=>k_is)
  (case a8=>k_is)
  (case l8=>k_is)
  (case c8=>k_is)
  (case k8=>k_is)
  (case a9=>k_is)
  (case l9=>k_is)
  (case c9=>k_is)
  (case k9=>k_is)
  (case a10=>k_is)
  (case l10=>k_is)
  (case c10=>k_is)
  (case k10=>k_is)
  (case a11=>k_is)
  (case Z8=>k_is)
  (case c11=>k_is)
  (case k11=>k_is)
  (case a12=>k_is)
  (case Z7=>k_is)
  (case c12=>k_is)
  (case k12=>k_is)
  (case a13=>k_is)
  (case Z6=>k_is)
  (case c13=>k_is)
  (case k13=>k_is)
  (case a14=>k_is)
  (case Z5=>k_is)
  (case c14=>k_is)
  (case k14=>k_is)
  (case a15=>k_is)
  (case Z4=>k_is)
  (case c15=>k_is)
  (case Wb=>k_is)
  (case a16=>k_is)
  (case Z2=>k_is)
  (case c16=>k_is)
  (case k16=>k_is)
  (case n16=>k_is)
  (case a17=>k_is)
  (case Z1=>k_is)
  (case c17=>k_is)
  (case Wa=>k_is)
  (case n17=>k_is)
  (case a18=>k_is)
  (case Z0=>k_is)
  (case c18=>k_is)
  (case V_=>k_is)
  (case n18=>k_is)
  (case a19=>k_is)
  (case ZX=>k_is)
  (case c19=>k_is)
  (case V9=>k_is)
  (case n19=>k_is)
  (case a20=>k_is)
  (case ZW=>k_is)
  (case c20=>k_is)
  (case V8=>k_is)
  (case n20=>k_is)
  (case a21=>k_is)
  (case ZV=>k_is)
  (case c21=>k_is)
  (case V7=>k_is)
  (case n21=>k_is)
  (case a22=>k_is)
  (case ZS=>k_is)
  (case c22=>k_is)
  (case V6=>k_is)
  (case a23=>k_is)
  (case ZR=>k_is)
  (case c23=>k_is)
  (case V5=>k_is)
  (case a24=>k_is)
  (case ZQ=>k_is)
  (case c24=>k_is)
  (case V4=>k_is)
  (case a25=>k_is)
  (case ZP=>k_is)
  (case c25=>k_is)
  (case V3=>k_is)
  (case n25=>k_is)
  (case a26=>k_is)
  (case ZM=>k_is)
  (case c26=>k_is)
  (case MF=>k_is)
  (case a27=>k_is)
  (case ZL=>k_is)
  (case c27=>k_is)
  (case V2=>k_is)
  (case a28=>k_is)
  (case ZK=>k_is)
  (case c28=>k_is)
  (case V1=>k_is)
  (case a29=>k_is)
  (case ZJ=>k_is)
  (case c29=>k_is)
  (case V0=>k_is)
  (case a30=>k_is)
  (case ZG=>k_is)
  (case c30=>k_is)
  (case VR=>k_is)
  (case a31=>k_is)
  (case ZF=>k_is)
  (case c31=>k_is)
  (case k31=>k_is)
  (case jJ=>k_is)
  (case GZ=>k_is)
  (case zZ=>k_is)
  (case j_=>k_is)
  (case GX=>k_is)
  (case jH=>k_is)
  (case GR=>k_is)
  (case zY=>k_is)
  (case GQ=>k_is)
  (case GP=>k_is)
  (case vO=>k_is)
  (case rP=>k_is)
  (case GK=>k_is)
  (case GJ=>k_is)
  (case vN=>k_is)
  (case GF=>k_is)
#print axioms PySem.Challenge.cw_fewnotes_k45_what_is_recorded_so_far_holds
