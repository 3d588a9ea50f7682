import PyProof.Rows.All
import Wide.All
import OpenK.AllK
import Wide.FinOn
import Lean
import PyProof.EqAt
import PyProof.EqKinds
import PyProof.TupleCall
import PyProof.EqLayable
import PyProof.ExcArgsOwn
import PyProof.ExcAttrAll.Exception
import PyProof.RulesAs
import PyProof.ExcBaseAll.ValueError
import PyProof.NsDelKeeps
import KE.KRevSl
import PyProof.DictUpdate
import PyProof.DictTruth
import PyProof.DictDisplay
import KE.KDictSum
import KE.KLam
import KE.KNestM
import KE.KMinKey
import KE.KSortedM
import PySem.Challenge.RW_fewnotes_k34_whole_strict_notes_are_enou
set_option Elab.async false
set_option linter.all false
set_option maxRecDepth 100000
namespace L2
open PySem PySem.Spec PyProof.Rows
abbrev Key:=Sum Int Str
def sX:Key->Value->Bool
 | .inl k,v=>Value.isInt k v
 | .inr x,v=>Value.isStrOf x v
def abR (w:World):Key->Int
 | .inl k=>hashInt k
 | .inr x=>hashStr w x
theorem cL:∀{k:Key} {v:Value},sX k v=true->(∃i t,k=Sum.inl i/\v=Value.int i t)\/(∃x t,k=Sum.inr x/\v=Value.str x t)
 | .inl i,v,h=>by
   obtain ⟨t,e⟩:=Value.isInt_shape (k:=i) (v:=v) h;exact .inl ⟨i,t,rfl,e⟩
 | .inr x,v,h=>by
   obtain ⟨t,e⟩:=Value.isStrOf_shape (x:=x) (v:=v) h;exact .inr ⟨x,t,rfl,e⟩
theorem Gm (i:Int) (t:Tok):sX (.inl i) (.int i t)=true:=by simp [sX,Value.isInt]
theorem Gk (x:Str) (t:Tok):sX (.inr x) (.str x t)=true:=by simp [sX,Value.isStrOf]
theorem RJ (a b:Int):decide ((Sum.inl a:Key)=Sum.inl b)=(a==b):=by
 by_cases e:a=b
 ·subst e;simp
 ·have h:¬(Sum.inl a:Key)=Sum.inl b:=fun q=>e (Sum.inl.inj q)
  rw [decide_eq_false h];exact (beq_eq_false_iff_ne.mpr e).symm
theorem Rz (a b:Str):decide ((Sum.inr a:Key)=Sum.inr b)=decide (a=b):=by
 by_cases e:a=b
 ·subst e;simp
 ·have h:¬(Sum.inr a:Key)=Sum.inr b:=fun q=>e (Sum.inr.inj q)
  rw [decide_eq_false h,decide_eq_false e]
theorem RG (a:Int) (b:Str):decide ((Sum.inl a:Key)=Sum.inr b)=false:=decide_eq_false (fun q=>nomatch q)
theorem RB (a:Str) (b:Int):decide ((Sum.inr a:Key)=Sum.inl b)=false:=decide_eq_false (fun q=>nomatch q)
def bV (prog:Program) (w:World):PySem.KeyKind prog w Key where
 is:=sX
 hash:=abR w
 inj:=fun v a b ha hb=>by
  rcases cL ha with ⟨i,t,rfl,rfl⟩|⟨x,t,rfl,rfl⟩
  ·rcases cL hb with ⟨j,u,rfl,e⟩|⟨y,u,rfl,e⟩
   ·injection e with e1 _;rw [e1]
   ·exact nomatch e
  ·rcases cL hb with ⟨j,u,rfl,e⟩|⟨y,u,rfl,e⟩
   ·exact nomatch e
   ·injection e with e1 _;rw [e1]
 byValue:=fun k v h=>by
  rcases cL h with ⟨i,t,rfl,rfl⟩|⟨x,t,rfl,rfl⟩<;>rfl
 pyHash:=fun hv h=>by
  rcases cL hv with ⟨i,t,rfl,rfl⟩|⟨x,t,rfl,rfl⟩
  ·exact wpAny_pyHash_int h
  ·exact wpAny_pyHash_str h
 eqBool:=fun hu hv h=>by
  rcases cL hu with ⟨i,t,rfl,rfl⟩|⟨x,t,rfl,rfl⟩
  ·rcases cL hv with ⟨j,u,rfl,rfl⟩|⟨y,u,rfl,rfl⟩
   ·rw [RJ] at h;exact wpAny_eqBool_int h
   ·rw [RG] at h;exact SeqAt.EqAt.int_str i t y u _ _ _ _ h
  ·rcases cL hv with ⟨j,u,rfl,rfl⟩|⟨y,u,rfl,rfl⟩
   ·rw [RB] at h;exact SeqAt.EqAt.str_int x t j u _ _ _ _ h
   ·rw [Rz] at h;exact wpAny_eqBool_str h
 «strs» :=fun k x t v h=>by
  rcases cL h with ⟨i,u,rfl,e⟩|⟨y,u,rfl,e⟩
  ·exact nomatch e
  ·injection e with e1 _
   subst e1;cases v<;>rfl
theorem Bo (prog:Program) (w:World) (k:Key) (v:Value):(bV prog w).is k v=sX k v:=rfl
theorem yL (prog:Program) (w:World) (i:Int) (t:Tok):(bV prog w).is (.inl i) (.int i t)=true:=Gm i t
theorem yK (prog:Program) (w:World) (x:Str) (t:Tok):(bV prog w).is (.inr x) (.str x t)=true:=Gk x t
end L2
namespace L2
open PySem PySem.Spec PyProof.Rows
inductive V where
 | non|bl (b:Bool)|int (i:Int)|str (x:Str)|zZ (b:Array UInt8)|flt (b:UInt64)|ref (a:Addr)|ty (n:String)
 deriving DecidableEq
def RelV:V->Value->Prop
 | .non,u=>u=Value.none
 | .bl b,u=>u=Value.bool b
 | .int i,u=>∃t,u=Value.int i t
 | .str x,u=>∃t,u=Value.str x t
 | .zZ b,u=>∃t,u=Value.bytes b t
 | .flt b,u=>∃t,u=Value.float b t
 | .ref a,u=>u=Value.ref a
 | .ty n,u=>u=Value.type n
abbrev Vals:List V->List Value->Prop:=Paired RelV
theorem Vals.length {xs:List V} {us:List Value} (r:Vals xs us):xs.length=us.length:=Paired.length r
theorem Vals.get:∀{xs:List V} {us:List Value} {i:Nat} {x:V},Vals xs us->xs[i]? = some x -> ∃u,us[i]? = some u/\RelV x u
 | _,_,_,_,.nil,e=>by simp at e
 | _,_,0,_,.cons r _,e=>by simp at e;subst e;exact ⟨_,rfl,r⟩
 | _,_,i+1,x,.cons _ t,e=>by
   obtain ⟨u,h1,h2⟩:=Vals.get (i:=i) (x:=x) t (by simpa using e);exact ⟨u,by simpa using h1,h2⟩
theorem Vals.set {x:V} {u:Value} (r:RelV x u):∀{xs:List V} {us:List Value} (i:Nat),Vals xs us->Vals (xs.set i x) (us.set i u)
 | _,_,_,.nil=> .nil
 | _,_,0,.cons _ t=> .cons r t
 | _,_,i+1,.cons q t=> .cons q (Vals.set r i t)
theorem Vals.append {xs ys:List V} {us ws:List Value} (h:Vals xs us) (s:Vals ys ws):Vals (xs++ys) (us++ws):=by
 induction h with
 | nil=>exact s
 | cons r t ih=>exact .cons r ih
theorem Vals.take:∀{xs:List V} {us:List Value} (n:Nat),Vals xs us->Vals (xs.take n) (us.take n)
 | _,_,0,_=> .nil
 | _,_,_+1,.nil=> .nil
 | _,_,n+1,.cons r t=> .cons r (Vals.take n t)
theorem Vals.drop:∀{xs:List V} {us:List Value} (n:Nat),Vals xs us->Vals (xs.drop n) (us.drop n)
 | _,_,0,r=>r
 | _,_,_+1,.nil=> .nil
 | _,_,n+1,.cons _ t=>Vals.drop n t
def nA:Option V->Option Value->Prop
 | some v,some u=>RelV v u
 | none,none=>True
 | _,_=>False
def KV {κ:Type}:List (κ×V)->List (κ×Value)->Prop:=Paired fun (p:κ×V) (q:κ×Value)=>p.1=q.1/\RelV p.2 q.2
def kV:Key->V
 | .inl i=> .int i
 | .inr x=> .str x
inductive HO where
 | lst (xs:List V)
 | tup (xs:List V)
 | dK (kvs:List (Key×V))|dT (kvs:List (List Key×V))
 | set (S:Int->Bool) (n:Nat)
 | ins (C dx:Addr) (fs:List (Str×V))
 | own (x:Addr)
 | xd (fs:List (Str×V))
 | met (f x:Addr)
 | rng (lo hi:Int)
 | gM (o:Obj) (u:HO)
 | kE (ps:Array Value)
 | ext (φ:Heap->Prop)
abbrev Hp:=Addr->Option HO
def upd (H:Hp) (a:Addr) (o:HO):Hp:=fun b=>if b=a then some o else H b
theorem ak {H:Hp} {a:Addr} {o:HO}:upd H a o a=some o:=by unfold upd;rw [if_pos rfl]
theorem aJ {H:Hp} {a b:Addr} {o:HO} (h:b≠a):upd H a o b=H b:=by unfold upd;rw [if_neg h]
theorem vO {H:Hp} {a:Addr} {o u:HO}:upd (upd H a o) a u=upd H a u:=by
 funext b;unfold upd;split<;>rfl
theorem dB {H:Hp} {a b:Addr} {o u:HO} (h:H a=some o) (h':H b=some u) (d:o≠u):a≠b:=by
 intro e;subst e;rw [h] at h';exact d (Option.some.inj h')
theorem au {H:Hp} {a b:Addr} {o:HO} (h:H a=some o) (h':H b=none):a≠b:=by
 intro e;subst e;rw [h] at h';cases h'
section
variable (P:Program) (w:World)
def bD (H:Hp) (h:Heap) (a:Addr):HO->Prop
 | .lst xs=>xs.length<=sizeLine /\ ∃(its:List Value) (n:Nat),Vals xs its/\h.get? a=some {cls:= .type "list",data:= .seq its.toArray n}
 | .tup xs=>xs.length<=sizeLine /\ ∃its:List Value,Vals xs its/\IsTup h a its.toArray
 | .dK kvs=>kvs.length<=sizeLine/\(a==sysModules)=false /\ ∃vs,KV kvs vs/\h.DictOf (bV P w) a vs
 | .dT kvs=>kvs.length<=sizeLine/\(a==sysModules)=false /\ ∃xs:List (List Key×Addr×Value),
    Paired (fun (p:List Key×V) (q:List Key×Addr×Value)=>p.1=q.1/\H q.2.1=some (.tup (p.1.map kV))/\RelV p.2 q.2.2) kvs xs /\
    ∃o es ep,h.get? a=some o/\o.ExactDict/\o.data = .dict es ep/\es.toList=xs.map (entryOfKey (tupleKind (bV P w)))/\(xs.map (·.1)).Nodup
 | .set S n=>h.SetOf (intKind P w) a S n
 | .ins C dx fs=>H dx=some (.own a)/\fs.length<=1000/\dx≠a/\h.get? a=some (PySem.W.instObj C dx) /\
    ∃mA,h.Ns1 dx mA/\(∀f,nA (fs.lookup f) (mA f))/\PySem.Within mA (fs.map (·.1))
 | .own _=>∃o,h.get? a=some o
 | .xd fs=>∃mA,h.Ns1 a mA /\ ∀f,nA (fs.lookup f) (mA f)
 | .rng lo hi=>∃t u v,h.get? a=some {cls:= .type "range",data:= .fields #[.int lo t,.int hi u,.int 1 v]}
 | .gM o u=>h.get? a=some o/\bD H h a u
 | .kE ps=>h.get? a=some {cls:= .none,data:= .fields ps}
 | .met f x=>h.get? a=some (PySem.W.methodObj (.ref f) (.ref x))
 | .ext φ=>φ h/\(∃o,h.get? a=some o) /\ ∀h1 h2:Heap,φ h1->(∀o,h1.get? a=some o->h2.get? a=some o)->φ h2
def lM (H:Hp) (h:Heap):Prop:=∀a o,H a=some o->bD P w H h a o
end
section
variable {P:Program} {w:World} {H H':Hp} {h h':Heap} {a:Addr} {o:HO}
theorem bD.lt (x:bD P w H h a o):a<h.objs.size:=by
 cases o with
 | lst xs=>obtain ⟨_,_,_,_,e⟩:=x;exact Heap.lt_size e
 | tup xs=>obtain ⟨_,_,_,p⟩:=x;exact p.lt
 | dK kvs=>obtain ⟨_,_,_,_,o,_,_,e,_⟩:=x;exact Heap.lt_size e
 | dT kvs=>obtain ⟨_,_,_,_,o,_,_,e,_⟩:=x;exact Heap.lt_size e
 | set S n=>obtain ⟨o,_,_,_,e,_⟩:=x;exact Heap.lt_size e
 | ins C dx fs=>obtain ⟨_,_,_,e,_⟩:=x;exact Heap.lt_size e
 | own y=>obtain ⟨_,e⟩:=x;exact Heap.lt_size e
 | xd fs=>obtain ⟨_,⟨_,_,_,e,_⟩,_⟩:=x;exact Heap.lt_size e
 | rng lo hi=>obtain ⟨_,_,_,e⟩:=x;exact Heap.lt_size e
 | gM ob u=>obtain ⟨e,_⟩:=x;exact Heap.lt_size e
 | kE ps=>exact Heap.lt_size (show h.get? a=some _ from x)
 | met f y=>exact Heap.lt_size (show h.get? a=some _ from x)
 | ext φ=>obtain ⟨_,⟨_,e⟩,_⟩:=x;exact Heap.lt_size e
theorem Paired.Rr {α β:Type} {F G:α->β->Prop}:∀{l₁:List α} {l₂:List β},Paired F l₁ l₂->(∀a b,F a b->G a b)->Paired G l₁ l₂
 :=by
 intro l₁ l₂ h f
 induction h with
 | nil=>exact .nil
 | cons r t ih=>exact .cons (f _ _ r) ih
theorem bD.stay (x:bD P w H h a o) (k:∀b u,(b=a\/H b=some (.own a))->h.get? b=some u->h'.get? b=some u)
 (ho:∀b,H b=some (.own a)->H' b=some (.own a)) (ht:∀b xs,H b=some (.tup xs)->H' b=some (.tup xs)):bD P w H' h' a o:=by
 induction o with
 | lst xs=>obtain ⟨z,its,n,r,e⟩:=x;exact ⟨z,its,n,r,k _ _ (.inl rfl) e⟩
 | tup xs=>obtain ⟨z,its,r,ob,e,c⟩:=x;exact ⟨z,its,r,ob,k _ _ (.inl rfl) e,c⟩
 | dK kvs=>obtain ⟨z,y,vs,r,ob,es,ep,e,c⟩:=x;exact ⟨z,y,vs,r,ob,es,ep,k _ _ (.inl rfl) e,c⟩
 | dT kvs=>
   obtain ⟨z,y,xs,r,ob,es,ep,e,c⟩:=x;exact ⟨z,y,xs,Paired.Rr r fun p q z=>⟨z.1,ht _ _ z.2.1,z.2.2⟩,ob,es,ep,k _ _ (.inl rfl) e,c⟩
 | set S n=>obtain ⟨ob,es,ep,t,e,c⟩:=x;exact ⟨ob,es,ep,t,k _ _ (.inl rfl) e,c⟩
 | ins C dx fs=>
   obtain ⟨d,z,ne,e,mA,⟨od,es,ep,e2,c⟩,r⟩:=x;exact ⟨ho _ d,z,ne,k _ _ (.inl rfl) e,mA,⟨od,es,ep,k _ _ (.inr d) e2,c⟩,r⟩
 | own y=>obtain ⟨ob,e⟩:=x;exact ⟨ob,k _ _ (.inl rfl) e⟩
 | xd fs=>obtain ⟨mA,⟨od,es,ep,e,c⟩,r⟩:=x;exact ⟨mA,⟨od,es,ep,k _ _ (.inl rfl) e,c⟩,r⟩
 | rng lo hi=>obtain ⟨t,u,v,e⟩:=x;exact ⟨t,u,v,k _ _ (.inl rfl) e⟩
 | gM ob u ih=>obtain ⟨e,q⟩:=x;exact ⟨k _ _ (.inl rfl) e,ih q⟩
 | kE ps=>
   have e:h.get? a=some {cls:= .none,data:= .fields ps}:=x;show h'.get? a=some {cls:= .none,data:= .fields ps};exact k a _ (.inl rfl) e
 | met f y=>
   have e:h.get? a=some (PySem.W.methodObj (.ref f) (.ref y)):=x;show h'.get? a=some (PySem.W.methodObj (.ref f) (.ref y));exact k a _ (.inl rfl) e
 | ext φ=>obtain ⟨p,⟨o,e⟩,st⟩:=x;exact ⟨st _ _ p fun o q=>k _ _ (.inl rfl) q,⟨o,k _ _ (.inl rfl) e⟩,st⟩
theorem lM.lt (x:lM P w H h) (e:H a=some o):a<h.objs.size:=(x a o e).lt
theorem lM.fresh (x:lM P w H h) (e:h.objs.size<=a):H a=none:=by
 cases q:H a with
 | none=>rfl
 | some u=>exact absurd (Nat.lt_of_lt_of_le (x.lt q) e) (Nat.lt_irrefl _)
theorem lM.kept (x:lM P w H h) (k:∀b u,h.get? b=some u->h'.get? b=some u):lM P w H h':=fun a o e=>
 (x a o e).stay (fun b u _ q=>k b u q) (fun _ q=>q) fun _ _ q=>q
theorem lM.laid (x:lM P w H h) (k:∀b u,h.get? b=some u->h'.get? b=some u) (hp:h.objs.size<=a) (new:bD P w (upd H a o) h' a o):lM P w (upd H a o) h':=fun b u e=>by
 have hn:=x.fresh hp
 by_cases hb:b=a
 ·subst hb;rw [ak] at e;cases e;exact new
 ·rw [aJ hb] at e
  exact (x b u e).stay (fun c v _ q=>k c v q) (fun c q=>by rw [aJ (au q hn)];exact q) fun c xs q=>by rw [aJ (au q hn)];exact q
end
def Rd (H:Hp) (a:Addr) (u:HO):Prop:=H a=some u \/ ∃o,H a=some (.gM o u)
theorem Rd.ok {P:Program} {w:World} {H:Hp} {h:Heap} {a:Addr} {u:HO} (r:Rd H a u) (x:lM P w H h):bD P w H h a u:=by
 rcases r with r|⟨o,r⟩
 ·exact x a u r
 ·obtain ⟨_,q⟩:=x a _ r
  exact q
def Xj:Option HO->Prop
 | some (.lst _)=>True
 | some (.dK _)=>True
 | some (.dT _)=>True
 | some (.set _ _)=>True
 | some (.ins _ _ _)=>True
 | some (.ext _)=>True
 | _=>False
section
variable {P:Program} {w:World} {H:Hp} {h h':Heap} {x e:Addr} {o':HO}
theorem lM.write (ok:lM P w H h) (mu:Xj (H x)) (he:e=x\/H e=some (.own x)) (k:∀b u,b≠e->h.get? b=some u->h'.get? b=some u) (heo:∃u,h'.get? e=some u)
 (new:bD P w (upd H x o') h' x o'):lM P w (upd H x o') h':=fun b u q=>by
 have FZ:∀c y,H c=some (.own y)->c≠x:=fun c y r z=>by subst z;rw [r] at mu;exact mu
 have abb:∀c xs,H c=some (.tup xs)->c≠x:=fun c xs r z=>by subst z;rw [r] at mu;exact mu
 by_cases hb:b=x
 ·subst hb;rw [ak] at q;cases q;exact new
 ·rw [aJ hb] at q
  by_cases hbe:b=e
  ·have q':H b=some (.own x):=by
    rcases he with z|z
    ·exact absurd (hbe.trans z) hb
    ·rw [hbe];exact z
   rw [q] at q';cases q';obtain ⟨v,hv⟩:=heo;exact ⟨v,by rw [hbe];exact hv⟩
  ·refine (ok b u q).stay (fun c v hc r=>k c v ?_ r) (fun c r=>by rw [aJ (FZ c b r)];exact r) fun c xs r=>by rw [aJ (abb c xs r)];exact r
   rcases hc with rfl|hc
   ·exact hbe
   ·rintro rfl
    rcases he with z|z
    ·exact FZ c b hc z
    ·rw [hc] at z;cases z;exact hb rfl
end
structure Un (fs ex:List Addr) (H H':Hp) (h h':Heap):Prop where
 keep:∀b o,h.get? b=some o->H b=none->b∉fs->b∉ex->h'.get? b=some o
 slot:∀b o,h.get? b=some o->H b=none->b∈fs->b∉ex -> ∃sl,h'.get? b=some {o with slots:=sl}
 free:∀b o,h.get? b=some o->H b=none->b∉ex->H' b=none
 there:∀b o,h.get? b=some o->b∉ex -> ∃o',h'.get? b=some o'
 tups:∀b xs,H b=some (.tup xs)->H' b=some (.tup xs)
 ni:∀b o u,H b=some (.gM o u)->H' b=some (.gM o u)
 qt:∀b ps,H b=some (.kE ps) -> ∃more,H' b=some (.kE (ps++more))
section
variable {fs fs' ex ex':List Addr} {H H1 H2:Hp} {h h1 h2 h':Heap} {a x e:Addr} {o:HO}
theorem Un.any (u:Un fs ex H H1 h h1) {b:Addr} {ob:Obj} (q:h.get? b=some ob) (n:H b=none) (hx:b∉ex):∃sl,h1.get? b=some {ob with slots:=sl}:=by
 by_cases hb:b∈fs
 ·exact u.slot b ob q n hb hx
 ·exact ⟨ob.slots,u.keep b ob q n hb hx⟩
theorem Un.kept (k:∀b u,h.get? b=some u->h'.get? b=some u):Un fs ex H H h h':=
 ⟨fun b ob q _ _ _=>k b ob q,fun b ob q _ _ _=>⟨ob.slots,k b ob q⟩,fun _ _ _ n _=>n,fun b ob q _=>⟨ob,k b ob q⟩,fun _ _ q=>q,fun _ _ _ q=>q,fun _ ps q=>⟨#[],by rw [q];simp⟩⟩
theorem Un.refl:Un fs ex H H h h:=Un.kept fun _ _ q=>q
theorem Un.laid (k:∀b u,h.get? b=some u->h'.get? b=some u) (hp:h.objs.size<=a) (hn:H a=none):Un fs ex H (upd H a o) h h' where
 keep:=fun b u q _ _ _=>k b u q
 slot:=fun b u q _ _ _=>⟨u.slots,k b u q⟩
 free:=fun b u q n _=>by rw [aJ (Nat.ne_of_lt (Nat.lt_of_lt_of_le (Heap.lt_size q) hp))];exact n
 there:=fun b u q _=>⟨u,k b u q⟩
 tups:=fun b xs q=>by rw [aJ (au q hn)];exact q
 ni:=fun b u xs q=>by rw [aJ (au q hn)];exact q
 qt:=fun b ps q=>⟨#[],by rw [aJ (au q hn),q];simp⟩
theorem Un.write (mu:Xj (H x)) (he:e=x\/H e=some (.own x)) (k:∀b u,b≠e->h.get? b=some u->h'.get? b=some u) (heo:∃u,h'.get? e=some u):Un fs ex H (upd H x o) h h':=by
 have hx:∀b,H b=none->b≠x:=fun b n z=>by subst z;rw [n] at mu;exact mu
 have hb:∀b,H b=none->b≠e:=fun b n z=>by
  subst z;rcases he with r|r
  ·exact hx b n r
  ·rw [n] at r;cases r
 have hm:∀b u,H b=some u -> ¬Xj (some u)->b≠x:=fun b u q nm z=>by subst z;rw [q] at mu;exact nm mu
 refine ⟨fun b u q n _ _=>k b u (hb b n) q,fun b u q n _ _=>⟨u.slots,k b u (hb b n) q⟩,fun b u q n _=>by rw [aJ (hx b n)];exact n,fun b u q _=> ?_,
  fun b xs q=>by rw [aJ (hm b _ q fun z=>z)];exact q,fun b u xs q=>by rw [aJ (hm b _ q fun z=>z)];exact q,fun b ps q=>⟨#[],by rw [aJ (hm b _ q fun z=>z),q];simp⟩⟩
 by_cases hbe:b=e
 ·subst hbe;exact heo
 ·exact ⟨u,k b u hbe q⟩
end
def Xv (h:Heap) (H:Hp):List Addr:=(List.range h.objs.size).filter fun a=>(H a).isSome
def m_ (h:Heap) (H:Hp):Heap:=PySem.W.hideAll h (Xv h H)
theorem u_ (h:Heap) (H:Hp):(m_ h H).objs.size=h.objs.size:=PySem.W.hideAll_size _ _
theorem yW {h:Heap} {H:Hp} {b:Addr} {o:Obj} (e:h.get? b=some o) (n:H b=none):(m_ h H).get? b=some o:=
 PySem.W.hideAll_get _ e fun hm=>by
  have q:(H b).isSome=true:=(List.mem_filter.mp hm).2;rw [n] at q;simp at q
theorem Dp {h:Heap} {H:Hp} {b:Addr} {o:Obj} (e:(m_ h H).get? b=some o):h.get? b=some o/\H b=none:=by
 have e':h.get? b=some o:=PySem.W.of_hideAll (Xv h H) e;refine ⟨e', ?_⟩;cases q:H b with
 | none=>rfl
 | some x=>
   have hm:b∈Xv h H:=List.mem_filter.mpr ⟨List.mem_range.mpr (Heap.lt_size e'),by simp [q]⟩;have z:(m_ h H).get? b=none:=PySem.W.hideAll_none (Xv h H) hm;rw [z] at e;cases e
def Om (g h:Heap) (L:Addr):List (Addr×Obj):=(List.range h.objs.size).filterMap fun a=>if a=L\/(g.get? a).isSome=true then none else (h.get? a).map fun o=>(a,o)
def rest (g h:Heap) (L d:Addr):List (Addr×Obj):=(Om g h L).filter fun p=>decide (p.1≠d)
end L2
namespace L2
open PySem PySem.Spec PyProof.Rows
structure Mod (K:PySem.W.Frag) (mg:Str->Option Value) (base:Heap):Prop where
 kin:K.In base
 glob:base.Ns mainGlobals mg
 blt:∃mb,base.Ns builtinsNs mb /\ ∀x:Str,x ≠ "__name__" -> mb x=bootBuiltins x
 nolimit:base.NoLimit
structure Cx where
 prog:Program
 w:World
 K:PySem.W.Frag
 mg:Str->Option Value
 base:Heap
 A:Around
 N:List Str
 s₀:Shared
 H₀:Hp
 env:Env
 outer:List Env
 stack:List Env
 ex:List Addr
 fn:Str->Bool
 calm:Bool
 pn:List (Addr×Obj)
 xe:Value->Shared->Prop
def frs (l:List Env):List Addr:=l.filterMap (·.frame)
abbrev Cx.fs (X:Cx):List Addr:=frs X.outer
def Vis (sc:Scope) (x:Str):Prop:=sc.names.lookup x=some .local\/sc.names.lookup x=some .cell\/sc.names.lookup x=some .free
def Loc (sc:Scope) (x:Str):Prop:=sc.names.lookup x=some .local\/sc.names.lookup x=some .cell
def Look (env:Env) (h:Heap) (m:Str->Option Value) (x:Str) (u:Value):Prop:=
 (env.kindOf x=some .local/\m x=some u)\/((env.kindOf x=some .cell\/env.kindOf x=some .free) /\ ∃c,env.cells.lookup x=some c/\h.IsCell c (some u))
structure Cx.Ok (X:Cx):Prop where
 mod:Mod X.K X.mg X.base
 kind:X.env.scope.kind = .function
 glob:X.env.globals=mainGlobals
 blt:X.env.builtins=builtinsNs
 above:X.s₀.heap.objs.size<=X.env.locals
 inj:∀x y c,X.env.cells.lookup x=some c->X.env.cells.lookup y=some c->x=y
 has:∀x,(X.env.kindOf x=some .cell\/X.env.kindOf x=some .free) -> ∃c,X.env.cells.lookup x=some c
 cab:∀x c,X.fn x=true->X.env.cells.lookup x=some c->X.s₀.heap.objs.size<=c
 hd:X.calm=true->X.A.handled=none
 frames:X.A.frames=some X.stack
 stk:X.stack=X.outer\/(X.stack=X.env::X.outer/\X.env.frame=some X.env.locals)
 exf:∀b∈X.ex,b≠X.env.locals /\ ∀x c,X.env.cells.lookup x=some c->c≠b
 bs:∀b o,X.base.get? b=some o->X.s₀.heap.get? b=some o/\X.H₀ b=none
 KJ:X.base.objs.size<=X.s₀.heap.objs.size
 Gb:∀b o,X.base.get? b=some o->b∉X.ex
 NZ:∀b∈X.ex,b∉X.fs
 qG:X.s₀.heap.FunFrames X.base X.outer
 Sd:∀b∈X.fs,X.H₀ b=none
structure Inv (X:Cx) (pins:List (Addr×Obj)) (σ:List (Option V)) (H:Hp) (s:Shared):Prop where
 ok:X.Ok
 os:s.os=X.s₀.os
 bare:AllBare s.gens
 base:Un X.fs X.ex X.H₀ H X.s₀.heap s.heap
 loc:∃m,s.heap.Ns X.env.locals m /\ ∀(i:Nat) (x:Str) (v:V),X.N[i]? = some x->σ[i]? = some (some v)->Vis X.env.scope x -> ∃u,RelV v u/\Look X.env s.heap m x u
 cell:∀x c,X.env.cells.lookup x=some c -> ∃v,s.heap.IsCell c v
 free:H X.env.locals=none
 jF:∀x c,X.env.cells.lookup x=some c->H c=none
 pin:∀p∈X.pn++pins,s.heap.get? p.1=some p.2/\H p.1=none/\p.1≠X.env.locals/\p.1∉X.fs /\ ∀v,p.2.data ≠ .cell v
 hok:lM X.prog X.w H s.heap
 len:σ.length=X.N.length
section
variable {X:Cx} {pins:List (Addr×Obj)} {σ:List (Option V)} {H H':Hp} {s:Shared} {h':Heap}
theorem Cx.Ok.abg (ok:X.Ok) {b:Addr} {o:Obj} (e:X.base.get? b=some o):b∉X.fs:=fun hb=>by
 have:=(ok.qG.mem hb).1;rw [e] at this;cases this
theorem Inv.bs (I:Inv X pins σ H s):∀b o,X.base.get? b=some o->s.heap.get? b=some o/\H b=none:=fun b o e=>
 ⟨I.base.keep b o (I.ok.bs b o e).1 (I.ok.bs b o e).2 (I.ok.abg e) (I.ok.Gb b o e),I.base.free b o (I.ok.bs b o e).1 (I.ok.bs b o e).2 (I.ok.Gb b o e)⟩
theorem Inv.bk (I:Inv X pins σ H s):∀b o,X.base.get? b=some o->s.heap.get? b=some o:=fun b o e=>(I.bs b o e).1
theorem Inv.mod (I:Inv X pins σ H s):Mod X.K X.mg X.base:=I.ok.mod
theorem Inv.xK (I:Inv X pins σ H s):X.K.In s.heap:=I.ok.mod.kin.keeps I.bk
theorem Inv.lt (I:Inv X pins σ H s):X.env.locals<s.heap.objs.size:=let ⟨_,hn,_⟩:=I.loc;hn.lt
theorem Inv.sz (I:Inv X pins σ H s):X.s₀.heap.objs.size<=s.heap.objs.size:=Nat.le_trans I.ok.above (Nat.le_of_lt I.lt)
theorem Inv.abf (I:Inv X pins σ H s) {a:Addr} (h:s.heap.objs.size<=a):a∉X.fs:=fun hb=>by
 obtain ⟨_,o,ho,_⟩:=I.ok.qG.mem hb;exact absurd (Nat.lt_of_lt_of_le (Heap.lt_size ho) (Nat.le_trans I.sz h)) (Nat.lt_irrefl _)
theorem Inv.SQ (I:Inv X pins σ H s):∀x c,X.env.cells.lookup x=some c->c≠X.env.locals:=fun x c e z=>by
 obtain ⟨v,o,ho,hd⟩:=I.cell x c e;obtain ⟨m,⟨o',es,ep,ho',hd',_⟩,_⟩:=I.loc;rw [z,ho'] at ho;cases ho;rw [hd'] at hd;cases hd
theorem Inv.qG (I:Inv X pins σ H s):s.heap.FunFrames X.base X.outer:=by
 have all:∀(l:List Env),(∀b∈frs l,b∈X.fs)->X.s₀.heap.FunFrames X.base l->s.heap.FunFrames X.base l:=by
  intro l
  induction l with
  | nil=>intro _ _;trivial
  | cons env r ih=>
    intro hs hl;obtain ⟨hk,⟨L,o,hf,hn,ho,hd⟩,hr⟩:=hl;have hL:L∈X.fs:=hs L (by unfold frs;rw [List.filterMap_cons,hf];exact List.mem_cons_self);obtain ⟨sl,e⟩:=I.base.slot L o ho (I.ok.Sd L hL) hL fun z=>I.ok.NZ L z hL;exact ⟨hk,⟨L,_,hf,hn,e,hd⟩,ih (fun b hb=>hs b (by unfold frs;rw [List.filterMap_cons,hf];exact List.mem_cons_of_mem _ hb)) hr⟩
 exact all X.outer (fun _ hb=>hb) I.ok.qG
theorem Inv.stack (I:Inv X pins σ H s):s.heap.FunFrames X.base X.stack:=by
 rcases I.ok.stk with e|⟨e,hf⟩
 ·rw [e];exact I.qG
 ·rw [e]
  obtain ⟨m,hn,_⟩:=I.loc;refine .cons (by rw [I.ok.kind];decide) hf hn ?_ I.qG;exact Heap.get?_none_of_le (Nat.le_trans I.ok.KJ I.ok.above)
theorem Inv.oK (I:Inv X pins σ H s):∀b∈frs X.stack,b∈X.env.locals::X.fs:=fun b hb=>by
 rcases I.ok.stk with e|⟨e,hf⟩
 ·rw [e] at hb;exact List.mem_cons_of_mem _ hb
 ·rw [e] at hb
  unfold frs at hb;rw [List.filterMap_cons,hf] at hb;exact hb
theorem Inv.vV (I:Inv X pins σ H s):∀b∈frs X.stack,H b=none:=fun b hb=>by
 rcases List.mem_cons.mp (I.oK b hb) with e|hb
 ·rw [e];exact I.free
 ·obtain ⟨_,o,ho,_⟩:=I.ok.qG.mem hb
  exact I.base.free b o ho (I.ok.Sd b hb) fun z=>I.ok.NZ b z hb
theorem Inv.step {g':Array GenState} {t':Nat} {d':Drawn} {ch:List Addr} (I:Inv X pins σ H s)
 (hch:∀b∈ch,(b∈X.ex\/X.s₀.heap.objs.size<=b)/\b≠X.env.locals/\(∀x c,X.env.cells.lookup x=some c->c≠b) /\ ∀p∈X.pn++pins,p.1≠b)
 (keep:∀b o,b≠X.env.locals->b∉X.fs->b∉ch->s.heap.get? b=some o->H b=none->h'.get? b=some o)
 (slot:∀b o,b≠X.env.locals->b∈X.fs->b∉ch->s.heap.get? b=some o->H b=none -> ∃sl,h'.get? b=some {o with slots:=sl}) (free:∀b o,b∉ch->s.heap.get? b=some o->H b=none->H' b=none)
 (there:∀b o,b∉ch->s.heap.get? b=some o -> ∃o',h'.get? b=some o')
 (tups:∀b xs,H b=some (.tup xs)->H' b=some (.tup xs)) (ni:∀b o u,H b=some (.gM o u)->H' b=some (.gM o u)) (qt:∀b ps,H b=some (.kE ps) -> ∃more,H' b=some (.kE (ps++more)))
 (ns:∀m,s.heap.Ns X.env.locals m->h'.Ns X.env.locals m) (hok:lM X.prog X.w H' h') (hg:AllBare g'):
 Inv X pins σ H' {s with heap:=h',gens:=g',drawn:=d',toks:=t'}:=by
 have neL:∀b o,X.s₀.heap.get? b=some o->b≠X.env.locals:=fun b o e=>Nat.ne_of_lt (Nat.lt_of_lt_of_le (Heap.lt_size e) I.ok.above)
 have XM:∀b o,X.s₀.heap.get? b=some o->b∉X.ex->b∉ch:=fun b o e hx hb=>by
  rcases (hch b hb).1 with z|z
  ·exact hx z
  ·exact absurd (Nat.lt_of_lt_of_le (Heap.lt_size e) z) (Nat.lt_irrefl _)
 have cellK:∀x c,X.env.cells.lookup x=some c -> ∀v,s.heap.IsCell c v->h'.IsCell c v:=fun x c e v ⟨o,ho,hd⟩=>by
  have Vh:c∉ch:=fun z=>(hch c z).2.2.1 x c e rfl
  by_cases hc:c∈X.fs
  ·obtain ⟨sl,q⟩:=slot c o (I.SQ x c e) hc Vh ho (I.jF x c e)
   exact ⟨_,q,hd⟩
  ·exact ⟨o,keep c o (I.SQ x c e) hc Vh ho (I.jF x c e),hd⟩
 refine ⟨I.ok,I.os,hg,⟨fun b o e n hb hx=> ?_,fun b o e n hb hx=> ?_,fun b o e n hx=> ?_,fun b o e hx=> ?_,fun b xs e=>tups b xs (I.base.tups b xs e),fun b o xs e=>ni b o xs (I.base.ni b o xs e),fun b ps e=> ?_⟩, ?_,fun x c e=> ?_, ?_,fun x c e=> ?_,fun p hp=> ?_,hok,I.len⟩
 ·exact keep b o (neL b o e) hb (XM b o e hx) (I.base.keep b o e n hb hx) (I.base.free b o e n hx)
 ·obtain ⟨sl,e1⟩:=I.base.slot b o e n hb hx
  obtain ⟨sl',e2⟩:=slot b _ (neL b o e) hb (XM b o e hx) e1 (I.base.free b o e n hx);exact ⟨sl',e2⟩
 ·obtain ⟨o',e1⟩:=I.base.there b o e hx
  exact free b o' (XM b o e hx) e1 (I.base.free b o e n hx)
 ·obtain ⟨o',e1⟩:=I.base.there b o e hx
  exact there b o' (XM b o e hx) e1
 ·obtain ⟨m1,e1⟩:=I.base.qt b ps e
  obtain ⟨m2,e2⟩:=qt b _ e1;exact ⟨m1++m2,by rw [e2,Array.append_assoc]⟩
 ·obtain ⟨m,hn,hl⟩:=I.loc
  refine ⟨m,ns m hn,fun i x v e1 e2 e3=> ?_⟩;obtain ⟨u,r,l⟩:=hl i x v e1 e2 e3;refine ⟨u,r, ?_⟩;rcases l with l|⟨k,c,e,z⟩
  ·exact .inl l
  ·exact .inr ⟨k,c,e,cellK x c e _ z⟩
 ·obtain ⟨v,z⟩:=I.cell x c e
  exact ⟨v,cellK x c e v z⟩
 ·obtain ⟨m,⟨o,_,_,ho,_⟩,_⟩:=I.loc
  exact free _ o (fun z=>(hch _ z).2.1 rfl) ho I.free
 ·obtain ⟨v,o,ho,hd⟩:=I.cell x c e
  exact free c o (fun z=>(hch c z).2.2.1 x c e rfl) ho (I.jF x c e)
 ·obtain ⟨e,n,ne,nf,d⟩:=I.pin p hp
  have Vh:p.1∉ch:=fun z=>(hch p.1 z).2.2.2 p hp rfl;exact ⟨keep p.1 p.2 ne nf Vh e n,free p.1 p.2 Vh e n,ne,nf,d⟩
theorem Inv.un {t':Nat} (I:Inv X pins σ H s) (u:Un X.fs [] H H' s.heap h') (hok:lM X.prog X.w H' h'):Inv X pins σ H' {s with heap:=h',toks:=t'}:=by
 obtain ⟨m,⟨o,es,ep,ho,r⟩,_⟩:=id I.loc;obtain ⟨sl,hL⟩:=u.any ho I.free (by simp)
 exact I.step (g':=s.gens) (d':=s.drawn) (ch:=[]) (fun _ z=>nomatch z) (fun b o _ hb _ e n=>u.keep b o e n hb (by simp)) (fun b o _ hb _ e n=>u.slot b o e n hb (by simp)) (fun b o _ e n=>u.free b o e n (by simp)) (fun b o _ e=>u.there b o e (by simp)) u.tups u.ni u.qt (fun m' hm=>by
  obtain ⟨o',es',ep',ho',r'⟩:=hm;rw [ho] at ho';cases ho';exact ⟨_,es',ep',hL,r'⟩) hok I.bare
theorem Inv.call {g':Array GenState} {t':Nat} {d':Drawn} {ch:List Addr} (I:Inv X pins σ H s) (u:Un (frs X.stack) ch H H' s.heap h') (hok:lM X.prog X.w H' h') (hg:AllBare g')
 (hch:∀b∈ch,(b∈X.ex\/X.s₀.heap.objs.size<=b)/\b≠X.env.locals/\(∀x c,X.env.cells.lookup x=some c->c≠b) /\ ∀p∈X.pn++pins,p.1≠b):
 Inv X pins σ H' {s with heap:=h',gens:=g',drawn:=d',toks:=t'}:=by
 obtain ⟨m,⟨o,es,ep,ho,r⟩,_⟩:=id I.loc;obtain ⟨sl,hL⟩:=u.any ho I.free fun z=>(hch _ z).2.1 rfl
 exact I.step (ch:=ch) hch (fun b o hL hb hc e n=>u.keep b o e n (fun z=>(List.mem_cons.mp (I.oK b z)).elim hL hb) hc) (fun b o _ _ hc e n=>u.any e n hc) (fun b o hc e n=>u.free b o e n hc) (fun b o hc e=>u.there b o e hc) u.tups u.ni u.qt (fun m' hm=>by
  obtain ⟨o',es',ep',ho',r'⟩:=hm;rw [ho] at ho';cases ho';exact ⟨_,es',ep',hL,r'⟩) hok hg
theorem Inv.turned {t':Nat} {it:Addr} (I:Inv X pins σ H s) (k:∀b o,b≠it->s.heap.get? b=some o->h'.get? b=some o) (hn:H it=none) (hL:it≠X.env.locals)
 (h1:it∈X.ex\/X.s₀.heap.objs.size<=it) (h2:∀x c,X.env.cells.lookup x=some c->c≠it) (h3:∀p∈X.pn++pins,p.1≠it):Inv X pins σ H {s with heap:=h',toks:=t'}:=by
 have M5:∀b u,H b=some u->b≠it:=fun b u e z=>by rw [z,hn] at e;cases e
 refine I.step (g':=s.gens) (d':=s.drawn) (ch:=[it]) (fun b hb=> ?_) (fun b o _ _ hc e _=>k b o (fun z=>hc (by simp [z])) e) (fun b o _ _ hc e _=>⟨o.slots,k b o (fun z=>hc (by simp [z])) e⟩) (fun _ _ _ _ n=>n)
  (fun b o hc e=>⟨o,k b o (fun z=>hc (by simp [z])) e⟩) (fun _ _ e=>e) (fun _ _ _ e=>e) (fun b ps e=>⟨#[],by rw [e];simp⟩) (fun m hm=> ?_) (fun b u e=> ?_) I.bare
 ·have e:b=it:=by simpa using hb
  subst e;exact ⟨h1,hL,h2,h3⟩
 ·obtain ⟨o,es,ep,ho,r⟩:=hm
  exact ⟨o,es,ep,k _ o (Ne.symm hL) ho,r⟩
 ·refine (I.hok b u e).stay (fun c v hc q=>k c v ?_ q) (fun _ q=>q) fun _ _ q=>q
  rcases hc with z|z
  ·rw [z];exact M5 b u e
  ·exact M5 c _ z
theorem Inv.tok (I:Inv X pins σ H s) (t:Nat):Inv X pins σ H {s with toks:=t}:=I.un (h':=s.heap) (t':=t) Un.refl I.hok
theorem Inv.kept {t':Nat} (I:Inv X pins σ H s) (k:∀b u,s.heap.get? b=some u->h'.get? b=some u):Inv X pins σ H {s with heap:=h',toks:=t'}:=I.un (Un.kept k) (I.hok.kept k)
theorem Inv.laid {a:Addr} {o:HO} {t':Nat} (I:Inv X pins σ H s) (k:∀b u,s.heap.get? b=some u->h'.get? b=some u) (hp:s.heap.objs.size<=a) (new:bD X.prog X.w (upd H a o) h' a o):
 Inv X pins σ (upd H a o) {s with heap:=h',toks:=t'}:=I.un (Un.laid k hp (I.hok.fresh hp)) (I.hok.laid k hp new)
theorem Inv.write {x e:Addr} {o:HO} {t':Nat} (I:Inv X pins σ H s) (mu:Xj (H x)) (he:e=x\/H e=some (.own x)) (k:∀b u,b≠e->s.heap.get? b=some u->h'.get? b=some u) (heo:∃u,h'.get? e=some u)
 (new:bD X.prog X.w (upd H x o) h' x o):Inv X pins σ (upd H x o) {s with heap:=h',toks:=t'}:=I.un (Un.write mu he k heo) (I.hok.write mu he k heo new)
theorem Inv.qR {jE:List (Addr×Obj)} (I:Inv X pins σ H s) (h:∀p∈jE,s.heap.get? p.1=some p.2/\H p.1=none/\p.1≠X.env.locals/\p.1∉X.fs /\ ∀v,p.2.data ≠ .cell v):Inv X jE σ H s:=
 ⟨I.ok,I.os,I.bare,I.base,I.loc,I.cell,I.free,I.jF,fun p hp=>(List.mem_append.mp hp).elim (fun z=>I.pin p (List.mem_append_left _ z)) (h p),I.hok,I.len⟩
theorem yI {N:List Str} (hN:N.Nodup) {i j:Nat} {x:Str} (a:N[i]? = some x) (b:N[j]? = some x):i=j:=by
 obtain ⟨h1,e1⟩:=List.getElem?_eq_some_iff.mp a;obtain ⟨h2,e2⟩:=List.getElem?_eq_some_iff.mp b;exact (List.getElem_inj hN).mp (e1.trans e2.symm)
theorem uR {M:Model} {A:Around} {E:Value->Shared->Prop} {i:Nat} {x:Str} {v:V} {u:Value} {Q:Unit->Shared->Prop} (I:Inv X pins σ H s) (hN:X.N.Nodup) (hi:X.N[i]? = some x) (hx:Loc X.env.scope x) (r:RelV v u)
 (h:∀s',Inv X pins (σ.set i (some v)) H s'->(∃a,Heap.SameBut a s.heap s'.heap/\(a=X.env.locals\/X.env.cells.lookup x=some a))->Q () s') (hf:X.fn x=true\/X.env.scope.names.lookup x=some .local:=by first |exact .inl rfl|exact .inr rfl|assumption):wpAny M A (storeName X.env x u) Q E s:=by
 obtain ⟨m,hn,hl⟩:=id I.loc;have hcls:(X.env.scope.kind == .class||(X.env.scope.kind == .module&&X.env.locals != X.env.globals))=false:=by rw [I.ok.kind];rfl
 have afk:i<σ.length:=by rw [I.len];exact (List.getElem?_eq_some_iff.mp hi).1
 have SQ:=I.SQ
 have tracked:∀{a:Addr} {h':Heap},(∃o,s.heap.get? a=some o/\H a=none)->Heap.SameBut a s.heap h'->lM X.prog X.w H h':=fun {a h'} ha hs b ob e=>by
  obtain ⟨_,_,hfree⟩:=ha;refine (I.hok b ob e).stay (fun c w' hc q=>(hs.2 c ?_).trans q) (fun _ q=>q) fun _ _ q=>q;rintro rfl;rcases hc with rfl|hc
  ·rw [hfree] at e;cases e
  ·rw [hfree] at hc;cases hc
 rcases hx with hk|hk
 ·refine wpAny_storeName_local hk hn (fun h' hn' hs=> ?_) hcls
  obtain ⟨oL,_,_,hoL,_⟩:=id hn;refine h _ ⟨I.ok,I.os,I.bare,⟨fun b o e n hb hx=> ?_,fun b o e n hb hx=> ?_,I.base.free,fun b o e hx=> ?_,I.base.tups,I.base.ni,I.base.qt⟩,⟨_,hn',fun j y v' e1 e2 e3=> ?_⟩,fun y c e=> ?_,I.free,I.jF,fun p hp=> ?_,tracked ⟨oL,hoL,I.free⟩ hs,by simpa using I.len⟩ ⟨_,hs,.inl rfl⟩
  ·exact (hs.2 b (Nat.ne_of_lt (Nat.lt_of_lt_of_le (Heap.lt_size e) I.ok.above))).trans (I.base.keep b o e n hb hx)
  ·obtain ⟨sl,e1⟩:=I.base.slot b o e n hb hx
   exact ⟨sl,(hs.2 b (Nat.ne_of_lt (Nat.lt_of_lt_of_le (Heap.lt_size e) I.ok.above))).trans e1⟩
  ·obtain ⟨o',e1⟩:=I.base.there b o e hx
   exact ⟨o',(hs.2 b (Nat.ne_of_lt (Nat.lt_of_lt_of_le (Heap.lt_size e) I.ok.above))).trans e1⟩
  ·by_cases hj:j=i
   ·subst hj
    rw [hi] at e1;cases e1;rw [List.getElem?_set_self afk] at e2;cases e2;exact ⟨u,r,.inl ⟨hk,by simp⟩⟩
   ·rw [List.getElem?_set_ne (Ne.symm hj)] at e2
    obtain ⟨u',r',q⟩:=hl j y v' e1 e2 e3;refine ⟨u',r', ?_⟩;rcases q with ⟨k,e⟩|⟨k,c,e,z⟩
    ·refine .inl ⟨k, ?_⟩
     have:y≠x:=fun e=>hj (yI hN e1 (e▸hi));simp [this,e]
    ·exact .inr ⟨k,c,e,z.sameBut hs (SQ y c e)⟩
  ·obtain ⟨w',z⟩:=I.cell y c e
   exact ⟨w',z.sameBut hs (SQ y c e)⟩
  ·obtain ⟨e,n,ne,nf,d⟩:=I.pin p hp
   exact ⟨(hs.2 p.1 ne).trans e,n,ne,nf,d⟩
 ·have hfn:X.fn x=true:=by
   rcases hf with z|z
   ·exact z
   ·rw [z] at hk;cases hk
  obtain ⟨c,hc⟩:=I.ok.has x (.inl hk);obtain ⟨w',z⟩:=I.cell x c hc;refine wpAny_storeName_cell I.ok.kind hk hc z (fun h' hc' hs=> ?_);obtain ⟨oc,hoc,acG⟩:=id z;refine h {s with heap:=h'} ⟨I.ok,I.os,I.bare,⟨fun b o e n hb hx=> ?_,fun b o e n hb hx=> ?_,I.base.free,fun b o e hx=> ?_,I.base.tups,I.base.ni,I.base.qt⟩,⟨m,hn.sameBut hs (Ne.symm (SQ x c hc)),fun j y v' e1 e2 e3=> ?_⟩,fun y c' e=> ?_,I.free,I.jF,fun p hp=> ?_,tracked ⟨oc,hoc,I.jF x c hc⟩ hs,by simpa using I.len⟩ ⟨c,hs,.inr hc⟩
  ·exact (hs.2 b (Nat.ne_of_lt (Nat.lt_of_lt_of_le (Heap.lt_size e) (I.ok.cab x c hfn hc)))).trans (I.base.keep b o e n hb hx)
  ·obtain ⟨sl,e1⟩:=I.base.slot b o e n hb hx
   exact ⟨sl,(hs.2 b (Nat.ne_of_lt (Nat.lt_of_lt_of_le (Heap.lt_size e) (I.ok.cab x c hfn hc)))).trans e1⟩
  ·obtain ⟨o',e1⟩:=I.base.there b o e hx
   exact ⟨o',(hs.2 b (Nat.ne_of_lt (Nat.lt_of_lt_of_le (Heap.lt_size e) (I.ok.cab x c hfn hc)))).trans e1⟩
  ·by_cases hj:j=i
   ·subst hj
    rw [hi] at e1;cases e1;rw [List.getElem?_set_self afk] at e2;cases e2;exact ⟨u,r,.inr ⟨.inl hk,c,hc,hc'⟩⟩
   ·rw [List.getElem?_set_ne (Ne.symm hj)] at e2
    obtain ⟨u',r',q⟩:=hl j y v' e1 e2 e3;refine ⟨u',r', ?_⟩;rcases q with q|⟨k,c',e,z'⟩
    ·exact .inl q
    ·refine .inr ⟨k,c',e,z'.sameBut hs ?_⟩
     rintro rfl;exact hj (yI hN e1 (I.ok.inj _ _ _ e hc▸hi))
  ·by_cases hcc:c'=c
   ·subst hcc;exact ⟨_,hc'⟩
   ·obtain ⟨w2,z2⟩:=I.cell y c' e
    exact ⟨w2,z2.sameBut hs hcc⟩
  ·obtain ⟨e,n,ne,nf,d⟩:=I.pin p hp
   refine ⟨(hs.2 p.1 ?_).trans e,n,ne,nf,d⟩;intro q;rw [q,hoc] at e;have q':oc=p.2:=Option.some.inj e;exact d w' (by rw [←q'];exact acG)
theorem yc {M:Model} {A:Around} {E:Value->Shared->Prop} {i:Nat} {x:Str} {v:V} {u:Value} {Q:Unit->Shared->Prop} (I:Inv X pins σ H s) (hN:X.N.Nodup) (hi:X.N[i]? = some x) (hx:Loc X.env.scope x) (r:RelV v u)
 (h:∀s',Inv X pins (σ.set i (some v)) H s'->Q () s') (hf:X.fn x=true\/X.env.scope.names.lookup x=some .local:=by first |exact .inl rfl|exact .inr rfl|assumption):wpAny M A (storeName X.env x u) Q E s:=
 uR I hN hi hx r (fun s' I' _=>h s' I') hf
theorem Inv.call' {s':Shared} {ch:List Addr} (I:Inv X pins σ H s) (ho:s'.os=s.os) (u:Un (frs X.stack) ch H H' s.heap s'.heap) (hok:lM X.prog X.w H' s'.heap) (hg:AllBare s'.gens)
 (hch:∀b∈ch,(b∈X.ex\/X.s₀.heap.objs.size<=b)/\b≠X.env.locals/\(∀x c,X.env.cells.lookup x=some c->c≠b) /\ ∀p∈X.pn++pins,p.1≠b):Inv X pins σ H' s':=by
 obtain ⟨h',g',d',t',o'⟩:=s';have e:o'=s.os:=ho;subst e;exact I.call (g':=g') (t':=t') (d':=d') u hok hg hch
end
abbrev XK:=Value->Option Addr->Hp->Prop
abbrev St:=List (Option V)
abbrev VK:=V->Hp->Prop
abbrev TE:=St->Hp->VK->Prop
abbrev TT:=St->Hp->(Bool->Hp->Prop)->Prop
abbrev TA:=St->Hp->(List V->Hp->Prop)->Prop
structure Ends where
 nx:St->Hp->Prop
 rt:VK
 bk:St->Hp->Prop:=fun _ _=>False
 ct:St->Hp->Prop:=fun _ _=>False
abbrev TS:=Ends->St->Hp->Prop
def EP (X:Cx) (pins:List (Addr×Obj)) (σ:St) (Q:VK) (u:Value) (s':Shared):Prop:=∃v H',Inv X pins σ H' s'/\RelV v u/\Q v H'
def TP (X:Cx) (pins:List (Addr×Obj)) (σ:St) (Q:Bool->Hp->Prop) (b:Bool) (s':Shared):Prop:=∃H',Inv X pins σ H' s'/\Q b H'
def AP (X:Cx) (pins:List (Addr×Obj)) (σ:St) (Q:List V->Hp->Prop) (us:List Value) (s':Shared):Prop:=∃vs H',Inv X pins σ H' s'/\Vals vs us/\Q vs H'
def SP (X:Cx) (pins:List (Addr×Obj)) (D:Ends) (f:Flow) (s':Shared):Prop:=
 match f with
 | .next=>∃σ' H',Inv X pins σ' H' s'/\D.nx σ' H'
 | .brk=>∃σ' H',Inv X pins σ' H' s'/\D.bk σ' H'
 | .cont=>∃σ' H',Inv X pins σ' H' s'/\D.ct σ' H'
 | .ret u=>∃v σ' H',Inv X pins σ' H' s'/\RelV v u/\D.rt v H'
def PE (X:Cx) (e:Expr) (t:TE):Prop:=
 ∀(pins:List (Addr×Obj)) (s:Shared) (σ:St) (H:Hp) (Q:VK),Inv X pins σ H s->t σ H Q->wpAny (model X.prog X.w) X.A (eval e X.env) (EP X pins σ Q) X.xe s
def PT (X:Cx) (e:Expr) (t:TT):Prop:=
 ∀(pins:List (Addr×Obj)) (s:Shared) (σ:St) (H:Hp) (Q:Bool->Hp->Prop),Inv X pins σ H s->t σ H Q->wpAny (model X.prog X.w) X.A (isTrue e X.env (eval e X.env)) (TP X pins σ Q) X.xe s
def PW (X:Cx) (e:Expr) (t:TT):Prop:=
 ∀(whole:Sem Value) (pins:List (Addr×Obj)) (s:Shared) (σ:St) (H:Hp) (Q:Bool->Hp->Prop),Inv X pins σ H s->t σ H Q->wpAny (model X.prog X.w) X.A (isTrue e X.env whole) (TP X pins σ Q) X.xe s
theorem PW.pt {X:Cx} {e:Expr} {t:TT} (h:PW X e t):PT X e t:=h _
def PA (X:Cx) (es:List Expr) (t:TA):Prop:=
 ∀(pos:Pos) (pins:List (Addr×Obj)) (s:Shared) (σ:St) (H:Hp) (Q:List V->Hp->Prop),Inv X pins σ H s->t σ H Q->wpAny (model X.prog X.w) X.A (spliced (backTo pos (starEach es X.env))) (AP X pins σ Q) X.xe s
def PS (X:Cx) (st:Stmt) (t:TS):Prop:=
 ∀(pins:List (Addr×Obj)) (s:Shared) (σ:St) (H:Hp) (D:Ends),Inv X pins σ H s->t D σ H->wpAny (model X.prog X.w) X.A (exec st X.env) (SP X pins D) X.xe s
def Eo (X:Cx) (st:List Stmt) (t:TS):Prop:=
 ∀(pins:List (Addr×Obj)) (s:Shared) (σ:St) (H:Hp) (D:Ends),Inv X pins σ H s->t D σ H->wpAny (model X.prog X.w) X.A (execs st X.env) (SP X pins D) X.xe s
theorem cM {α:Type} {t:Sem α} {Q Q':α->Shared->Prop} {M:Model} {A:Around} {E:Value->Shared->Prop} {s:Shared} (h:wpAny M A t Q E s) (hQ:∀a s,Q a s->Q' a s):wpAny M A t Q' E s:=wpAny_mono h hQ fun _ _ x=>x
end L2
namespace L2
open PySem PySem.Spec PyProof.Rows
section
variable {X:Cx}
def jh (i:Nat):TE:=fun σ H Q=>∃v,σ[i]? = some (some v)/\Q v H
def tC (v:V):TE:=fun _ H Q=>Q v H
theorem QX {i:Nat} {x:Str} {pos:Pos} (hN:X.N[i]? = some x) (hv:Vis X.env.scope x) (hd:(x==("__debug__" :Str))=false:=by decide) (hcd:(x==("__classdict__" :Str))=false:=by decide):PE X (.Name x pos) (jh i):=by
 intro pins s σ H Q I h;obtain ⟨v,e,h⟩:=h;obtain ⟨m,hn,hl⟩:=I.loc;obtain ⟨u,r,l⟩:=hl i x v hN e hv;have fin:EP X pins σ Q u s:=⟨v,H,I,r,h⟩;rcases l with ⟨hk,hm⟩|⟨hk,c,hc,hcell⟩
 ·exact wpAny_Name (wpAny_loadName_local I.ok.kind hk hn hm fin) hd
 ·rcases hk with hk|hk
  ·exact wpAny_Name (wpAny_loadName_cell I.ok.kind hk hc hcell fin) hd
  ·exact wpAny_Name (wpAny_loadName_free I.ok.kind hk hc hcell fin hcd) hd
theorem aA {i j pos}:PE X (.Constant (.int i) j pos) (tC (.int i)):=fun _ _ _ H _ I h=>wpAny_Constant_int ⟨.int i,H,I.tok _,⟨_,rfl⟩,h⟩
theorem jk {b j pos}:PE X (.Constant (.bool b) j pos) (tC (.bl b)):=fun _ _ _ H _ I h=>Constant_bool ⟨.bl b,H,I,rfl,h⟩
theorem iY {x j pos}:PE X (.Constant (.str x) j pos) (tC (.str x)):=fun _ _ _ H _ I h=>Calls.Constant_str ⟨.str x,H,I.tok _,⟨_,rfl⟩,h⟩
def Gl (X:Cx) (x:Str):Prop:=X.env.kindOf x=some .globalImplicit
theorem M8 {E:Value->Shared->Prop} {pins:List (Addr×Obj)} {s:Shared} {σ:St} {H:Hp} {x:Str} {u:Value} {pos:Pos} {Q:Value->Shared->Prop} (I:Inv X pins σ H s) (hg:Gl X x) (hm:X.mg x=some u) (h:Q u s)
 (hd:(x==("__debug__" :Str))=false:=by decide):wpAny (model X.prog X.w) X.A (eval (.Name x pos) X.env) Q E s:=
 Calls.Name_function_global I.ok.kind hg (Calls.loadGlobal_global (by rw [I.ok.glob];exact I.mod.glob.keeps I.bk) hm h) hd
theorem m6 {E:Value->Shared->Prop} {pins:List (Addr×Obj)} {s:Shared} {σ:St} {H:Hp} {x:Str} {u:Value} {pos:Pos} {Q:Value->Shared->Prop} (I:Inv X pins σ H s) (hg:Gl X x) (hm:X.mg x=none) (hv:bootBuiltins x=some u) (h:Q u s)
 (hn:x ≠ "__name__" :=by decide) (hd:(x==("__debug__" :Str))=false:=by decide):wpAny (model X.prog X.w) X.A (eval (.Name x pos) X.env) Q E s:=by
 obtain ⟨mb,h1,h2⟩:=I.mod.blt;exact Calls.Name_function_global I.ok.kind hg (Calls.loadGlobal_builtin (by rw [I.ok.glob];exact I.mod.glob.keeps I.bk) hm (by rw [I.ok.blt];exact h1.keeps I.bk) ((h2 x hn).trans hv) h) hd
theorem wA {x:Str} {v:V} {u:Value} {pos:Pos} (hg:Gl X x) (hm:X.mg x=none) (hv:bootBuiltins x=some u) (r:RelV v u) (hn:x ≠ "__name__" :=by decide) (hd:(x==("__debug__" :Str))=false:=by decide):PE X (.Name x pos) (tC v):=
 fun _ _ _ H _ I h=>m6 I hg hm hv ⟨v,H,I,r,h⟩ hn hd
variable {a b:Expr} {ta tb:TE} {pos:Pos}
def PC (X:Cx) (op:CmpOp) (a b:Expr) (t:TE):Prop:=
 ∀(pins:List (Addr×Obj)) (s:Shared) (σ:St) (H:Hp) (Q:VK),Inv X pins σ H s->t σ H Q ->
  wpAny (model X.prog X.w) X.A (eval a X.env) (fun v s₁=>wpAny (model X.prog X.w) X.A (eval b X.env) (fun u s₂=>wpAny (model X.prog X.w) X.A (compareOp op v u) (EP X pins σ Q) X.xe s₂) X.xe s₁) X.xe s
theorem Jp (b:Expr) {op:CmpOp} (h:op ≠ .In) (h2:op ≠ .NotIn):behindInMarks op b=false:=by
 have e1:(op==CmpOp.In)=false:=by cases op<;>first |rfl|exact absurd rfl h
 have e2:(op==CmpOp.NotIn)=false:=by cases op<;>first |rfl|exact absurd rfl h2
 cases b<;>simp [behindInMarks,e1,e2]
def tB (t:TE):TT:=fun σ H Q=>t σ H fun x H1=>∃c,x = .bl c/\Q c H1
theorem Ik {op:CmpOp} {t:TE} (h:PC X op a b t) (h1:behindInMarks op b=false:=by first |exact Jp _ (by decide) (by decide)|rfl):PT X (.Compare a [op] [b] pos) (tB t):=by
 intro pins s σ H Q I hw;refine wpAny_isTrue_Compare1 (cM (h pins s σ H _ I hw) fun v s1 h1=>cM h1 fun u s2 h2=>cM h2 fun c s3 ⟨x,H1,I1,r1,q1⟩=> ?_) h1;obtain ⟨d,rfl,q⟩:=q1;cases r1;exact wpAny_truthy_bool ⟨H1,I1,q⟩
theorem gZ {e:Expr} {t:TE} (h:PE X e t) (he:∀whole,isTrue e X.env whole=(do let v ←whole;standAt e.pos;holding [v] (truthy v)):=by intro _;rfl):PT X e (tB t):=by
 intro pins s σ H Q I hw;refine isTrue_plain (cM (h pins s σ H _ I hw) fun v s1 ⟨x,H1,I1,r1,q1⟩=> ?_) (he _);obtain ⟨d,rfl,q⟩:=q1;cases r1;exact wpAny_truthy_bool ⟨H1,I1,q⟩
variable {tA Xw:TT} {rest:List Expr}
def Zi (t u:TT):TT:=fun σ H Q=>t σ H fun c H1=>if c=true then u σ H1 Q else Q false H1
def tOr (t u:TT):TT:=fun σ H Q=>t σ H fun c H1=>if c=true then Q true H1 else u σ H1 Q
def Zf (t:TT):TT:=fun σ H Q=>t σ H fun c H1=>Q (!c) H1
theorem qO (ha:PT X a tA):PW X (.BoolOp .And [a] pos) tA:=by
 intro wh pins s σ H Q I h;refine isTrue_and (cM (ha pins s σ H Q I h) fun c s1 e=> ?_);cases c with
 | true=>exact isTrue_and_nil e
 | false=>exact e
theorem wk (ha:PT X a tA):PW X (.BoolOp .Or [a] pos) tA:=by
 intro wh pins s σ H Q I h;refine isTrue_or (cM (ha pins s σ H Q I h) fun c s1 e=> ?_);cases c with
 | false=>exact isTrue_or_nil e
 | true=>exact e
theorem wu (ha:PT X a tA) (hb:PW X (.BoolOp .And (b::rest) pos) Xw):PW X (.BoolOp .And (a::b::rest) pos) (Zi tA Xw):=by
 intro wh pins s σ H Q I h;refine isTrue_and (cM (ha pins s σ H _ I h) fun c s1 ⟨H1,I1,q1⟩=> ?_);cases c with
 | true=>exact hb wh pins s1 σ H1 Q I1 q1
 | false=>exact ⟨H1,I1,q1⟩
theorem yw (ha:PT X a tA) (hb:PW X (.BoolOp .Or (b::rest) pos) Xw):PW X (.BoolOp .Or (a::b::rest) pos) (tOr tA Xw):=by
 intro wh pins s σ H Q I h;refine isTrue_or (cM (ha pins s σ H _ I h) fun c s1 ⟨H1,I1,q1⟩=> ?_);cases c with
 | true=>exact ⟨H1,I1,q1⟩
 | false=>exact hb wh pins s1 σ H1 Q I1 q1
theorem lC (ha:PT X a tA):PT X (.UnaryOp .Not a pos) (Zf tA):=by
 intro pins s σ H Q I h;exact isTrue_not (ha pins s σ H (fun c H1=>Q (!c) H1) I h)
def Us (ta tb:TE):TE:=fun σ H Q=>ta σ H fun x H1=>∃c,x = .bl c/\if c=true then tb σ H1 Q else Q (.bl false) H1
def Uh (ta tb:TE):TE:=fun σ H Q=>ta σ H fun x H1=>∃c,x = .bl c/\if c=true then Q (.bl true) H1 else tb σ H1 Q
def Ui (ta:TE):TE:=fun σ H Q=>ta σ H fun x H1=>∃c,x = .bl c/\Q (.bl (!c)) H1
theorem o8 {op} {t:TE} (h:PE X a t):PE X (.BoolOp op [a] pos) t:=fun pins s σ H Q I hw=>BoolOp_one (h pins s σ H Q I hw)
theorem rW (ha:PE X a ta) (hb:PE X (.BoolOp .And (b::rest) pos) tb):PE X (.BoolOp .And (a::b::rest) pos) (Us ta tb):=by
 intro pins s σ H Q I h;refine BoolOp_and (cM (ha pins s σ H _ I h) fun v s1 ⟨x,H1,I1,r1,q1⟩=> ?_);obtain ⟨c,rfl,q1⟩:=q1;cases r1;refine wpAny_truthy_bool ?_;cases c with
 | true=>exact hb pins s1 σ H1 Q I1 q1
 | false=>exact ⟨.bl false,H1,I1,rfl,q1⟩
theorem O5 (ha:PE X a ta) (hb:PE X (.BoolOp .Or (b::rest) pos) tb):PE X (.BoolOp .Or (a::b::rest) pos) (Uh ta tb):=by
 intro pins s σ H Q I h;refine BoolOp_or (cM (ha pins s σ H _ I h) fun v s1 ⟨x,H1,I1,r1,q1⟩=> ?_);obtain ⟨c,rfl,q1⟩:=q1;cases r1;refine wpAny_truthy_bool ?_;cases c with
 | false=>exact hb pins s1 σ H1 Q I1 q1
 | true=>exact ⟨.bl true,H1,I1,rfl,q1⟩
theorem QZ (ha:PE X a ta):PE X (.UnaryOp .Not a pos) (Ui ta):=by
 intro pins s σ H Q I h;refine UnaryOp_ (cM (ha pins s σ H _ I h) fun v s1 ⟨x,H1,I1,r1,q1⟩=> ?_);obtain ⟨c,rfl,q1⟩:=q1;cases r1;exact not_of (wpAny_truthy_bool ⟨.bl (!c),H1,I1,rfl,q1⟩)
end
end L2
namespace L2
open PySem PySem.Spec PyProof.Rows
def bh (K:PySem.W.Frag) (H:Hp) (a:Addr) (xs:List V):Prop:=
 Rd H a (.lst xs) \/
  ∃(o:Obj) (its:Array Value) (n:Nat),K.lookup a=some o/\o.cls = .type "list" /\ o.dict=none/\o.data = .seq its n/\its.size<=sizeLine/\Vals xs its.toList
def cJ (K:PySem.W.Frag) (H:Hp) (a:Addr) (xs:List V):Prop:=
 Rd H a (.tup xs) \/
  ∃(o:Obj) (its:Array Value) (n:Nat),K.lookup a=some o/\o.cls = .type "tuple" /\ o.data = .seq its n/\its.size<=sizeLine/\Vals xs its.toList
def aeh:Value->Option V
 | .none=>some .non
 | .bool b=>some (.bl b)
 | .int i _=>some (.int i)
 | .str x _=>some (.str x)
 | .bytes b _=>some (.zZ b)
 | .float b _=>some (.flt b)
 | .ref a=>some (.ref a)
 | .type n=>some (.ty n)
 | _=>none
theorem RelV.abs {x:V} {u:Value} (r:RelV x u):aeh u=some x:=by
 cases x with
 | non=>cases r;rfl
 | bl _=>cases r;rfl
 | int _=>obtain ⟨t,rfl⟩:=r;rfl
 | str _=>obtain ⟨t,rfl⟩:=r;rfl
 | zZ _=>obtain ⟨t,rfl⟩:=r;rfl
 | flt _=>obtain ⟨t,rfl⟩:=r;rfl
 | ref _=>cases r;rfl
 | ty _=>cases r;rfl
theorem RelV.inj {x y:V} {u:Value} (r:RelV x u) (q:RelV y u):x=y:=Option.some.inj (r.abs.symm.trans q.abs)
theorem Vals.inj {xs ys:List V} {us:List Value} (h:Vals xs us) (h':Vals ys us):xs=ys:=by
 induction h generalizing ys with
 | nil=>cases h';rfl
 | cons r t ih=>cases h' with
   | cons r' t'=>rw [r.inj r',ih t']
section
variable {X:Cx} {pins:List (Addr×Obj)} {σ:St} {H:Hp} {s:Shared} {a:Addr} {xs ys:List V}
theorem bh.of {K:PySem.W.Frag} (h:H a=some (.lst xs)):bh K H a xs:= .inl (.inl h)
theorem cJ.of {K:PySem.W.Frag} (h:H a=some (.tup xs)):cJ K H a xs:= .inl (.inl h)
theorem Inv.list (I:Inv X pins σ H s) (h:bh X.K H a xs):∃its:List Value,Vals xs its/\PlainL s.heap a its.toArray/\xs.length<=sizeLine:=by
 rcases h with h|⟨o,its,n,hk,hc,hd,hs,hz,r⟩
 ·obtain ⟨z,its,n,r,e⟩:=h.ok I.hok
  exact ⟨its,r,⟨_,n,e,rfl,rfl,rfl⟩,z⟩
 ·refine ⟨its.toList,r,⟨o,n,I.xK a o hk,hc,hd,by simpa using hs⟩, ?_⟩
  have e:=r.length;simp only [Array.length_toList] at e;omega
theorem Inv.tuple (I:Inv X pins σ H s) (h:cJ X.K H a xs):∃its:List Value,Vals xs its/\IsTup s.heap a its.toArray/\xs.length<=sizeLine:=by
 rcases h with h|⟨o,its,n,hk,hc,hs,hz,r⟩
 ·obtain ⟨z,its,r,p⟩:=h.ok I.hok
  exact ⟨its,r,p,z⟩
 ·refine ⟨its.toList,r,⟨o,I.xK a o hk,hc,n,by simpa using hs⟩, ?_⟩
  have e:=r.length;simp only [Array.length_toList] at e;omega
theorem Inv.yP (I:Inv X pins σ H s) (h:bh X.K H a xs) (h':bh X.K H a ys):xs=ys:=by
 obtain ⟨its,r,⟨o,n,e,_,_,d⟩,_⟩:=I.list h;obtain ⟨its',r',⟨o',n',e',_,_,d'⟩,_⟩:=I.list h';rw [e] at e';cases e';rw [d] at d';injection d' with d1 _
 have:its=its':=by simpa using congrArg Array.toList d1
 subst this;exact r.inj r'
theorem Inv.Fb (I:Inv X pins σ H s) (h:cJ X.K H a xs) (h':cJ X.K H a ys):xs=ys:=by
 obtain ⟨its,r,⟨o,e,_,n,d⟩,_⟩:=I.tuple h;obtain ⟨its',r',⟨o',e',_,n',d'⟩,_⟩:=I.tuple h';rw [e] at e';cases e';rw [d] at d';injection d' with d1 _
 have:its=its':=by simpa using congrArg Array.toList d1
 subst this;exact r.inj r'
end
abbrev Cx.wish (X:Cx) (E:Value->Shared->Prop):Cx:={X with xe:=E}
abbrev Cx.Rf (X:Cx):Cx:=X.wish fun _ _=>False
theorem Cx.Ok.wish {X:Cx} (ok:X.Ok) (E:Value->Shared->Prop):(X.wish E).Ok:=
 ⟨ok.mod,ok.kind,ok.glob,ok.blt,ok.above,ok.inj,ok.has,ok.cab,ok.hd,ok.frames,ok.stk,ok.exf,ok.bs,ok.KJ,ok.Gb,ok.NZ,ok.qG,ok.Sd⟩
theorem Cx.Ok.kW {X:Cx} {E:Value->Shared->Prop} (ok:(X.wish E).Ok):X.Ok:=
 ⟨ok.mod,ok.kind,ok.glob,ok.blt,ok.above,ok.inj,ok.has,ok.cab,ok.hd,ok.frames,ok.stk,ok.exf,ok.bs,ok.KJ,ok.Gb,ok.NZ,ok.qG,ok.Sd⟩
section
variable {X:Cx} {pins:List (Addr×Obj)} {σ:St} {H:Hp} {s:Shared} {E:Value->Shared->Prop}
theorem Inv.wish (I:Inv X pins σ H s) (E:Value->Shared->Prop):Inv (X.wish E) pins σ H s:=⟨I.ok.wish E,I.os,I.bare,I.base,I.loc,I.cell,I.free,I.jF,I.pin,I.hok,I.len⟩
theorem Inv.kW (I:Inv (X.wish E) pins σ H s):Inv X pins σ H s:=⟨I.ok.kW,I.os,I.bare,I.base,I.loc,I.cell,I.free,I.jF,I.pin,I.hok,I.len⟩
theorem SP.kW {D:Ends} {f:Flow} {s':Shared} (h:SP (X.wish E) pins D f s'):SP X pins D f s':=by
 cases f with
 | next=>obtain ⟨σ',H',I,q⟩:=h;exact ⟨σ',H',I.kW,q⟩
 | brk=>obtain ⟨σ',H',I,q⟩:=h;exact ⟨σ',H',I.kW,q⟩
 | cont=>obtain ⟨σ',H',I,q⟩:=h;exact ⟨σ',H',I.kW,q⟩
 | ret u=>obtain ⟨v,σ',H',I,r,q⟩:=h;exact ⟨v,σ',H',I.kW,r,q⟩
theorem Eo.Rf {st:List Stmt} {t:TS} (h:Eo X.Rf st t):Eo X st t:=fun pins s σ H D I hw=>
 wpAny_mono (h pins s σ H D (I.wish _) hw) (fun _ _ q=>q.kW) fun _ _ z=>False.elim z
end
section
variable {X:Cx} {st:Stmt} {rest:List Stmt} {t u:TS} {e:Expr} {te:TE} {pos:Pos}
def Hv:TS:=fun D σ H=>D.nx σ H
def vP (t u:TS):TS:=fun D σ H=>t {D with nx:=u D} σ H
theorem cG:Eo X [] Hv:=fun _ _ σ H _ I h=>wpAny_execs_nil ⟨σ,H,I,h⟩
theorem aB (h1:PS X st t) (h2:Eo X rest u):Eo X (st::rest) (vP t u):=by
 intro pins s σ H D I h;refine wpAny_execs_cons (cM (h1 pins s σ H {D with nx:=u D} I h) fun f s1 q=> ?_);cases f with
 | next=>
   obtain ⟨σ',H',I',q⟩:=q;exact h2 pins s1 σ' H' D I' q
 | ret v=>exact q
 | brk=>exact q
 | cont=>exact q
theorem aH (h1:PS X st t):Eo X [st] t:=by
 intro pins s σ H D I h;refine wpAny_execs_cons (cM (h1 pins s σ H D I h) fun f s1 q=> ?_);cases f with
 | next=>exact wpAny_execs_nil q
 | ret v=>exact q
 | brk=>exact q
 | cont=>exact q
theorem Inv.quiet {pins:List (Addr×Obj)} {σ:St} {H:Hp} {s:Shared} (I:Inv X pins σ H s):interactive X.env=false:=by simp [interactive,I.ok.kind]
def Hw (te:TE):TS:=fun D σ H=>te σ H fun _ H1=>D.nx σ H1
theorem dN (he:PE X e te) (hs:swapsWith e none pos.line X.env=pure false:=by rfl):PS X (.Expr e pos) (Hw te):=by
 intro pins s σ H D I h;exact wpAny_Expr_any (cM (he pins s σ H _ I h) fun v s1 ⟨x,H1,I1,r1,q1⟩=>⟨σ,H1,I1,q1⟩) I.quiet hs
def Lw (te:TE):TS:=fun D σ H=>te σ H D.rt
theorem aZ (he:PE X e te):PS X (.Return (some e) pos) (Lw te):=by
 intro pins s σ H D I h;exact wpAny_Return_some (cM (he pins s σ H _ I h) fun v s1 ⟨x,H1,I1,r1,q1⟩=>⟨x,σ,H1,I1,r1,q1⟩)
def Ul (c:TT) (t u:TS):TS:=fun D σ H=>c σ H fun b H1=>if b=true then t D σ H1 else u D σ H1
theorem fU {c:Expr} {a b:List Stmt} {tc:TT} (hc:PT X c tc) (ha:Eo X a t) (hb:Eo X b u):PS X (.If c a b pos) (Ul tc t u):=by
 intro pins s σ H D I h;refine wpAny_If (cM (hc pins s σ H _ I h) fun d s1 ⟨H1,I1,q1⟩=> ?_);cases d with
 | true=>exact ha pins s1 σ H1 D I1 q1
 | false=>exact hb pins s1 σ H1 D I1 q1
def Qk:TS:=fun _ _ _=>False
theorem yC:PS X st Qk:=fun _ _ _ _ _ _ h=>h.elim
end
abbrev TG:=V->St->Hp->(St->Hp->Prop)->Prop
abbrev P_:=List V->St->Hp->(St->Hp->Prop)->Prop
def PG (X:Cx) (target:Expr) (t:TG):Prop:=
 ∀(pins:List (Addr×Obj)) (s:Shared) (σ:St) (H:Hp) (v:V) (u:Value) (Q:St->Hp->Prop),Inv X pins σ H s->RelV v u->t v σ H Q ->
  wpAny (model X.prog X.w) X.A (assign target X.env u) (fun _ s'=>∃σ' H',Inv X pins σ' H' s'/\Q σ' H') X.xe s
def Xh (X:Cx) (ts:List Expr) (t:P_):Prop:=
 ∀(pins:List (Addr×Obj)) (s:Shared) (σ:St) (H:Hp) (vs:List V) (us:List Value) (Q:St->Hp->Prop),Inv X pins σ H s->Vals vs us->t vs σ H Q ->
  wpAny (model X.prog X.w) X.A (assignInOrder ((assignEach ts X.env).map (·.2)) us) (fun _ s'=>∃σ' H',Inv X pins σ' H' s'/\Q σ' H') X.xe s
abbrev Te:=V->V->V->Hp->(Hp->Prop)->Prop
def Xg (X:Cx) (t:Te):Prop:=
 ∀(pins:List (Addr×Obj)) (s:Shared) (σ:St) (H:Hp) (o i v:V) (ov iv u:Value) (Q:Hp->Prop),Inv X pins σ H s->RelV o ov->RelV i iv->RelV v u->t o i v H Q ->
  wpAny (model X.prog X.w) X.A (setItem ov iv u) (fun _ s'=>∃H',Inv X pins σ H' s'/\Q H') X.xe s
section
variable {X:Cx} {pos:Pos}
def iz (i:Nat):TG:=fun v σ H Q=>Q (σ.set i (some v)) H
theorem aV {i:Nat} {x:Str} (hN:X.N.Nodup) (hi:X.N[i]? = some x) (hx:Loc X.env.scope x) (hf:X.fn x=true\/X.env.scope.names.lookup x=some .local:=by first |exact .inl rfl|exact .inr rfl|assumption):PG X (.Name x pos) (iz i):=by
 intro pins s σ H v u Q I r h;exact wpAny_assign_Name (yc I hN hi hx r (fun s' I'=>⟨_,H,I',h⟩) hf)
def Wd:P_:=fun vs σ H Q=>vs=[]/\Q σ H
def DR (t:TG) (u:P_):P_:=fun vs σ H Q=>∃v r,vs=v::r/\t v σ H fun σ' H'=>u r σ' H' Q
theorem nM:Xh X [] Wd:=by
 intro pins s σ H vs us Q I r h;obtain ⟨e,h⟩:=h;subst e;cases r;exact assignInOrder_nil ⟨σ,H,I,h⟩
theorem d9 {e:Expr} {es:List Expr} {t:TG} {u:P_} (h1:PG X e t) (h2:Xh X es u)
 (hs:(assignEach (e::es) X.env).map (·.2)=assign e X.env::(assignEach es X.env).map (·.2):=by rfl):Xh X (e::es) (DR t u):=by
 intro pins s σ H vs us Q I r h;obtain ⟨v,vr,e1,h⟩:=h;subst e1;cases r with
 | cons r rr=>
   rw [hs];refine assignInOrder_cons (cM (h1 pins s σ H _ _ _ I r h) fun _ s1 ⟨σ1,H1,I1,q1⟩=> ?_);exact h2 pins s1 σ1 H1 _ _ Q I1 rr q1
def R_ (K:PySem.W.Frag) (n:Nat) (t:P_):TG:=fun v σ H Q=>∃a xs,v = .ref a/\cJ K H a xs/\xs.length=n/\t xs σ H Q
theorem QW {es:List Expr} {k:Nat} {t:P_} {n:Nat} (hc:X.calm=true) (h:Xh X es t)
 (hn:(assignEach es X.env).length=n:=by rfl) (hst:(assignEach es X.env).findIdx? (·.1)=none:=by rfl):PG X (.Tuple es k pos) (R_ X.K n t):=by
 intro pins s σ H v u Q I r hw;obtain ⟨a,xs,e1,hq,hl,hw⟩:=hw;subst e1;cases r;obtain ⟨its,rv,ht,hz⟩:=I.tuple hq;refine assign_Tuple_tuple (I.ok.hd hc) ht (by simp [hn,←hl,rv.length]) hst fun h' hx=> ?_;have I1:Inv X pins σ H {s with heap:=h'}:=I.kept (t':=s.toks) fun b o e=>hx b o (Nat.ne_of_lt (Heap.lt_size e)) e;exact h pins _ σ H xs _ Q I1 (by simpa using rv) hw
def acR (to ti:TE) (t:Te):TG:=fun v σ H Q=>to σ H fun o H1=>ti σ H1 fun i H2=>t o i v H2 fun H3=>Q σ H3
theorem Ax {o i:Expr} {to ti:TE} {t:Te} (ho:PE X o to) (hi:PE X i ti) (hs:Xg X t)
 (ha:∀v,assign (.Subscript o i pos) X.env v=(do
   let ov ←holding [v] (eval o X.env)
   let iv ←holding [v,ov] (eval i X.env)
   standAt pos
   holding [v,ov,iv] (setItem ov iv v)
   release [v,ov,iv] []):=by intro _;rfl):PG X (.Subscript o i pos) (acR to ti t):=by
 intro pins s σ H v u Q I r h;rw [ha];refine wpAny_bind (wpAny_holding (cM (ho pins s σ H _ I h) fun ov s1 ⟨x,H1,I1,r1,q1⟩=> ?_));refine wpAny_bind (wpAny_holding (cM (hi pins s1 σ H1 _ I1 q1) fun iv s2 ⟨y,H2,I2,r2,q2⟩=> ?_));refine wpAny_bind (wpAny_standAt (wpAny_bind (wpAny_holding (cM (hs pins s2 σ H2 x y v ov iv u _ I2 r1 r2 r q2) fun _ s3 ⟨H3,I3,q3⟩=> ?_))));exact wpAny_release ⟨σ,H3,I3,q3⟩
def Fd (te:TE) (g:TG):TS:=fun D σ H=>te σ H fun x H1=>g x σ H1 D.nx
theorem Ar {tg e:Expr} {te:TE} {g:TG} (he:PE X e te) (hg:PG X tg g) (hs:swapsWithSole [tg] e pos.line X.env=pure false:=by rfl) (hw:swappedStores [tg] e X.env=pure none:=by rfl)
 (h1:(assignEach [tg] X.env).map (·.2)=[assign tg X.env]:=by rfl):PS X (.Assign [tg] e pos) (Fd te g):=by
 intro pins s σ H D I h;refine wpAny_Assign_stores (cM (he pins s σ H _ I h) fun v s1 ⟨x,H1,I1,r1,q1⟩=> ?_) hs hw;rw [h1];exact cM (hg pins s1 σ H1 x v _ I1 r1 q1) fun _ s2 q=>q
theorem aO {i:Nat} {x:Str} {e:Expr} {te:TE} {pos':Pos} (hN:X.N.Nodup) (hi:X.N[i]? = some x) (hx:Loc X.env.scope x) (he:PE X e te) (hs:swapsWith e (some (.Name x pos')) pos.line X.env=pure false:=by rfl) (hf:X.fn x=true\/X.env.scope.names.lookup x=some .local:=by first |exact .inl rfl|exact .inr rfl|assumption):
 PS X (.Assign [.Name x pos'] e pos) (Fd te (iz i)):=by
 intro pins s σ H D I h;refine wpAny_Assign_Name (cM (he pins s σ H _ I h) fun v s1 ⟨y,H1,I1,r1,q1⟩=> ?_) hs;exact yc I1 hN hi hx r1 (fun s2 I2=>⟨_,H1,I2,q1⟩) hf
end
section
variable {X:Cx} {pos:Pos}
def Qj (c:TT) (tb:TS):TS:=fun D σ H=>∃W:Nat->St->Hp->Prop,(∃m,W m σ H) /\ ∀m σ H,W m σ H ->
 c σ H fun b H1=>if b=true then ∃N:St->Hp->Prop,(∀σ' H',N σ' H' -> ∃m',m'<m/\W m' σ' H')/\tb {D with nx:=N,ct:=N,bk:=D.nx} σ H1 else D.nx σ H1
theorem Il {c:Expr} {body:List Stmt} {tc:TT} {tb:TS} (hp:PassesOwn (model X.prog X.w) X.A X.env X.xe) (hc:PT X c tc) (hb:Eo X body tb):PS X (.While c body [] pos) (Qj tc tb):=by
 intro pins s σ H D I h;obtain ⟨W,⟨m0,w0⟩,turn⟩:=h;refine wpAny_While (codeAny_whileLoop (fun n s'=>∃σ' H',Inv X pins σ' H' s'/\W n σ' H') ?_ m0 ⟨σ,H,I,w0⟩);rintro n s1 ⟨σ1,H1,I1,w1⟩;refine wpAny_passesOwn hp (cM (hc pins s1 σ1 H1 _ I1 (turn n σ1 H1 w1)) fun b s2 ⟨H2,I2,q2⟩=> ?_);cases b with
 | true=>
   obtain ⟨N,hN,q2⟩:=q2;rw [if_pos rfl];refine wpAny_passesOwn hp (cM (hb pins s2 σ1 H2 _ I2 q2) fun f s3 q3=> ?_);cases f with
   | next=>
     obtain ⟨σ3,H3,I3,n3⟩:=q3;obtain ⟨m',hm,w3⟩:=hN σ3 H3 n3;exact ⟨m',hm,σ3,H3,I3,w3⟩
   | cont=>
     obtain ⟨σ3,H3,I3,n3⟩:=q3;obtain ⟨m',hm,w3⟩:=hN σ3 H3 n3;exact ⟨m',hm,σ3,H3,I3,w3⟩
   | brk=>exact q3
   | ret v=>exact q3
 | false=>
   rw [if_neg Bool.false_ne_true];exact wpAny_execs_nil ⟨σ1,H2,I2,q2⟩
end
structure It where
 go:Nat->Hp->Prop
 Ox:Nat->Hp->V->Hp->Prop
 stop:Nat->Hp->Prop
def fO (X:Cx) (pins:List (Addr×Obj)) (H:Hp) (b:Addr):Prop:=
 H b=none/\b≠X.env.locals/\b∉X.fs/\(b∈X.ex\/X.s₀.heap.objs.size<=b)/\(∀x c,X.env.cells.lookup x=some c->c≠b) /\ ∀p∈X.pn++pins,p.1≠b
theorem Inv.nY {X:Cx} {pins:List (Addr×Obj)} {σ:St} {H H':Hp} {s:Shared} {b:Addr} (I:Inv X pins σ H s) (hb:s.heap.objs.size<=b) (hn:H' b=none):fO X pins H' b:=by
 refine ⟨hn,Nat.ne_of_gt (Nat.lt_of_lt_of_le I.lt hb),I.abf hb,.inr (Nat.le_trans I.sz hb),fun x c e z=> ?_,fun p hp z=> ?_⟩
 ·obtain ⟨v,q⟩:=I.cell x c e
  exact absurd (Nat.lt_of_lt_of_le q.lt (by rw [z];exact hb)) (Nat.lt_irrefl _)
 ·exact absurd (Nat.lt_of_lt_of_le (Heap.lt_size (I.pin p hp).1) (by rw [z];exact hb)) (Nat.lt_irrefl _)
structure Turn (P:Program) (w:World) (K:PySem.W.Frag) (tg:Expr) (J:It) (fp:List Addr) (it:Addr) (tn:Nat->Heap->Prop):Prop where
 mem:it∈fp
 obj:∀i h,tn i h -> ∀b∈fp,∃o,h.get? b=some o /\ ∀v,o.data ≠ .cell v
 keep:∀i h h',tn i h->(∀b∈fp,∀o,h.get? b=some o->h'.get? b=some o)->tn i h'
 item:∀(X:Cx),X.prog=P->X.w=w->X.K=K->X.calm=true -> ∀(i:Nat) (pins:List (Addr×Obj)) (s:Shared) (σ:St) (H:Hp) (E:Value->Shared->Prop),Inv X pins σ H s->(∀b∈fp,fO X pins H b)->tn i s.heap->J.go i H ->
  wpAny (model P w) X.A (pyNext (.ref it)) (fun r s1=>∃u,r=some u /\
   wpAny (model P w) X.A (letOwnedTupleGo tg (.ref it) u) (fun _ s2=>∃x H',Inv X pins σ H' s2/\RelV x u/\J.Ox i H x H'/\tn (i+1) s2.heap /\ ∀b∈fp,H' b=none) E s1) E s
 done:∀(X:Cx),X.prog=P->X.w=w->X.K=K->X.calm=true -> ∀(i:Nat) (pins:List (Addr×Obj)) (s:Shared) (σ:St) (H:Hp) (E:Value->Shared->Prop),Inv X pins σ H s->(∀b∈fp,fO X pins H b)->tn i s.heap->J.stop i H ->
  wpAny (model P w) X.A (pyNext (.ref it)) (fun r s1=>r=none/\Inv X pins σ H s1) E s
 self:∀(A:Around) (i:Nat) (s:Shared) (Q:Value->Shared->Prop) (E:Value->Shared->Prop),tn i s.heap->Q (.ref it) s->wpAny (model P w) A (pyIter (.ref it)) Q E s
abbrev TI:=St->Hp->(It->Hp->Prop)->Prop
def PIE (X:Cx) (pins:List (Addr×Obj)) (σ:St) (tg:Expr) (R:It->Hp->Prop) (itv:Value) (s2:Shared):Prop:=
 ∃(it:Addr) (fp:List Addr) (tn:Nat->Heap->Prop) (J:It) (H':Hp),itv = .ref it/\Inv X pins σ H' s2/\Turn X.prog X.w X.K tg J fp it tn/\tn 0 s2.heap/\(∀b∈fp,fO X pins H' b)/\R J H'
def PI (X:Cx) (tg iter:Expr) (wi:TI):Prop:=
 ∀(pins:List (Addr×Obj)) (s:Shared) (σ:St) (H:Hp) (R:It->Hp->Prop),Inv X pins σ H s->wi σ H R ->
  wpAny (model X.prog X.w) X.A (eval iter X.env) (fun v s1=>wpAny (model X.prog X.w) X.A (pyIter v) (PIE X pins σ tg R) X.xe s1) X.xe s
theorem vd {M:Model} {A:Around} {E:Value->Shared->Prop} {s:Shared} {tg:Expr} {it:Addr} {u:Value} {o:Obj} {n:String} {vs:Array Value} {Q:Unit->Shared->Prop} (ho:s.heap.get? it=some o) (hc:o.cls = .type n) (hd:o.data = .fields vs)
 (hn:["enumerate","zip","dict_itemiterator","dict_reverseitemiterator","odict_iterator","itertools.zip_longest","itertools.pairwise"].contains n=false) (hQ:Q () s):wpAny M A (letOwnedTupleGo tg (.ref it) u) Q E s:=by
 unfold letOwnedTupleGo
 cases tg<;>first
  | exact wpAny_pure hQ
  | (cases u<;>first
      | exact wpAny_pure hQ
      | (refine wpAny_bind (wpAny_load ho ?_)
         rw [hc,hd];show wpAny M A (if (["enumerate","zip","dict_itemiterator","dict_reverseitemiterator","odict_iterator","itertools.zip_longest","itertools.pairwise"].contains n&&vs[0]? == some (rawInt _))=true then _ else _) Q E s;rw [if_neg (by intro h;rw [hn,Bool.false_and] at h;cases h)];exact wpAny_pure hQ))
def Oq (K:PySem.W.Frag) (a:Addr):It:=
 ⟨fun i H=>∃xs x,bh K H a xs/\xs[i]? = some x,fun i H x H'=>H'=H /\ ∀xs,bh K H a xs->xs[i]? = some x,fun i H=>∃xs,bh K H a xs/\xs.length<=i⟩
def YW (K:PySem.W.Frag) (a:Addr):It:=
 ⟨fun i H=>∃xs x,cJ K H a xs/\xs[i]? = some x,fun i H x H'=>H'=H /\ ∀xs,cJ K H a xs->xs[i]? = some x,fun i H=>∃xs,cJ K H a xs/\xs.length<=i⟩
def Qc (lo:Int) (n:Nat):It:=⟨fun i _=>i<n,fun i H x H'=>H'=H/\x = .int (lo+i),fun i _=>n<=i⟩
theorem Ez {P:Program} {w:World} {K:PySem.W.Frag} {tg:Expr} (a it:Addr):Turn P w K tg (Oq K a) [it] it (fun i h=>h.IsListIter it a i) where
 mem:=by simp
 obj:=fun i h st b hb=>by
  have e:b=it:=by simpa using hb
  subst e;obtain ⟨o,e,c,d⟩:=st;exact ⟨o,e,fun v z=>by rw [d] at z;cases z⟩
 keep:=fun i h h' st k=>st.at fun o e=>k it (by simp) o e
 item:=by
  intro X hP hw hK hc i pins s σ H E I hf st hg;subst hP hw hK;obtain ⟨xs,x,hq,hx⟩:=hg;obtain ⟨its,rv,p,hz⟩:=I.list hq;obtain ⟨u,hu,ru⟩:=rv.get hx;obtain ⟨f0,f1,f2,f3,f4,f5⟩:=hf it (by simp);refine wpAny_pyNext_list_item st p.isList (x:=u) (by simpa using hu) fun h' st' sb=> ?_;have I1:Inv X pins σ H {s with heap:=h'}:=I.turned (t':=s.toks) (fun b o hb e=>(sb.2 b hb).trans e) f0 f1 f3 f4 f5;obtain ⟨o,e,c,d⟩:=id st';exact ⟨u,rfl,vd (s:={s with heap:=h'}) e c d (by decide) ⟨x,H,I1,ru,⟨rfl,fun ys hy=>by rw [I.yP hy hq];exact hx⟩,st',fun b hb=>(hf b hb).1⟩⟩
 done:=by
  intro X hP hw hK hc i pins s σ H E I hf st hg;subst hP hw hK;obtain ⟨xs,hq,hx⟩:=hg;obtain ⟨its,rv,p,hz⟩:=I.list hq;obtain ⟨f0,f1,f2,f3,f4,f5⟩:=hf it (by simp);have hl:=rv.length;exact wpAny_pyNext_list_end (I.ok.hd hc) st p.isList (by simp;omega) fun h' eb=>⟨rfl,I.turned (t':=s.toks) (fun b o hb e=>eb b o hb e) f0 f1 f3 f4 f5⟩
 self:=fun _ _ _ _ _ st h=>wpAny_pyIter_listiter st h
theorem Aa {P:Program} {w:World} {K:PySem.W.Frag} {tg:Expr} (a it:Addr):Turn P w K tg (YW K a) [it] it (fun i h=>h.IsTupleIter it a i) where
 mem:=by simp
 obj:=fun i h st b hb=>by
  have e:b=it:=by simpa using hb
  subst e;obtain ⟨o,e,c,d⟩:=st;exact ⟨o,e,fun v z=>by rw [d] at z;cases z⟩
 keep:=fun i h h' st k=>st.at fun o e=>k it (by simp) o e
 item:=by
  intro X hP hw hK hc i pins s σ H E I hf st hg;subst hP hw hK;obtain ⟨xs,x,hq,hx⟩:=hg;obtain ⟨its,rv,p,hz⟩:=I.tuple hq;obtain ⟨u,hu,ru⟩:=rv.get hx;obtain ⟨f0,f1,f2,f3,f4,f5⟩:=hf it (by simp);refine wpAny_pyNext_tuple_item st (show s.heap.IsTuple a its.toArray from p) (x:=u) (by simpa using hu) fun h' st' sb=> ?_;have I1:Inv X pins σ H {s with heap:=h'}:=I.turned (t':=s.toks) (fun b o hb e=>(sb.2 b hb).trans e) f0 f1 f3 f4 f5;obtain ⟨o,e,c,d⟩:=id st';exact ⟨u,rfl,vd (s:={s with heap:=h'}) e c d (by decide) ⟨x,H,I1,ru,⟨rfl,fun ys hy=>by rw [I.Fb hy hq];exact hx⟩,st',fun b hb=>(hf b hb).1⟩⟩
 done:=by
  intro X hP hw hK hc i pins s σ H E I hf st hg;subst hP hw hK;obtain ⟨xs,hq,hx⟩:=hg;obtain ⟨its,rv,p,hz⟩:=I.tuple hq;obtain ⟨f0,f1,f2,f3,f4,f5⟩:=hf it (by simp);have hl:=rv.length;exact wpAny_pyNext_tuple_end (I.ok.hd hc) st (show s.heap.IsTuple a its.toArray from p) (by simp;omega) fun h' eb=>⟨rfl,I.turned (t':=s.toks) (fun b o hb e=>eb b o hb e) f0 f1 f3 f4 f5⟩
 self:=fun _ _ _ _ _ st h=>wpAny_pyIter_tupleiter st h
theorem Ab {P:Program} {w:World} {K:PySem.W.Frag} {tg:Expr} (it:Addr) (lo:Int) (n:Nat):Turn P w K tg (Qc lo n) [it] it (fun i h=>IsRangeIter h it (lo+(i:Nat)*1) ((n:Int) - (i:Nat)) 1) where
 mem:=by simp
 obj:=fun i h st b hb=>by
  have e:b=it:=by simpa using hb
  subst e
  exact ⟨_,st,fun v z=>by
   have z':Data.fields _=Data.cell v:=z;cases z'⟩
 keep:=fun i h h' st k=>k it (by simp) _ st
 item:=by
  intro X hP hw hK hc i pins s σ H E I hf st hg;subst hP hw hK;obtain ⟨f0,f1,f2,f3,f4,f5⟩:=hf it (by simp);have W:=Walks.range (prog:=X.prog) (w:=X.w) (I.ok.hd hc) it lo 1 n;refine W.item i s _ _ hg st fun v h' tk hv st' kk=> ?_;obtain ⟨t,rfl⟩:=hv;have I1:Inv X pins σ H {s with heap:=h',toks:=tk}:=I.turned (fun b o hb e=>kk b o (by simpa using hb) e) f0 f1 f3 f4 f5;refine ⟨_,rfl,vd (s:={s with heap:=h',toks:=tk}) (n:= "range_iterator") st' rfl rfl (by decide) ⟨.int (lo+i),H,I1,⟨t, ?_⟩,⟨rfl,rfl⟩,st',fun b hb=>(hf b hb).1⟩⟩;rw [Int.mul_one]
 done:=by
  intro X hP hw hK hc i pins s σ H E I hf st hg;subst hP hw hK;obtain ⟨f0,f1,f2,f3,f4,f5⟩:=hf it (by simp);exact wpAny_pyNext_range_end (I.ok.hd hc) st (by have:n<=i:=hg;omega) fun h' eb=>⟨rfl,I.turned (t':=s.toks) (fun b o hb e=>eb b o hb e) f0 f1 f3 f4 f5⟩
 self:=fun _ _ _ _ _ st h=>wpAny_pyIter_rangeiter st h
end L2
namespace L2
open PySem PySem.Spec PyProof.Rows
section
variable {X:Cx} {tg:Expr}
def Pg (K:PySem.W.Frag) (tl:TE):TI:=fun σ H R=>tl σ H fun x H1=>∃a,x = .ref a/\(∃xs,bh K H1 a xs)/\R (Oq K a) H1
def VG (K:PySem.W.Frag) (tl:TE):TI:=fun σ H R=>tl σ H fun x H1=>∃a,x = .ref a/\(∃xs,cJ K H1 a xs)/\R (YW K a) H1
theorem Mt {l:Expr} {tl:TE} (hl:PE X l tl):PI X tg l (Pg X.K tl):=by
 intro pins s σ H R I h;refine cM (hl pins s σ H _ I h) fun v s1 ⟨x,H1,I1,r1,q1⟩=> ?_;obtain ⟨a,e,⟨xs,hq⟩,q⟩:=q1;subst e;cases r1;obtain ⟨its,rv,p,hz⟩:=I1.list hq;refine wpAny_pyIter_list p.isList ?_;refine ⟨s1.heap.objs.size,[s1.heap.objs.size],_,_,H1,rfl,I1.kept (t':=s1.toks) fun b o e=>Heap.get?_push_of_some _ e,Ez a _,⟨_,Heap.get?_push_size _ rfl,rfl,rfl⟩,fun b hb=> ?_,q⟩;have e:b=s1.heap.objs.size:=by simpa using hb
 subst e;exact I1.nY (Nat.le_refl _) (I1.hok.fresh (Nat.le_refl _))
theorem QV {l:Expr} {tl:TE} (hl:PE X l tl):PI X tg l (VG X.K tl):=by
 intro pins s σ H R I h;refine cM (hl pins s σ H _ I h) fun v s1 ⟨x,H1,I1,r1,q1⟩=> ?_;obtain ⟨a,e,⟨xs,hq⟩,q⟩:=q1;subst e;cases r1;obtain ⟨its,rv,p,hz⟩:=I1.tuple hq;refine wpAny_pyIter_tuple (show s1.heap.IsTuple a its.toArray from p) ?_;refine ⟨s1.heap.objs.size,[s1.heap.objs.size],_,_,H1,rfl,I1.kept (t':=s1.toks) fun b o e=>Heap.get?_push_of_some _ e,Aa a _,⟨_,Heap.get?_push_size _ rfl,rfl,rfl⟩,fun b hb=> ?_,q⟩;have e:b=s1.heap.objs.size:=by simpa using hb
 subst e;exact I1.nY (Nat.le_refl _) (I1.hok.fresh (Nat.le_refl _))
theorem Ie {pins:List (Addr×Obj)} {σ:St} {H:Hp} {s:Shared} {R:It->Hp->Prop} {E:Value->Shared->Prop} {lo hi:Int} {t u v:Tok} {tk:Nat} (I:Inv X pins σ H s) (h1: -(2 ^ 62)<=lo) (h2:lo<2 ^ 62) (h3: -(2 ^ 62)<=hi) (h4:hi<2 ^ 62)
 (q:R (Qc lo (hi - lo).toNat) H):wpAny (model X.prog X.w) X.A (pyIter (.ref s.heap.objs.size)) (PIE X pins σ tg R) E {s with heap:=s.heap.push {cls:= .type "range",data:= .fields #[.int lo t,.int hi u,.int 1 v]},toks:=tk}:=by
 refine wpAny_pyIter_range (IsRange.new ..) (small_one h1 h2 h3 h4) ?_;have I1:Inv X pins σ H {s with heap:=s.heap.push {cls:= .type "range",data:= .fields #[.int lo t,.int hi u,.int 1 v]},toks:=tk}:=I.kept fun b o e=>Heap.get?_push_of_some _ e
 refine ⟨(s.heap.push {cls:= .type "range",data:= .fields #[.int lo t,.int hi u,.int 1 v]}).objs.size,[(s.heap.push {cls:= .type "range",data:= .fields #[.int lo t,.int hi u,.int 1 v]}).objs.size],_,_,H,rfl,
  I1.kept (t':=tk) fun b o e=>Heap.get?_push_of_some _ e,Ab _ lo (hi - lo).toNat, ?_,fun b hb=> ?_,q⟩
 ·have e1:lo+((0:Nat):Int)*1=lo:=by simp
  have e2:(((hi - lo).toNat:Nat):Int) - ((0:Nat):Int)=Builtin.Range.rangeSize lo hi 1:=by rw [rangeSize_one];split<;>omega
  show IsRangeIter _ _ (lo+((0:Nat):Int)*1) ((((hi - lo).toNat:Nat):Int) - ((0:Nat):Int)) 1;rw [e1,e2];exact Heap.get?_push_size _ rfl
 ·have e:b=(s.heap.push {cls:= .type "range",data:= .fields #[.int lo t,.int hi u,.int 1 v]}).objs.size:=by simpa using hb
  subst e;exact I1.nY (Nat.le_refl _) (I1.hok.fresh (Nat.le_refl _))
def Pb (ta:TA):TI:=fun σ H R=>ta σ H fun vs H1=>∃j:Int,vs=[.int j] /\ -(2 ^ 62)<=j/\j<2 ^ 62/\R (Qc 0 j.toNat) H1
theorem gA {a:Expr} {ta:TA} {p pos:Pos} (hg:Gl X "range") (hm:X.mg "range" = none) (ha:PA X [a] ta) (hs:starEach [a] X.env=[(false,eval a X.env)]:=by rfl):PI X tg (.Call (.Name "range" p) [a] [] pos) (Pb ta):=by
 intro pins s σ H R I h;refine Call_ (m6 I hg hm boot_range (PyProof.Rows.callWith_type1 (cM (ha pos pins s σ H _ I h) fun us s1 ⟨vs,H1,I1,r1,q1⟩=> ?_) hs rfl));obtain ⟨j,e,q1,q2,q⟩:=q1;subst e;cases r1 with
 | cons r rr=>
   cases rr;obtain ⟨t,rfl⟩:=r;exact call_range_1 (Ie I1 (by omega) (by omega) q1 q2 (by simpa using q))
def Um (wi:TI) (g:TG) (tb:TS):TS:=fun D σ H=>wi σ H fun J H1=>∃W:Nat->Nat->St->Hp->Prop,(∃m,W 0 m σ H1) /\ ∀i m σ H,W i m σ H ->
 (J.stop i H/\D.nx σ H)\/(J.go i H /\ ∃N:St->Hp->Prop,(∀σ' H',N σ' H' -> ∃m',m'<m/\W (i+1) m' σ' H') /\ ∀x H',J.Ox i H x H'->g x σ H' fun σ2 H2=>tb {D with nx:=N,ct:=N,bk:=D.nx} σ2 H2)
def o7 (fp:List Addr) (h:Heap):List (Addr×Obj):=fp.filterMap fun b=>(h.get? b).map fun o=>(b,o)
theorem gB {fp:List Addr} {h:Heap} {b:Addr} {o:Obj} (hb:b∈fp) (e:h.get? b=some o):(b,o)∈o7 fp h:=List.mem_filterMap.mpr ⟨b,hb,by rw [e];rfl⟩
theorem FW {fp:List Addr} {h:Heap} {p:Addr×Obj} (hp:p∈o7 fp h):p.1∈fp/\h.get? p.1=some p.2:=by
 obtain ⟨b,hb,e⟩:=List.mem_filterMap.mp hp;cases q:h.get? b with
 | none=>rw [q] at e;cases e
 | some o=>
   rw [q] at e;have e':(b,o)=p:=Option.some.inj e;subst e';exact ⟨hb,q⟩
theorem Inv.pinned {pins:List (Addr×Obj)} {σ:St} {H:Hp} {s:Shared} {fp:List Addr} (I:Inv X pins σ H s) (hf:∀b∈fp,fO X pins H b) (ho:∀b∈fp,∃o,s.heap.get? b=some o /\ ∀v,o.data ≠ .cell v):Inv X (pins++o7 fp s.heap) σ H s:=
 I.qR fun p hp=>(List.mem_append.mp hp).elim (fun z=>I.pin p (List.mem_append_right _ z)) fun z=>by
  obtain ⟨hb,e⟩:=FW z;obtain ⟨f0,f1,f2,_⟩:=hf p.1 hb;obtain ⟨o,e',d⟩:=ho p.1 hb;rw [e] at e';cases e';exact ⟨e,f0,f1,f2,d⟩
theorem Inv.iU {pins pl:List (Addr×Obj)} {σ:St} {H:Hp} {s:Shared} (I:Inv X (pins++pl) σ H s):Inv X pins σ H s:=I.qR fun p hp=>I.pin p (List.mem_append_right _ (List.mem_append_left _ hp))
theorem d8 {iter:Expr} {body:List Stmt} {wi:TI} {g:TG} {tb:TS} {pos:Pos} (hp:PassesOwn (model X.prog X.w) X.A X.env X.xe) (hc:X.calm=true) (hi:PI X tg iter wi) (hg:PG X tg g) (hb:Eo X body tb)
 (hs:∀x,foldedSetIterable iter X.env x=pure x:=by intro _;rfl):PS X (.For tg iter body [] pos) (Um wi g tb):=by
 intro pins s σ H D I h;refine wpAny_For (cM (hi pins s σ H _ I h) fun v s1 h1=>cM h1 fun itv s2 h2=> ?_) hs;obtain ⟨it,fp,tn,J,H2,e,I2,T,st2,f2,W,⟨m0,w0⟩,turn⟩:=h2;subst e;have stat:∀{H':Hp},(∀b∈fp,H' b=none) -> ∀b∈fp,fO X pins H' b:=fun hn b hb=>⟨hn b hb,(f2 b hb).2⟩;refine codeAny_forLoop_any (fun n s'=>∃i σ' H',Inv X pins σ' H' s'/\tn i s'.heap/\(∀b∈fp,H' b=none)/\W i n σ' H') ?_ m0 ⟨0,σ,H2,I2,st2,fun b hb=>(f2 b hb).1,w0⟩;rintro n s3 ⟨i,σ3,H3,I3,st3,Pk,w3⟩;rcases turn i n σ3 H3 w3 with ⟨stop,qn⟩|⟨go,N,hN,step⟩
 ·refine wpAny_passesOwn hp (cM (T.done X rfl rfl rfl hc i pins s3 σ3 H3 X.xe I3 (stat Pk) st3 stop) fun r s4 ⟨hr,I4⟩=> ?_)
  subst hr;exact wpAny_execs_nil ⟨σ3,H3,I4,qn⟩
 ·refine wpAny_passesOwn hp (cM (T.item X rfl rfl rfl hc i pins s3 σ3 H3 X.xe I3 (stat Pk) st3 go) fun r s4 ⟨u,hr,h4⟩=> ?_)
  subst hr;refine wpAny_passesOwn hp (cM h4 fun _ s5 ⟨x,H5,I5,r5,y5,ux,Lk⟩=> ?_);have Xm:=I5.pinned (stat Lk) (T.obj _ _ ux);refine wpAny_passesOwn hp (cM (hg _ s5 σ3 H5 x u _ Xm r5 (step x H5 y5)) fun _ s6 ⟨σ6,H6,I6,q6⟩=> ?_);refine wpAny_passesOwn hp (cM (hb _ s6 σ6 H6 _ I6 q6) fun f s7 q7=> ?_)
  have again:∀{σ7:St} {H7:Hp},Inv X (pins++o7 fp s5.heap) σ7 H7 s7->N σ7 H7 -> ∃m,m<n /\ ∃i σ' H',Inv X pins σ' H' s7/\tn i s7.heap/\(∀b∈fp,H' b=none)/\W i m σ' H':=fun {σ7 H7} I7 n7=>by
   obtain ⟨m',hm,w7⟩:=hN σ7 H7 n7;refine ⟨m',hm,i+1,σ7,H7,I7.iU,T.keep _ _ _ ux fun b hb o e=>(I7.pin (b,o) (List.mem_append_right _ (List.mem_append_right _ (gB hb e)))).1,fun b hb=> ?_,w7⟩;obtain ⟨o,e,d⟩:=T.obj _ _ ux b hb;exact (I7.pin (b,o) (List.mem_append_right _ (List.mem_append_right _ (gB hb e)))).2.1
  cases f with
  | next=>obtain ⟨σ7,H7,I7,n7⟩:=q7;exact again I7 n7
  | cont=>obtain ⟨σ7,H7,I7,n7⟩:=q7;exact again I7 n7
  | brk=>obtain ⟨σ7,H7,I7,q7⟩:=q7;exact ⟨σ7,H7,I7.iU,q7⟩
  | ret v=>obtain ⟨x7,σ7,H7,I7,r7,q7⟩:=q7;exact ⟨x7,σ7,H7,I7.iU,r7,q7⟩
end
theorem jH {K:PySem.W.Frag} {a:Addr} {xs:List V} {g:TG} {tb:TS} {D:Ends} {σ:St} {H:Hp} (Pv:Nat->St->Hp->Prop) (h0:Pv 0 σ H) (hl:∀i σ H,i<=xs.length->Pv i σ H->bh K H a xs)
 (hs:∀i x σ H,xs[i]? = some x->Pv i σ H->g x σ H fun σ2 H2=>tb {D with nx:=Pv (i+1),ct:=Pv (i+1),bk:=D.nx} σ2 H2) (hd:∀σ H,Pv xs.length σ H->D.nx σ H):
 ∃W:Nat->Nat->St->Hp->Prop,(∃m,W 0 m σ H) /\ ∀i m σ H,W i m σ H ->
  ((Oq K a).stop i H/\D.nx σ H)\/((Oq K a).go i H /\ ∃N:St->Hp->Prop,(∀σ' H',N σ' H' -> ∃m',m'<m/\W (i+1) m' σ' H') /\ ∀x H',(Oq K a).Ox i H x H'->g x σ H' fun σ2 H2=>tb {D with nx:=N,ct:=N,bk:=D.nx} σ2 H2):=by
 refine ⟨fun i m σ H=>m=xs.length - i/\i<=xs.length/\Pv i σ H,⟨xs.length,by simp,Nat.zero_le _,h0⟩, ?_⟩;rintro i m σ H ⟨rfl,hi,p⟩;have q:=hl i σ H hi p
 by_cases hlt:i<xs.length
 ·refine .inr ⟨⟨xs,xs[i],q,by simp [hlt]⟩,Pv (i+1),fun σ' H' p'=>⟨xs.length - (i+1),by omega,rfl,hlt,p'⟩,fun x H' y=> ?_⟩
  obtain ⟨e,y⟩:=y;subst e;exact hs i x σ _ (y xs q) p
 ·have e:i=xs.length:=by omega
  subst e;exact .inl ⟨⟨xs,q,Nat.le_refl _⟩,hd σ H p⟩
theorem jG {lo:Int} {n:Nat} {g:TG} {tb:TS} {D:Ends} {σ:St} {H:Hp} (Pv:Nat->St->Hp->Prop) (h0:Pv 0 σ H)
 (hs:∀i σ H,i<n->Pv i σ H->g (.int (lo+i)) σ H fun σ2 H2=>tb {D with nx:=Pv (i+1),ct:=Pv (i+1),bk:=D.nx} σ2 H2) (hd:∀σ H,Pv n σ H->D.nx σ H):
 ∃W:Nat->Nat->St->Hp->Prop,(∃m,W 0 m σ H) /\ ∀i m σ H,W i m σ H ->
  ((Qc lo n).stop i H/\D.nx σ H)\/((Qc lo n).go i H /\ ∃N:St->Hp->Prop,(∀σ' H',N σ' H' -> ∃m',m'<m/\W (i+1) m' σ' H') /\ ∀x H',(Qc lo n).Ox i H x H'->g x σ H' fun σ2 H2=>tb {D with nx:=N,ct:=N,bk:=D.nx} σ2 H2):=by
 refine ⟨fun i m σ H=>m=n - i/\i<=n/\Pv i σ H,⟨n,by simp,Nat.zero_le _,h0⟩, ?_⟩;rintro i m σ H ⟨rfl,hi,p⟩
 by_cases hlt:i<n
 ·refine .inr ⟨hlt,Pv (i+1),fun σ' H' p'=>⟨n - (i+1),by omega,rfl,hlt,p'⟩,fun x H' y=> ?_⟩
  obtain ⟨e,y⟩:=y;subst e y;exact hs i σ _ hlt p
 ·have e:i=n:=by omega
  subst e;exact .inl ⟨Nat.le_refl _,hd σ H p⟩
end L2
namespace L2
open PySem PySem.Spec PyProof.Rows
abbrev R2:=V->V->Hp->VK->Prop
def pQ (X:Cx) (f:Value->Value->Sem Value) (r:R2):Prop:=
 ∀(pins:List (Addr×Obj)) (s:Shared) (σ:St) (H:Hp) (x y:V) (v u:Value) (Q:VK),Inv X pins σ H s->RelV x v->RelV y u->r x y H Q ->
  wpAny (model X.prog X.w) X.A (f v u) (EP X pins σ Q) X.xe s
def UnR (X:Cx) (f:Value->Sem Value) (r:V->Hp->VK->Prop):Prop:=
 ∀(pins:List (Addr×Obj)) (s:Shared) (σ:St) (H:Hp) (x:V) (v:Value) (Q:VK),Inv X pins σ H s->RelV x v->r x H Q ->
  wpAny (model X.prog X.w) X.A (f v) (EP X pins σ Q) X.xe s
def fZ (X:Cx) (f:Value) (r:List V->Hp->VK->Prop):Prop:=
 ∀(pins:List (Addr×Obj)) (s:Shared) (σ:St) (H:Hp) (xs:List V) (us:List Value) (Q:VK),Inv X pins σ H s->Vals xs us->r xs H Q ->
  wpAny (model X.prog X.w) X.A (call f us) (EP X pins σ Q) X.xe s
def aem (X:Cx) (r:V->Hp->(Bool->Hp->Prop)->Prop):Prop:=
 ∀(pins:List (Addr×Obj)) (s:Shared) (σ:St) (H:Hp) (x:V) (v:Value) (Q:Bool->Hp->Prop),Inv X pins σ H s->RelV x v->r x H Q ->
  wpAny (model X.prog X.w) X.A (truthy v) (TP X pins σ Q) X.xe s
def vQ (r:R2) (ta tb:TE):TE:=fun σ H Q=>ta σ H fun x H1=>tb σ H1 fun y H2=>r x y H2 Q
def tUn (r:V->Hp->VK->Prop) (ta:TE):TE:=fun σ H Q=>ta σ H fun x H1=>r x H1 Q
def rI (C:Int->Int->Prop) (g:Int->Int->V):R2:=fun x y H Q=>∃i j,x = .int i/\y = .int j/\C i j/\Q (g i j) H
def Lh (g:Int->Int->V):R2:=fun x y H Q=>∃i j,x = .int i/\y = .int j/\Q (g i j) H
def rU (g:Int->V):V->Hp->VK->Prop:=fun x H Q=>∃i,x = .int i/\Q (g i) H
section
variable {X:Cx} {a b c:Expr} {ta tb tc:TE} {pos:Pos}
theorem S_ (ha:PE X a ta) (hb:PE X b tb) {pins:List (Addr×Obj)} {s:Shared} {σ:St} {H:Hp} {R:V->V->Hp->Prop} (I:Inv X pins σ H s)
 (h:ta σ H fun x H1=>tb σ H1 fun y H2=>R x y H2) {Q:Value->Shared->Prop} {f:Value->Value->Sem Value}
 (hf:∀v u s2 x y H2,Inv X pins σ H2 s2->RelV x v->RelV y u->R x y H2->wpAny (model X.prog X.w) X.A (f v u) Q X.xe s2):
 wpAny (model X.prog X.w) X.A (eval a X.env) (fun v s₁=>wpAny (model X.prog X.w) X.A (eval b X.env) (fun u s₂=>wpAny (model X.prog X.w) X.A (f v u) Q X.xe s₂) X.xe s₁) X.xe s:=by
 refine cM (ha pins s σ H _ I h) fun v s1 ⟨x,H1,I1,r1,q1⟩=> ?_;refine cM (hb pins s1 σ H1 _ I1 q1) fun u s2 ⟨y,H2,I2,r2,q2⟩=> ?_;exact hf v u s2 x y H2 I2 r1 r2 q2
theorem bx {op:Operator} {r:R2} (ho:pQ X (binaryOp op) r) (ha:PE X a ta) (hb:PE X b tb):PE X (.BinOp a op b pos) (vQ r ta tb):=by
 intro pins s σ H Q I h;exact wpAny_BinOp (S_ ha hb I h fun v u s2 x y H2 I2 rx ry q=>ho pins s2 σ H2 x y v u Q I2 rx ry q)
theorem Iv {op:UnaryOp} {r:V->Hp->VK->Prop} (ho:UnR X (unaryOp op) r) (ha:PE X a ta):PE X (.UnaryOp op a pos) (tUn r ta):=by
 intro pins s σ H Q I h;exact UnaryOp_ (cM (ha pins s σ H _ I h) fun v s1 ⟨x,H1,I1,r1,q1⟩=>ho pins s1 σ H1 x v Q I1 r1 q1)
theorem Va {f:Value->Value->Sem Value} {C:Int->Int->Prop} {g:Int->Int->Int}
 (rule:∀(i j:Int) (t u:Tok) (s:Shared) (Q:Value->Shared->Prop) (E:Value->Shared->Prop),C i j->Q (.int (g i j) s.toks) {s with toks:=s.toks+1}->wpAny (model X.prog X.w) X.A (f (.int i t) (.int j u)) Q E s):
 pQ X f (rI C fun i j=> .int (g i j)):=by
 intro pins s σ H x y v u Q I rx ry h;obtain ⟨i,j,rfl,rfl,hc,q⟩:=h;obtain ⟨t,rfl⟩:=rx;obtain ⟨t',rfl⟩:=ry;exact rule i j t t' s _ _ hc ⟨.int (g i j),H,I.tok _,⟨_,rfl⟩,q⟩
theorem U_ {f:Value->Value->Sem Value} {g:Int->Int->Int}
 (rule:∀(i j:Int) (t u:Tok) (s:Shared) (Q:Value->Shared->Prop) (E:Value->Shared->Prop),Q (.int (g i j) s.toks) {s with toks:=s.toks+1}->wpAny (model X.prog X.w) X.A (f (.int i t) (.int j u)) Q E s):
 pQ X f (Lh fun i j=> .int (g i j)):=by
 intro pins s σ H x y v u Q I rx ry h;obtain ⟨i,j,rfl,rfl,q⟩:=h;obtain ⟨t,rfl⟩:=rx;obtain ⟨t',rfl⟩:=ry;exact rule i j t t' s _ _ ⟨.int (g i j),H,I.tok _,⟨_,rfl⟩,q⟩
theorem MF {f:Value->Value->Sem Value} {g:Int->Int->Bool}
 (rule:∀(i j:Int) (t u:Tok) (s:Shared) (Q:Value->Shared->Prop) (E:Value->Shared->Prop),Q (.bool (g i j)) s->wpAny (model X.prog X.w) X.A (f (.int i t) (.int j u)) Q E s):
 pQ X f (Lh fun i j=> .bl (g i j)):=by
 intro pins s σ H x y v u Q I rx ry h;obtain ⟨i,j,rfl,rfl,q⟩:=h;obtain ⟨t,rfl⟩:=rx;obtain ⟨t',rfl⟩:=ry;exact rule i j t t' s _ _ ⟨.bl (g i j),H,I,rfl,q⟩
def Xp (i j:Int):Prop:=0<j/\j<1073741824
def Tr (i j:Int):Prop:=0<=j/\j<=1000000/\i.natAbs<2 ^ 64
def Tt (i j:Int):Prop:=(-(2 ^ 64)<i/\i<2 ^ 64)\/(-(2 ^ 64)<j/\j<2 ^ 64)
theorem Tt.ok {i j:Int} (h:Tt i j):IntMulOk i j:=by
 rcases h with ⟨h1,h2⟩|⟨h1,h2⟩
 ·exact .of_left (intBits_le_64 h1 h2)
 ·exact .of_right (intBits_le_64 h1 h2)
theorem dj:pQ X (binaryOp .Add) (Lh fun i j=> .int (i+j)):=U_ fun _ _ _ _ _ _ _ q=>add_int q
theorem Az:pQ X (binaryOp .Sub) (Lh fun i j=> .int (i - j)):=U_ fun _ _ _ _ _ _ _ q=>sub_int q
theorem o_:pQ X (binaryOp .Mult) (rI Tt fun i j=> .int (i*j)):=Va fun _ _ _ _ _ _ _ hc q=>mul_int q hc.ok
theorem Dm:pQ X (binaryOp .FloorDiv) (rI Xp fun i j=> .int (i / j)):=Va fun i j _ _ _ _ _ hc q=>by
 have h1:(0:Int)<j:=hc.1;have h2:j<1073741824:=hc.2;exact floordiv_int (by omega) (by rw [Int.fdiv_eq_ediv_of_nonneg i (by omega)];exact q) (.inl (PyProof.noPylong_small (by omega)))
theorem g8:pQ X (binaryOp .Mod) (rI (fun _ j=>0<j) fun i j=> .int (i % j)):=Va fun i j _ _ _ _ _ hc q=>by
 have h1:(0:Int)<j:=hc;exact mod_int' (by omega) (by rw [Int.fmod_eq_emod_of_nonneg i (by omega)];exact q)
theorem A_:pQ X (binaryOp .Pow) (rI Tr fun i j=> .int (i ^ j.toNat)):=Va fun _ _ _ _ _ _ _ hc q=>pow_int_small hc.1 hc.2.1 hc.2.2 q
theorem unI {f:Value->Sem Value} {g:Int->Int}
 (rule:∀(i:Int) (t:Tok) (s:Shared) (Q:Value->Shared->Prop) (E:Value->Shared->Prop),Q (.int (g i) s.toks) {s with toks:=s.toks+1}->wpAny (model X.prog X.w) X.A (f (.int i t)) Q E s):
 UnR X f (rU fun i=> .int (g i)):=by
 intro pins s σ H x v Q I rx h;obtain ⟨i,rfl,q⟩:=h;obtain ⟨t,rfl⟩:=rx;exact rule i t s _ _ ⟨.int (g i),H,I.tok _,⟨_,rfl⟩,q⟩
theorem z_:UnR X (unaryOp .USub) (rU fun i=> .int (-i)):=unI fun _ _ _ _ _ q=>neg_int q
end
def Uw:V->V->Bool
 | .non,.non=>true | .non,.int _=>true | .int _,.non=>true | .non,.bl _=>true | .bl _,.non=>true | .non,.str _=>true | .str _,.non=>true
 | .int _,.int _=>true | .bl _,.bl _=>true | .str _,.str _=>true | .zZ _,.zZ _=>true
 | .int _,.str _=>true | .str _,.int _=>true | .bl _,.str _=>true | .str _,.bl _=>true
 | _,_=>false
def rEq:R2:=fun x y H Q=>Uw x y=true/\Q (.bl (decide (x=y))) H
def XD:R2:=fun x y H Q=>Uw x y=true/\Q (.bl (!decide (x=y))) H
theorem Ed {i j:Int}:decide (V.int i=V.int j)=(i==j):=by
 rw [Bool.eq_iff_iff];simp
theorem Km {i j:Bool}:decide (V.bl i=V.bl j)=(i==j):=by
 rw [Bool.eq_iff_iff];simp
theorem Ec {i j:Str}:decide (V.str i=V.str j)=(i==j):=by
 rw [Bool.eq_iff_iff];simp
theorem Ef {i j:Array UInt8}:decide (V.zZ i=V.zZ j)=(i.toList==j.toList):=by
 rw [Bool.eq_iff_iff];cases i;cases j;simp
section
variable {X:Cx} {a b c:Expr} {ta tb tc:TE} {pos:Pos}
theorem bL {pins:List (Addr×Obj)} {σ:St} {H:Hp} {s:Shared} {Q:VK} {k k':Bool} (I:Inv X pins σ H s) (q:Q (.bl k) H) (e:k=k'):EP X pins σ Q (.bool k') s:=by
 subst e;exact ⟨.bl k,H,I,rfl,q⟩
theorem j8:pQ X (compareOp .Eq) rEq:=by
 intro pins s σ H x y v u Q I rx ry h;obtain ⟨hs,q⟩:=h;cases x with
 | non=>
   cases rx;cases y with
   | non=>cases ry;exact PySem.EqNone.eq_none_none (bL I q (by simp))
   | bl j=>cases ry;exact PySem.EqNone.eq_none_bool (bL I q (by simp))
   | int j=>obtain ⟨t',rfl⟩:=ry;exact PySem.EqNone.eq_none_int (bL I q (by simp))
   | str j=>obtain ⟨t',rfl⟩:=ry;exact PySem.EqNone.eq_none_str (bL I q (by simp))
   | _=>exact absurd (show false=true from hs) Bool.false_ne_true
 | bl i=>
   cases rx;cases y with
   | non=>cases ry;exact PySem.EqNone.eq_bool_none (bL I q (by simp))
   | bl j=>cases ry;exact eq_bool (bL I q Km)
   | str j=>obtain ⟨t',rfl⟩:=ry;exact PySem.EqMixed.eq_bool_str (bL I q (by simp))
   | _=>exact absurd (show false=true from hs) Bool.false_ne_true
 | int i=>
   obtain ⟨t,rfl⟩:=rx;cases y with
   | non=>cases ry;exact PySem.EqNone.eq_int_none (bL I q (by simp))
   | int j=>obtain ⟨t',rfl⟩:=ry;exact eq_int (bL I q Ed)
   | str j=>obtain ⟨t',rfl⟩:=ry;exact PySem.EqMixed.eq_int_str (bL I q (by simp))
   | _=>exact absurd (show false=true from hs) Bool.false_ne_true
 | str i=>
   obtain ⟨t,rfl⟩:=rx;cases y with
   | non=>cases ry;exact PySem.EqNone.eq_str_none (bL I q (by simp))
   | bl j=>cases ry;exact PySem.EqMixed.eq_str_bool (bL I q (by simp))
   | int j=>obtain ⟨t',rfl⟩:=ry;exact PySem.EqMixed.eq_str_int (bL I q (by simp))
   | str j=>obtain ⟨t',rfl⟩:=ry;exact eq_str (bL I q Ec)
   | _=>exact absurd (show false=true from hs) Bool.false_ne_true
 | zZ i=>
   obtain ⟨t,rfl⟩:=rx;cases y with
   | zZ j=>obtain ⟨t',rfl⟩:=ry;exact PySem.W.eq_bytes (bL I q Ef)
   | _=>exact absurd (show false=true from hs) Bool.false_ne_true
 | _=>cases y<;>exact absurd (show false=true from hs) Bool.false_ne_true
theorem uU:pQ X (compareOp .NotEq) XD:=by
 intro pins s σ H x y v u Q I rx ry h;obtain ⟨hs,q⟩:=h;cases x with
 | non=>
   cases rx;cases y with
   | non=>cases ry;exact PySem.EqNone.ne_none_none (bL I q (by simp))
   | bl j=>cases ry;exact PySem.EqNone.ne_none_bool (bL I q (by simp))
   | int j=>obtain ⟨t',rfl⟩:=ry;exact PySem.EqNone.ne_none_int (bL I q (by simp))
   | str j=>obtain ⟨t',rfl⟩:=ry;exact PySem.EqNone.ne_none_str (bL I q (by simp))
   | _=>exact absurd (show false=true from hs) Bool.false_ne_true
 | bl i=>
   cases rx;cases y with
   | non=>cases ry;exact PySem.EqNone.ne_bool_none (bL I q (by simp))
   | bl j=>cases ry;exact ne_bool (bL I q (congrArg not Km))
   | str j=>obtain ⟨t',rfl⟩:=ry;exact PySem.EqMixed.ne_bool_str (bL I q (by simp))
   | _=>exact absurd (show false=true from hs) Bool.false_ne_true
 | int i=>
   obtain ⟨t,rfl⟩:=rx;cases y with
   | non=>cases ry;exact PySem.EqNone.ne_int_none (bL I q (by simp))
   | int j=>obtain ⟨t',rfl⟩:=ry;exact ne_int (bL I q (congrArg not Ed))
   | str j=>obtain ⟨t',rfl⟩:=ry;exact PySem.EqMixed.ne_int_str (bL I q (by simp))
   | _=>exact absurd (show false=true from hs) Bool.false_ne_true
 | str i=>
   obtain ⟨t,rfl⟩:=rx;cases y with
   | non=>cases ry;exact PySem.EqNone.ne_str_none (bL I q (by simp))
   | bl j=>cases ry;exact PySem.EqMixed.ne_str_bool (bL I q (by simp))
   | int j=>obtain ⟨t',rfl⟩:=ry;exact PySem.EqMixed.ne_str_int (bL I q (by simp))
   | str j=>obtain ⟨t',rfl⟩:=ry;exact ne_str (bL I q (congrArg not Ec))
   | _=>exact absurd (show false=true from hs) Bool.false_ne_true
 | zZ i=>
   obtain ⟨t,rfl⟩:=rx;cases y with
   | zZ j=>obtain ⟨t',rfl⟩:=ry;exact PySem.W.ne_bytes (bL I q (congrArg not Ef))
   | _=>exact absurd (show false=true from hs) Bool.false_ne_true
 | _=>cases y<;>exact absurd (show false=true from hs) Bool.false_ne_true
theorem IW:pQ X (compareOp .Lt) (Lh fun i j=> .bl (decide (i<j))):=MF fun _ _ _ _ _ _ _ q=>lt_int q
theorem U9:pQ X (compareOp .LtE) (Lh fun i j=> .bl (decide (i<=j))):=MF fun _ _ _ _ _ _ _ q=>le_int q
theorem I_:pQ X (compareOp .Gt) (Lh fun i j=> .bl (decide (j<i))):=MF fun _ _ _ _ _ _ _ q=>gt_int q
theorem Ja:pQ X (compareOp .GtE) (Lh fun i j=> .bl (decide (j<=i))):=MF fun _ _ _ _ _ _ _ q=>ge_int q
def isObj:HO->Bool
 | .lst _=>true
 | .ins _ _ _=>true
 | _=>false
theorem bC (b:Expr) {op:CmpOp} (h:op ≠ .In:=by decide) (h2:op ≠ .NotIn:=by decide):behindInMarks op b=false:=by
 have e1:(op==CmpOp.In)=false:=by cases op<;>first |rfl|exact absurd rfl h
 have e2:(op==CmpOp.NotIn)=false:=by cases op<;>first |rfl|exact absurd rfl h2
 cases b<;>simp [behindInMarks,e1,e2]
theorem eX {op:CmpOp} {r:R2} (ho:pQ X (compareOp op) r) (ha:PE X a ta) (hb:PE X b tb) (hm:behindInMarks op b=false):PE X (.Compare a [op] [b] pos) (vQ r ta tb):=by
 intro pins s σ H Q I h;exact wpAny_Compare1 (S_ ha hb I h fun v u s2 x y H2 I2 rx ry q=>ho pins s2 σ H2 x y v u Q I2 rx ry q) hm
def Hu (t:TE):TT:=fun σ H Q=>t σ H fun x H'=>∃k,x = .bl k/\Q k H'
theorem bZ {op:CmpOp} {r:R2} (ho:pQ X (compareOp op) r) (ha:PE X a ta) (hb:PE X b tb) (hm:behindInMarks op b=false):PT X (.Compare a [op] [b] pos) (Hu (vQ r ta tb)):=by
 intro pins s σ H Q I h
 refine wpAny_isTrue_Compare1 (cM (ha pins s σ H _ I h) fun v s1 ⟨x,H1,I1,r1,q1⟩=>cM (hb pins s1 σ H1 _ I1 q1) fun u s2 ⟨y,H2,I2,r2,q2⟩=>
  cM (ho pins s2 σ H2 x y v u _ I2 r1 r2 q2) fun c s3 ⟨z,H3,I3,r3,k,e,q3⟩=> ?_) hm
 subst e;cases r3;exact wpAny_truthy_bool ⟨H3,I3,q3⟩
def Td (K:PySem.W.Frag) (x:V) (H:Hp) (k:Bool):Prop:=
 match x with
 | .non=>k=false
 | .bl b=>k=b
 | .int i=>k=(i != 0)
 | .str y=>y.length<=sizeLine/\k=((y.length:Int) != 0)
 | .zZ y=>y.size<=sizeLine/\k=((y.size:Int) != 0)
 | .ref p=>(∃xs,bh K H p xs/\k = !xs.isEmpty)\/(∃xs,cJ K H p xs/\k = !xs.isEmpty) \/ ∃kvs,H p=some (.dK kvs)/\k = !kvs.isEmpty
 | _=>False
theorem Br {κ:Type} {kvs:List (κ×V)} {vs:List (κ×Value)} (r:KV kvs vs):(!vs.isEmpty) = !kvs.isEmpty:=by
 cases r<;>rfl
theorem tu {xs:List V} {its:List Value} (r:Vals xs its):(!its.toArray.isEmpty) = !xs.isEmpty:=by
 cases r<;>simp
theorem sI:(sizeLine:Nat)<2 ^ 63:=by rw [sizeLine_eq];decide
theorem Qh:aem X (fun x H Q=>∃k,Td X.K x H k/\Q k H):=by
 intro pins s σ H x v Q I rx h;obtain ⟨k,e,q⟩:=h;have hl:=sI;have hs:sizeLine=16777216:=sizeLine_eq;cases x with
 | non=>
   cases rx;have e':k=false:=e;subst e';exact truthy_none ⟨H,I,q⟩
 | bl b=>
   cases rx;have e':k=b:=e;subst e';exact wpAny_truthy_bool ⟨H,I,q⟩
 | int i=>
   obtain ⟨t,rfl⟩:=rx;have e':k=(i != 0):=e;subst e';exact PySem.P.truthy_int ⟨H,I,q⟩
 | str y=>
   obtain ⟨t,rfl⟩:=rx;obtain ⟨hy,e'⟩:y.length<=sizeLine/\k=((y.length:Int) != 0):=e;subst e';exact PySem.P.truthy_str (by omega) ⟨H,I.tok _,q⟩
 | zZ y=>
   obtain ⟨t,rfl⟩:=rx;obtain ⟨hy,e'⟩:y.size<=sizeLine/\k=((y.size:Int) != 0):=e;subst e';exact PySem.W.truthy_bytes (by omega) ⟨H,I.tok _,q⟩
 | ref p=>
   cases rx;have e':(∃xs,bh X.K H p xs/\k = !xs.isEmpty)\/(∃xs,cJ X.K H p xs/\k = !xs.isEmpty) \/ ∃kvs,H p=some (.dK kvs)/\k = !kvs.isEmpty:=e;rcases e' with ⟨xs,hx,e'⟩|⟨xs,hx,e'⟩|⟨kvs,hx,e'⟩
   ·subst e'
    obtain ⟨its,r,pl,hz⟩:=I.list hx;have hlen:=r.length;exact wpAny_truthy_list pl.isList (by simp only [List.size_toArray];omega) ⟨H,I.tok _,by rw [tu r];exact q⟩
   ·subst e'
    obtain ⟨its,r,pl,hz⟩:=I.tuple hx;have hlen:=r.length;exact truthy_tuple pl (by simp only [List.size_toArray];omega) ⟨H,I.tok _,by rw [tu r];exact q⟩
   ·subst e'
    obtain ⟨hz,hS,vs,r,m⟩:kvs.length<=sizeLine/\(p==sysModules)=false /\ ∃vs,KV kvs vs/\s.heap.DictOf (bV X.prog X.w) p vs:=I.hok p _ hx;have hlen:kvs.length=vs.length:=Paired.length r;exact wpAny_truthy_dict hS m (by omega) ⟨H,I.tok _,by rw [Br r];exact q⟩
 | _=>exact (show False from e).elim
theorem Ij (ha:PE X a ta) (he:∀whole,isTrue a X.env whole=(do let v ←whole;standAt a.pos;holding [v] (truthy v))):
 PT X a (fun σ H Q=>ta σ H fun x H'=>∃k,Td X.K x H' k/\Q k H'):=by
 intro pins s σ H Q I h;exact isTrue_plain (cM (ha pins s σ H _ I h) fun v s1 ⟨x,H1,I1,r1,q1⟩=>Qh pins s1 σ H1 x v Q I1 r1 q1) (he _)
theorem vals1 {x:V} {us:List Value} (r:Vals [x] us):∃u,us=[u]/\RelV x u:=by
 cases r with
 | cons r1 r2=>cases r2;exact ⟨_,rfl,r1⟩
theorem vals2 {x y:V} {us:List Value} (r:Vals [x,y] us):∃u w',us=[u,w']/\RelV x u/\RelV y w':=by
 cases r with
 | cons r1 r2=>
   cases r2 with
   | cons r3 r4=>cases r4;exact ⟨_,_,rfl,r1,r3⟩
theorem zG:fZ X (.builtin "abs") (fun xs H Q=>∃i,xs=[.int i]/\Q (.int (if i<0 then -i else i)) H):=by
 intro pins s σ H xs us Q I r h;obtain ⟨i,rfl,q⟩:=h;obtain ⟨u,rfl,t,rfl⟩:=vals1 r;exact call_abs_int fun u tk=>⟨.int (if i<0 then -i else i),H,I.tok _,⟨_,rfl⟩,q⟩
theorem vB (hc:X.calm=true):fZ X (.builtin "max") (fun xs H Q=>∃i j,xs=[.int i,.int j]/\Q (.int (if j>i then j else i)) H):=by
 intro pins s σ H xs us Q I r h;obtain ⟨i,j,rfl,q⟩:=h;obtain ⟨u,w',rfl,⟨t,rfl⟩,⟨t',rfl⟩⟩:=vals2 r;refine max_two_ints (I.ok.hd hc) fun h' tk k=>⟨_,H,I.kept k, ?_,q⟩
 by_cases hj:j>i
 ·rw [if_pos hj,if_pos hj];exact ⟨_,rfl⟩
 ·rw [if_neg hj,if_neg hj];exact ⟨_,rfl⟩
theorem vA (hc:X.calm=true):fZ X (.builtin "min") (fun xs H Q=>∃i j,xs=[.int i,.int j]/\Q (.int (if j<i then j else i)) H):=by
 intro pins s σ H xs us Q I r h;obtain ⟨i,j,rfl,q⟩:=h;obtain ⟨u,w',rfl,⟨t,rfl⟩,⟨t',rfl⟩⟩:=vals2 r;refine min_two_ints (I.ok.hd hc) fun h' tk k=>⟨_,H,I.kept k, ?_,q⟩
 by_cases hj:j<i
 ·rw [if_pos hj,if_pos hj];exact ⟨_,rfl⟩
 ·rw [if_neg hj,if_neg hj];exact ⟨_,rfl⟩
theorem vC:fZ X (.type "int") (fun xs H Q=>(∃i,xs=[.int i]/\Q (.int i) H) \/ ∃k,xs=[.bl k]/\Q (.int (if k then 1 else 0)) H):=by
 intro pins s σ H xs us Q I r h;rcases h with ⟨i,rfl,q⟩|⟨k,rfl,q⟩
 ·obtain ⟨u,rfl,t,rfl⟩:=vals1 r
  exact call_int_int ⟨.int i,H,I,⟨_,rfl⟩,q⟩
 ·obtain ⟨u,rfl,r1⟩:=vals1 r
  cases r1;exact call_int_bool ⟨.int (if k then 1 else 0),H,I.tok _,⟨_,rfl⟩,q⟩
end
end L2
namespace L2
open PySem PySem.Spec PyProof.Rows
structure Tg (h:Heap) (x dx C:Addr) (mA:Str->Option Value):Prop where
 obj:h.get? x=some (PySem.W.instObj C dx)
 ns:h.Ns1 dx mA
 ne:dx≠x
theorem Gh {h:Heap} {dx:Addr} {mA:Str->Option Value} (n:h.Ns1 dx mA):∃od,h.get? dx=some od /\ ∀name,PySem.W.lookIn name od=some (mA name):=by
 obtain ⟨o,es,ep,ho,hd,hk,_,hm⟩:=n;refine ⟨o,ho,fun name=> ?_⟩;have e:=hm name;unfold nsFind findBy at e;rw [←Array.find?_toList] at e;unfold PySem.W.lookIn;rw [hd];dsimp only;split
 ·rename_i y q
  rw [q] at e;exact congrArg some e
 ·rename_i q
  rw [q] at e
  have a:es.toList.any (·.refKey)=false:=by
   rw [List.any_eq_false];intro y hy;obtain ⟨z,t,hkey⟩:=hk y (Array.mem_toList_iff.mp hy);simp [DictEntry.refKey,hkey]
  have a':¬es.toList.any (·.refKey)=true:=by rw [a];exact Bool.false_ne_true
  rw [if_neg a'];exact congrArg some e
theorem Tg.look {h:Heap} {x dx C:Addr} {mA:Str->Option Value} (I:Tg h x dx C mA):∃od,PySem.W.InstAt h x (PySem.W.instObj C dx) C (some od) /\ ∀name,PySem.W.lookIn name od=some (mA name):=
 let ⟨od,ho,hl⟩:=Gh I.ns
 ⟨od,⟨I.obj,rfl,rfl,ho⟩,hl⟩
section
variable {prog:Program} {w:World} {A:Around} {E:Value->Shared->Prop} {s:Shared} {K:PySem.W.Frag} {x dx C f:Addr} {mA:Str->Option Value} {name:Str} {v:Value}
end
theorem nA.some_of {v:V} {o:Option Value} (r:nA (some v) o):∃u,o=some u/\RelV v u:=by
 cases o with
 | none=>exact (show False from r).elim
 | some u=>exact ⟨u,rfl,r⟩
section
variable {P:Program} {w:World} {H H':Hp} {h h':Heap} {a C dx:Addr} {fs fs':List (Str×V)}
theorem Nk (hok:lM P w H h) (e:H a=some (.ins C dx fs)):∃mA,Tg h a dx C mA/\(∀f,nA (fs.lookup f) (mA f))/\PySem.Within mA (fs.map (·.1))/\fs.length<=1000/\H dx=some (.own a):=by
 obtain ⟨d,z,ne,ob,mA,n,r,q⟩:=(show bD P w H h a (.ins C dx fs) from hok a _ e);exact ⟨mA,⟨ob,n,ne⟩,r,q,z,d⟩
end
structure Cls (K:PySem.W.Frag) (C:Addr):Prop where
 pg:PySem.W.plainGet K C Str.empty=true
 hd:PySem.W.hasDictIn K C=true
 po:PySem.W.plainOver K C=true
 sa:PySem.W.findIn K (.ref C) "__setattr__" = some (some (.builtin "object.__setattr__"))
theorem Cls.get {K:PySem.W.Frag} {C:Addr} (c:Cls K C) (f:Str):PySem.W.plainGet K C f=true:=c.pg
section
variable {X:Cx} {pins:List (Addr×Obj)} {σ:St} {H:Hp} {s:Shared} {a C dx:Addr} {fs:List (Str×V)} {f:Str} {v:V} {A:Around} {E:Value->Shared->Prop}
end
section
variable {X:Cx} {o e value:Expr} {f:Str} {pos pos' tpos:Pos} {ta tv:TE}
end
section
variable {X:Cx} {pins:List (Addr×Obj)} {σ:St} {H:Hp} {s:Shared} {A:Around} {E:Value->Shared->Prop} {Q:Value->Shared->Prop} {c:Value} {b:Bool}
inductive oG (K:PySem.W.Frag) (H:Hp):V->Value->Prop where
 | non:oG K H .non (.type "NoneType")
 | bl (x:Bool):oG K H (.bl x) (.type "bool")
 | int (i:Int):oG K H (.int i) (.type "int")
 | str (x:Str):oG K H (.str x) (.type "str")
 | flt (x:UInt64):oG K H (.flt x) (.type "float")
 | lst {a:Addr} {xs:List V} (e:H a=some (.lst xs)):oG K H (.ref a) (.type "list")
 | gM {a:Addr} {o:Obj} {xs:List V} (e:H a=some (.gM o (.lst xs))):oG K H (.ref a) (.type "list")
 | tup {a:Addr} {xs:List V} (e:H a=some (.tup xs)):oG K H (.ref a) (.type "tuple")
 | dK {a:Addr} {kvs:List (Key×V)} (e:H a=some (.dK kvs)):oG K H (.ref a) (.type "dict")
 | dT {a:Addr} {kvs:List (List Key×V)} (e:H a=some (.dT kvs)):oG K H (.ref a) (.type "dict")
 | ins {a C dx:Addr} {fs:List (Str×V)} (e:H a=some (.ins C dx fs)) (cl:Cls K C) (ha:PySem.W.findIn K (.ref C) "__class__" = some (some (.builtin "object.__class__")))
    (hn:PySem.W.specialIn K (.builtin "object.__class__") "__get__" = some (some (.builtin "getset_descriptor.__get__"))) (htk:PySem.W.takesIn K (.builtin "object.__class__")=some true)
    (hm:PySem.W.mroIn K C (.type "object")=some true):oG K H (.ref a) (.ref C)
theorem Gn {x:V} {u t:Value} (I:Inv X pins σ H s) (rx:RelV x u) (ty:oG X.K H x t) (e:PySem.W.kitOne X.K t c=some b) (h:∀tk,Q (.bool b) {s with toks:=tk}):
 wpAny (model X.prog X.w) A (call (.builtin "isinstance") [u,c]) Q E s:=by
 cases ty with
 | non=>cases (show u=Value.none from rx);exact PySem.W.kia_one PySem.W.kitx_none I.xK True.intro e (fun z=>nomatch z) h
 | bl y=>cases (show u=Value.bool y from rx);exact PySem.W.kia_one PySem.W.kitx_bool I.xK True.intro e (fun z=>nomatch z) h
 | int i=>obtain ⟨t,q⟩:=(show ∃t,u=Value.int i t from rx);cases q;exact PySem.W.kia_one PySem.W.kitx_int I.xK True.intro e (fun z=>nomatch z) h
 | str y=>obtain ⟨t,q⟩:=(show ∃t,u=Value.str y t from rx);cases q;exact PySem.W.kia_one PySem.W.kitx_str I.xK True.intro e (fun z=>nomatch z) h
 | flt y=>obtain ⟨t,q⟩:=(show ∃t,u=Value.float y t from rx);cases q;exact PySem.W.kia_one PySem.W.kitx_float I.xK True.intro e (fun z=>nomatch z) h
 | @lst a xs ea=>
   cases (show u=Value.ref a from rx);obtain ⟨_,_,n,_,h1⟩:=(show bD X.prog X.w H s.heap a (.lst xs) from I.hok a _ ea);exact PySem.W.kia_one PySem.W.kitx_list I.xK ⟨_,h1,rfl⟩ e (fun z=>nomatch z) h
 | @gM a ob xs ea=>
   cases (show u=Value.ref a from rx);obtain ⟨_,_,_,n,_,h1⟩:=(show bD X.prog X.w H s.heap a (.gM ob (.lst xs)) from I.hok a _ ea);exact PySem.W.kia_one PySem.W.kitx_list I.xK ⟨_,h1,rfl⟩ e (fun z=>nomatch z) h
 | @tup a xs ea=>
   cases (show u=Value.ref a from rx);obtain ⟨_,_,_,p⟩:=(show bD X.prog X.w H s.heap a (.tup xs) from I.hok a _ ea);obtain ⟨o,h1,h2,_⟩:=p;exact PySem.W.kia_one PySem.W.kitx_tuple I.xK ⟨o,h1,h2⟩ e (fun z=>nomatch z) h
 | @dK a kvs ea=>
   cases (show u=Value.ref a from rx);obtain ⟨_,_,vs,_,p⟩:=(show bD X.prog X.w H s.heap a (.dK kvs) from I.hok a _ ea);obtain ⟨o,es,ep,h1,h2,_⟩:=p;exact PySem.W.kia_one PySem.W.kitx_dict I.xK ⟨o,h1,h2.1⟩ e (fun z=>nomatch z) h
 | @dT a kvs ea=>
   cases (show u=Value.ref a from rx);obtain ⟨_,_,xs,_,o,es,ep,h1,h2,_⟩:=(show bD X.prog X.w H s.heap a (.dT kvs) from I.hok a _ ea);exact PySem.W.kia_one PySem.W.kitx_dict I.xK ⟨o,h1,h2.1⟩ e (fun z=>nomatch z) h
 | @ins a C dx fs ea cl ha hn htk hm=>
   cases (show u=Value.ref a from rx);obtain ⟨mA,O,_⟩:=Nk I.hok ea;obtain ⟨od,J,_⟩:=O.look;exact PySem.W.kia_one (PySem.W.kitx_own (cl.get _) cl.hd ha hn htk hm) I.xK J e (fun z=>nomatch z) h
end
end L2
namespace L2
open PySem PySem.Spec PyProof.Rows
structure eZ (k:Nat) (A:Around):Prop where
 hd:A.handled=none
 dp:A.depth+3*k+5<recursionLimit
 un:A.units+16*k+200<cLine
theorem eZ.mono {j k:Nat} {A:Around} (r:eZ k A) (h:j<=k):eZ j A:=⟨r.hd,by have:=r.dp;omega,by have:=r.un;omega⟩
theorem eZ.deeper {k:Nat} {A:Around} (r:eZ (k+1) A) (env:Env):eZ k (A.deeper env):=
 ⟨r.hd,by have:=r.dp;show A.depth+1+3*k+5<_;omega,by have:=r.un;show A.units+3+16*k+200<_;omega⟩
theorem eZ.in1 {k:Nat} {A:Around} (r:eZ (k+1) A):eZ k A.in1:=
 ⟨r.hd,by have:=r.dp;show A.depth+3*k+5<_;omega,by have:=r.un;show A.units+1+16*k+200<_;omega⟩
theorem eZ.depth {k:Nat} {A:Around} (r:eZ k A):A.depth<recursionLimit:=by have:=r.dp;omega
theorem eZ.units {k:Nat} {A:Around} (r:eZ k A):A.units+64<cLine:=by have:=r.un;omega
theorem eZ.Qe {k:Nat} {A:Around} (r:eZ k A):A.units<cLine:=by have:=r.un;omega
def vR:TA:=fun _ H Q=>Q [] H
def jC (ta:TE) (tr:TA):TA:=fun σ H Q=>ta σ H fun x H1=>tr σ H1 fun xs H2=>Q (x::xs) H2
section
variable {X:Cx} {e:Expr} {es:List Expr} {te:TE} {t:TA} {pos:Pos}
theorem aq:PA X [] vR:=fun _ _ _ _ H Q I h=>Calls.spliced_nil ⟨[],H,I,.nil,h⟩
theorem aj (ha:PE X e te) (hr:PA X es t) (hs:starEach (e::es) X.env=(false,eval e X.env)::starEach es X.env:=by rfl):PA X (e::es) (jC te t):=by
 intro pos pins s σ H Q I h;rw [hs];show wpAny _ _ (spliced ((false,eval e X.env)::backTo pos (starEach es X.env))) _ _ s;refine Calls.spliced_cons (cM (ha pins s σ H _ I h) fun u s1 ⟨x,H1,I1,r1,q1⟩=> ?_);exact cM (hr pos pins s1 σ H1 _ I1 q1) fun us s2 ⟨xs,H2,I2,r2,q2⟩=>⟨x::xs,H2,I2,.cons r1 r2,q2⟩
def Ue (t:TA):TE:=fun σ H Q=>t σ H fun xs H1=>xs.length<=sizeLine /\ ∀p,H1 p=none->Q (.ref p) (upd H1 p (.tup xs))
def Uk (t:TA):TE:=fun σ H Q=>t σ H fun xs H1=>xs.length<=sizeLine /\ ∀p,H1 p=none->Q (.ref p) (upd H1 p (.lst xs))
theorem iW {x1} (h:PA X es t):PE X (.Tuple es x1 pos) (Ue t):=by
 intro pins s σ H Q I hq;refine wpAny_Tuple_spliced (cM (h pos pins s σ H _ I hq) fun us s1 ⟨xs,H1,I1,r,z,q⟩=>⟨by rw [←r.length];exact z, ?_⟩);have hf:H1 s1.heap.objs.size=none:=I1.hok.fresh (Nat.le_refl _);refine ⟨.ref s1.heap.objs.size,upd H1 s1.heap.objs.size (.tup xs),I1.laid (t':=s1.toks) (fun b u e=>Heap.get?_push_of_some _ e) (Nat.le_refl _) ?_,rfl,q _ hf⟩;exact ⟨z,us,r,⟨_,Heap.get?_push_size _ rfl,rfl,_,rfl⟩⟩
theorem fu (h:PA X es t):PE X (.List es pos) (Uk t):=by
 intro pins s σ H Q I hq;refine wpAny_List_spliced (cM (h pos pins s σ H _ I hq) fun us s1 ⟨xs,H1,I1,r,z,q⟩=>⟨by rw [←r.length];exact z, ?_⟩);have hf:H1 s1.heap.objs.size=none:=I1.hok.fresh (Nat.le_refl _);refine ⟨.ref s1.heap.objs.size,upd H1 s1.heap.objs.size (.lst xs),I1.laid (t':=s1.toks) (fun b u e=>Heap.get?_push_of_some _ e) (Nat.le_refl _) ?_,rfl,q _ hf⟩;exact ⟨z,us,0,r,Heap.get?_push_size _ rfl⟩
end
abbrev Sp:=List V->Hp->VK->XK->Prop
abbrev G4:=List Env->Hp->Shared->XK->Value->Shared->Prop
structure xu (P:Program) (w:World) (K:PySem.W.Frag) (mg:Str->Option Value) (base:Heap) (A:Around) (outer:List Env) (s:Shared) (H:Hp):Prop where
 frames:A.frames=some outer
 mod:Mod K mg base
 bs:∀b o,base.get? b=some o->s.heap.get? b=some o/\H b=none
 KJ:base.objs.size<=s.heap.objs.size
 qG:s.heap.FunFrames base outer
 Sd:∀b∈frs outer,H b=none
 hok:lM P w H s.heap
 bare:AllBare s.gens
def CE (outer:List Env) (P:Program) (w:World) (H:Hp) (s:Shared) (Q:VK) (u:Value) (s':Shared):Prop:=
 ∃v H',s'.os=s.os/\AllBare s'.gens/\Un (frs outer) [] H H' s.heap s'.heap/\lM P w H' s'.heap/\RelV v u/\Q v H'
def CR (CX:G4) (outer:List Env) (P:Program) (w:World) (H:Hp) (s:Shared) (Q:VK) (E:XK) (r:Result) (s':Shared):Prop:=
 match r with
 | .ok (.ret u)=>CE outer P w H s Q u s'
 | .ok _=>False
 | .error e=>CX outer H s E e s'
structure cX (P:Program) (w:World) (K:PySem.W.Frag) (mg:Str->Option Value) (base:Heap) (CX:G4) (k:Nat) (f:Addr) (fd:FuncData) (ps:List Str) (sp:Sp):Prop where
 len:∀vs H Q E,sp vs H Q E->vs.length=ps.length
 run:∀(A:Around) (outer:List Env) (s:Shared) (H:Hp) (args:Args) (us:List Value) (vs:List V) (Q:VK) (E:XK),eZ k A->xu P w K mg base A outer s H->BindsTo s fd args (ps.zip us)->Vals vs us->sp vs H Q E ->
  codeAny (model P w) A (.call (.ref f) args) (CR CX outer P w H s Q E) s
theorem xu.in1 {P:Program} {w:World} {K:PySem.W.Frag} {mg:Str->Option Value} {base:Heap} {A:Around} {outer:List Env} {s:Shared} {H:Hp} (e:xu P w K mg base A outer s H):
 xu P w K mg base A.in1 outer s H:=⟨e.frames,e.mod,e.bs,e.KJ,e.qG,e.Sd,e.hok,e.bare⟩
section
variable {X:Cx} {pins:List (Addr×Obj)} {σ:St} {H:Hp} {s s':Shared}
theorem Inv.env0 (I:Inv X pins σ H s):xu X.prog X.w X.K X.mg X.base X.A X.stack s H:=
 ⟨I.ok.frames,I.ok.mod,I.bs,Nat.le_trans I.ok.KJ I.sz,I.stack,I.vV,I.hok,I.bare⟩
theorem Inv.after {Q:VK} {u:Value} (I:Inv X pins σ H s) (h:CE X.stack X.prog X.w H s Q u s'):EP X pins σ Q u s':=by
 obtain ⟨v,H',os,bare,un,hok,r,q⟩:=h;obtain ⟨hh,g,d,t,os'⟩:=s';obtain rfl:os'=s.os:=os;exact ⟨v,H',I.call (h':=hh) (g':=g) (d':=d) (t':=t) (ch:=[]) un hok bare (fun b z=>absurd z (by simp)),r,q⟩
end
def xZ (sp:Sp) (Ln:List V) (E:XK) (t:TA):TE:=fun σ H Q=>t σ H fun vs H1=>sp (vs++Ln) H1 Q E
def Binds (K:PySem.W.Frag) (fd:FuncData) (ps:List Str) (ds:List Value):Prop:=
 ∀(s:Shared) (us:List Value),K.In s.heap->(us++ds).length=ps.length->BindsTo s fd ⟨us,[]⟩ (ps.zip (us++ds))
theorem Binds.all {K:PySem.W.Frag} {fd:FuncData} {ps:List Str} (h:∀us:List Value,us.length=ps.length->bindArgs fd ⟨us,[]⟩=pure (ps.zip us)):Binds K fd ps []:=fun s us _ hl=>by
 rw [List.append_nil] at hl ⊢;exact .of_eq (h us hl)
def Passes (CX:G4) (X:Cx) (E:XK):Prop:=∀(pins:List (Addr×Obj)) (σ:St) (H:Hp) (s:Shared) (e:Value) (s':Shared),Inv X pins σ H s->CX X.stack H s E e s'->X.xe e s'
section
variable {X:Cx} {CX:G4} {k:Nat} {f C:Addr} {fd:FuncData} {ps:List Str} {sp:Sp} {Ln:List V} {ds:List Value} {E:XK} {x m:Str} {p pos apos:Pos} {e o:Expr} {es:List Expr} {ta:TE} {t:TA}
theorem QK {pins:List (Addr×Obj)} {σ:St} {H:Hp} {s:Shared} {Q:VK} {us:List Value} {vs:List V} (F:cX X.prog X.w X.K X.mg X.base CX k f fd ps sp) (hr:eZ k X.A) (hb:Binds X.K fd ps ds) (hd:Vals Ln ds) (hx:Passes CX X E)
 (I:Inv X pins σ H s) (r:Vals vs us) (h:sp (vs++Ln) H Q E):wpAny (model X.prog X.w) X.A (call (.ref f) us) (EP X pins σ Q) X.xe s:=by
 have r2:Vals (vs++Ln) (us++ds):=r.append hd;have hl:(us++ds).length=ps.length:=by rw [←r2.length];exact F.len _ _ _ _ h
 refine wpAny_call (codeAny_mono (F.run X.A X.stack s H ⟨us,[]⟩ (us++ds) (vs++Ln) Q E hr I.env0 (hb s us I.xK hl) r2 h) fun r s' hq=> ?_);cases r with
 | error e=>exact hx pins σ H s e s' I hq
 | ok fl=>
   cases fl with
   | ret u=>exact I.after hq
   | next=>exact False.elim hq
   | brk=>exact False.elim hq
   | cont=>exact False.elim hq
theorem Mw (F:cX X.prog X.w X.K X.mg X.base CX k f fd ps sp) (hr:eZ k X.A) (hg:Gl X x) (hm:X.mg x=some (.ref f)) (hk:PySem.W.keepIn X.K (.ref f)=true) (hb:Binds X.K fd ps ds) (hd:Vals Ln ds) (hx:Passes CX X E)
 (ha:PA X (e::es) t) (hdb:(x==("__debug__" :Str))=false:=by decide) (he:starEach (e::es) X.env=(false,eval e X.env)::starEach es X.env:=by rfl) (hpl:(backTo pos (starEach es X.env)).any (·.1)=false:=by rfl):
 PE X (.Call (.Name x p) (e::es) [] pos) (xZ sp Ln E t):=by
 intro pins s σ H Q I h;refine wpAny_Call_Name_kw (M8 I hg hm ?_ hdb);refine PySem.W.callWith_K (h₀:=X.base) I.ok.mod.kin hk (cM (ha pos pins s σ H _ I h) fun us s1 ⟨vs,H1,I1,r,q⟩=>⟨I1.xK, ?_⟩) he hpl;exact QK F hr hb hd hx I1 r q
end
section
variable {X:Cx} {CX:G4} {k:Nat} {f C:Addr} {fd:FuncData} {ps ks:List Str} {sp:Sp} {E:XK} {x m:Str} {p pos apos kpos:Pos} {e o:Expr} {es:List Expr} {kws:List Keyword} {te ta:TE} {t tk:TA} {nm:Option Str}
variable {g:List Value->List Value->List Value} {gV:List V->List V->List V}
end
structure aX (N P:List Str) (sc:Scope):Prop where
 kind:sc.kind = .function
 co:sc.isCoroutine=false
 gen:sc.isGenerator=false
 nd:N.Nodup
 pre:N.take P.length=P
 par:∀x∈P,sc.names.lookup x=some .local\/sc.names.lookup x=some .cell
 Rg:∀y∈sc.names,y.2 ≠ .free
theorem vD {kindOf:Str->Option NameKind} {x:Str}:∀{binds:List (Str×Value)} {m:Str->Option Value},(∀v,(x,v)∉binds)->bindL kindOf binds m x=m x
 | [],_,_=>rfl
 | (n,v)::r,m,h=>by
   unfold bindL;rw [vD fun w hw=>h w (List.mem_cons_of_mem _ hw)];split
   ·have:x≠n:=by rintro rfl;exact h v List.mem_cons_self
    simp [this]
   ·rfl
theorem vH {kindOf:Str->Option NameKind} {x:Str}:∀{binds:List (Str×Value)} {m:Str->Option Value},(∀v,(x,v)∉binds)->bindC kindOf binds m x=m x
 | [],_,_=>rfl
 | (n,v)::r,m,h=>by
   unfold bindC;rw [vH fun w hw=>h w (List.mem_cons_of_mem _ hw)];split
   ·rfl
   ·have:x≠n:=by rintro rfl;exact h v List.mem_cons_self
    simp [this]
theorem vG {kindOf:Str->Option NameKind} {x:Str} {v:Value}:∀{P:List Str} {vs:List Value} {i:Nat} {m:Str->Option Value},P.Nodup->P[i]? = some x->vs[i]? = some v->kindOf x=some .local ->
 bindL kindOf (P.zip vs) m x=some v
 | [],_,_,_,_,h,_,_=>by simp at h
 | _::_,[],_,_,_,_,h,_=>by simp at h
 | p::P,w::vs,0,m,nd,h1,h2,hk=>by
   simp at h1 h2;subst h1;subst h2;show bindL kindOf ((p,w)::P.zip vs) m p=_;unfold bindL;rw [vD fun v hv=>(List.nodup_cons.mp nd).1 (List.of_mem_zip hv).1,if_pos hk];simp
 | p::P,w::vs,i+1,m,nd,h1,h2,hk=>by
   show bindL kindOf ((p,w)::P.zip vs) m x=_;unfold bindL;exact vG (i:=i) (List.nodup_cons.mp nd).2 (by simpa using h1) (by simpa using h2) hk
theorem vI {kindOf:Str->Option NameKind} {x:Str} {v:Value}:∀{P:List Str} {vs:List Value} {i:Nat} {m:Str->Option Value},P.Nodup->P[i]? = some x->vs[i]? = some v->kindOf x≠some .local ->
 bindC kindOf (P.zip vs) m x=some v
 | [],_,_,_,_,h,_,_=>by simp at h
 | _::_,[],_,_,_,_,h,_=>by simp at h
 | p::P,w::vs,0,m,nd,h1,h2,hk=>by
   simp at h1 h2;subst h1;subst h2;show bindC kindOf ((p,w)::P.zip vs) m p=_;unfold bindC;rw [vH fun v hv=>(List.nodup_cons.mp nd).1 (List.of_mem_zip hv).1,if_neg hk];simp
 | p::P,w::vs,i+1,m,nd,h1,h2,hk=>by
   show bindC kindOf ((p,w)::P.zip vs) m x=_;unfold bindC;exact vI (i:=i) (List.nodup_cons.mp nd).2 (by simpa using h1) (by simpa using h2) hk
def start (N:List Str) (vs:List V):St:=vs.map some++List.replicate (N.length - vs.length) none
def wQ (CX:G4) (P:Program) (w:World) (K:PySem.W.Frag) (mg:Str->Option Value) (base:Heap) (N:List Str) (qual:Str) (scope:Scope) (f:Addr) (cd:Value) (A:Around) (outer:List Env) (s:Shared) (H:Hp) (E:XK):Cx where
 prog:=P
 w:=w
 K:=K
 mg:=mg
 base:=base
 A:=A.deeper (envOfC qual scope s.heap.objs.size f cd)
 N:=N
 s₀:=s
 H₀:=H
 env:=envOfC qual scope s.heap.objs.size f cd
 outer:=outer
 stack:=envOfC qual scope s.heap.objs.size f cd::outer
 ex:=[]
 calm:=true
 fn:=fun _=>true
 pn:=[]
 xe:=fun e s'=>wpAny (model P w) (A.deeper (envOfC qual scope s.heap.objs.size f cd)) (leaving (envOfC qual scope s.heap.objs.size f cd) e) (fun _ s''=>CX outer H s E e s'') (fun e' s''=>CX outer H s E e' s'') s'
theorem zF {sc:Scope} {n:Nat} {x:Str} (h:sc.names.lookup x=some .cell):∃c,(cellsFrom n sc.names []).lookup x=some c:=by
 have q:=PySem.W.cellsFrom_some sc.names n [] (.inl h);exact Option.isSome_iff_exists.mp q
theorem u9 {CX:G4} {P:Program} {w:World} {K:PySem.W.Frag} {mg:Str->Option Value} {base:Heap} {N ps:List Str} {qual:Str} {scope:Scope} {f:Addr} {cd:Value} {A:Around} {outer:List Env} {s s1:Shared} {H:Hp} {E:XK} {us:List Value} {vs:List V}
 (S:aX N ps scope) (hd:A.handled=none) (e0:xu P w K mg base A outer s H) (hl:vs.length=ps.length) (r:Vals vs us)
 (x:InCallC s s.heap.objs.size (bindL (envOfC qual scope s.heap.objs.size f cd).kindOf (ps.zip us) fun _=>none) (cellsFrom (s.heap.objs.size+1) scope.names []) (bindC (envOfC qual scope s.heap.objs.size f cd).kindOf (ps.zip us) fun _=>none) s1):
 Inv (wQ CX P w K mg base N qual scope f cd A outer s H E) [] (start N vs) H s1:=by
 have hpl:ps.length<=N.length:=by have:=congrArg List.length S.pre;rw [List.length_take] at this;omega
 obtain ⟨h1,tk,rfl,hk⟩:=x.done;have Rh:∀b:Addr,b∉(wQ CX P w K mg base N qual scope f cd A outer s H E).ex:=fun b z=>absurd (show b∈([]:List Addr) from z) (by simp)
 refine ⟨⟨e0.mod,S.kind,rfl,rfl,Nat.le_refl _,fun y z c h1 h2=> ?_,fun y hy=> ?_,fun y c _ h=> ?_,fun _=>hd,Around.frames_deeper e0.frames,.inr ⟨rfl,rfl⟩,fun b z=>absurd z (Rh b),e0.bs,e0.KJ,fun b _ _=>Rh b,fun b z=>absurd z (Rh b),e0.qG,e0.Sd⟩,
  rfl,e0.bare,Un.kept hk,⟨_,x.toInCall.ns,fun i y v h1 h2 h3=> ?_⟩,fun y c h=>⟨_,x.cell y c h⟩,e0.hok.fresh (Nat.le_refl _),fun y c h=> ?_,fun p hp=>absurd (show p∈([]:List (Addr×Obj)) from hp) (by simp),e0.hok.kept hk, ?_⟩
 ·exact name_of_addr x.apart (PySem.mem_of_lookup h1) (PySem.mem_of_lookup h2)
 ·have hy:scope.names.lookup y=some .cell\/scope.names.lookup y=some .free:=hy
  rcases hy with hy|hy
  ·exact zF hy
  ·exact absurd rfl (S.Rg _ (PySem.mem_of_lookup hy))
 ·exact Nat.le_of_lt (x.above y c (PySem.mem_of_lookup h))
 ·have hi:i<vs.length:=by
   unfold start at h2
   by_cases hi:i<vs.length
   ·exact hi
   ·rw [List.getElem?_append_right (by simpa using hi)] at h2
    rw [List.getElem?_replicate] at h2;split at h2<;>cases h2
  have ha:vs[i]? = some v:=by
   unfold start at h2;rw [List.getElem?_append_left (by simpa using hi),List.getElem?_map] at h2;cases e:vs[i]? with
   | none=>rw [e] at h2;cases h2
   | some a=>rw [e] at h2;cases h2;rfl
  obtain ⟨u,hu,rv⟩:=r.get ha
  have hp:ps[i]? = some y:=by
   rw [←S.pre,List.getElem?_take_of_lt (by omega)];exact h1
  have ndP:ps.Nodup:=by rw [←S.pre];exact S.nd.sublist (List.take_sublist _ _)
  refine ⟨u,rv, ?_⟩;rcases S.par y (List.mem_of_getElem? hp) with k|k
  ·exact .inl ⟨k,vG ndP hp hu k⟩
  ·obtain ⟨c,e⟩:=zF (n:=s.heap.objs.size+1) k
   refine .inr ⟨.inl k,c,e, ?_⟩;have q:=x.cell y c e;rw [vI ndP hp hu (by show scope.names.lookup y≠_;rw [k];decide)] at q;exact q
 ·exact e0.hok.fresh (Nat.le_of_lt (x.above y c (PySem.mem_of_lookup h)))
 ·unfold start
  show _=N.length;rw [List.length_append,List.length_map,List.length_replicate];omega
theorem Pq {CX:G4} {P:Program} {w:World} {K:PySem.W.Frag} {mg:Str->Option Value} {base:Heap} {k:Nat} {f:Addr} {name qual:Str} {params:Arguments} {body:List Stmt} {scope:Scope} {dV kV doc pm cdv ct oc:Value} {an od:Option Addr}
 {osl:Array (Option Value)} {N ps:List Str} {sp:Sp} (lk:K.lookup f=some ⟨oc,od,.func (PySem.W.fnOf name qual params body scope dV kV doc pm an cdv ct),osl⟩) (hcd:PySem.W.codeIn K cdv qual=true) (S:aX N ps scope)
 (len:∀vs H Q E,sp vs H Q E->vs.length=ps.length)
 (hbody:∀(A:Around) (outer:List Env) (s:Shared) (H:Hp) (vs:List V) (Q:VK) (E:XK),eZ k (A.deeper (envOfC qual scope s.heap.objs.size f cdv))->sp vs H Q E ->
   ∃t,Eo (wQ CX P w K mg base N qual scope f cdv A outer s H E) body t/\t {nx:=fun _ H'=>Q .non H',rt:=Q} (start N vs) H):
 cX P w K mg base CX (k+1) f (PySem.W.fnOf name qual params body scope dV kV doc pm an cdv ct) ps sp:=by
 refine ⟨len,fun A outer s H args us vs Q E hr e0 hb r hsp=> ?_⟩;have hl:=len _ _ _ _ hsp;have KX:K.In s.heap:=e0.mod.kin.keeps fun b o e=>(e0.bs b o e).1;have lim:s.heap.NoLimit:=e0.mod.nolimit.keeps fun b o e=>(e0.bs b o e).1
 have hkind:∀y∈ps.zip us,scope.names.lookup y.1=some .local\/(scope.names.lookup y.1=some .cell/\((cellsFrom (s.heap.objs.size+1) scope.names []).lookup y.1).isSome=true):=fun ⟨n,v⟩ hy=>by
  rcases S.par n (List.of_mem_zip hy).1 with q|q
  ·exact .inl q
  ·exact .inr ⟨q,PySem.W.cellsFrom_some _ _ _ (.inl q)⟩
 refine codeAny_call_function hr.depth (KX _ _ lk) rfl S.co S.gen rfl (PySem.W.codeRec_of KX hcd) (hb _ _ _ _ ?_);refine wpAny_newFunctionEnv_cells S.kind hkind fun env he s1 x=> ?_;subst he;refine ⟨lim.keeps x.toInCall.keep,codeAny_func ?_⟩;obtain ⟨t,ht,hq⟩:=hbody A outer s H vs Q E (hr.deeper _) hsp;have I:Inv (wQ CX P w K mg base N qual scope f cdv A outer s H E) [] (start N vs) H s1:=u9 S hr.hd e0 hl r x;refine wpAny_mono (ht [] s1 (start N vs) H _ I hq) (fun fl s' hs=> ?_) fun e s' hs=>hs
 have fin:∀{σ':St} {H':Hp} {v:V} {u:Value},Inv (wQ CX P w K mg base N qual scope f cdv A outer s H E) [] σ' H' s'->RelV v u->Q v H'->CE outer P w H s Q u s':=
  fun {σ' H' v u} J rv q=>⟨v,H',J.os,J.bare,J.base,J.hok,rv,q⟩
 cases fl with
 | ret u=>
   obtain ⟨v,σ',H',J,rv,q⟩:=hs;exact fin J rv q
 | next=>
   obtain ⟨σ',H',J,q⟩:=hs;exact fin (v:=V.non) (u:=Value.none) J rfl q
 | brk=>
   obtain ⟨_,_,_,q⟩:=hs;exact False.elim q
 | cont=>
   obtain ⟨_,_,_,q⟩:=hs;exact False.elim q
end L2
namespace L2
open PySem PySem.Spec PyProof.Rows
section
variable {X:Cx} {x:Str} {p pos:Pos} {e:Expr} {es:List Expr} {t:TA} {id T:String} {r:List V->Hp->VK->Prop}
def Zh (r:List V->Hp->VK->Prop) (t:TA):TE:=fun σ H Q=>t σ H fun vs H1=>r vs H1 Q
theorem bw (hc:fZ X (.builtin id) r) (hg:Gl X x) (hm:X.mg x=none) (hv:bootBuiltins x=some (.builtin id)) (ha:PA X (e::es) t) (hn:x ≠ "__name__" :=by decide) (hdb:(x==("__debug__" :Str))=false:=by decide)
 (he:starEach (e::es) X.env=(false,eval e X.env)::starEach es X.env:=by rfl) (hpl:(backTo pos (starEach es X.env)).any (·.1)=false:=by rfl):PE X (.Call (.Name x p) (e::es) [] pos) (Zh r t):=by
 intro pins s σ H Q I h;refine wpAny_Call_Name_kw (m6 I hg hm hv ?_ hn hdb);exact PyProof.Rows.callWith_builtin1 (cM (ha pos pins s σ H _ I h) fun us s1 ⟨vs,H1,I1,r1,q1⟩=>hc pins s1 σ H1 vs us Q I1 r1 q1) he hpl
theorem lW (hc:fZ X (.type T) r) (hg:Gl X x) (hm:X.mg x=none) (hv:bootBuiltins x=some (.type T)) (ha:PA X (e::es) t) (hn:x ≠ "__name__" :=by decide) (hdb:(x==("__debug__" :Str))=false:=by decide)
 (he:starEach (e::es) X.env=(false,eval e X.env)::starEach es X.env:=by rfl) (hpl:(backTo pos (starEach es X.env)).any (·.1)=false:=by rfl):PE X (.Call (.Name x p) (e::es) [] pos) (Zh r t):=by
 intro pins s σ H Q I h;refine wpAny_Call_Name_kw (m6 I hg hm hv ?_ hn hdb);exact PyProof.Rows.callWith_type1 (cM (ha pos pins s σ H _ I h) fun us s1 ⟨vs,H1,I1,r1,q1⟩=>hc pins s1 σ H1 vs us Q I1 r1 q1) he hpl
end
end L2
namespace HT
open PySem PyProof.Rows
def lexLt:List Int->List Int->Bool
 | [],[]=>false
 | [],_::_=>true
 | _::_,[]=>false
 | x::xs,y::ys=>if x=y then lexLt xs ys else decide (x<y)
theorem i_ (x y:Int) (xs ys:List Int):lexLt (x::xs) (y::ys)=if x=y then lexLt xs ys else decide (x<y):=rfl
theorem uH:lexLt [] []=false:=rfl
theorem sJ (y:Int) (ys:List Int):lexLt [] (y::ys)=true:=rfl
theorem sO (x:Int) (xs:List Int):lexLt (x::xs) []=false:=rfl
theorem Ke (A:Around) (s:Shared) (a:Int) (t:Tok) (c:Int) (u:Tok):∃e,SeqAt.EqAt A s (.int a t) (.int c u) e/\(e=true↔a=c):=
 ⟨(a==c),SeqAt.EqAt.int_int a t c u,by simp⟩
theorem Ib (A:Around) (s:Shared) (a:Int) (t:Tok) (c:Int) (u:Tok) (prog:Program) (w:World) (E:Value->Shared->Prop) (Q:Value->Shared->Prop) (h:Q (.bool (decide (a<c))) s):
 wpAny (model prog w) A (richCompare .Lt (.int a t) (.int c u)) Q E s:=
 (PyProof.Rows.lt_int h:wpAny (model prog w) A (compareOp .Lt (.int a t) (.int c u)) Q E s)
section
open PySem.SeqAt
open PySem.AutoSeq1 (wpAny_loadPart')
open PySem.MeetsSeq PySem.MeetsSeq2 PySem.MeetsSeq3
theorem uD (l b:Addr) (items items2:Array Value) (n n2:Nat) (dd dd2:Option Addr) (sl sl2:Array (Option Value)) (ns ms:List Int) (hi:IntsAre items.toList ns) (hj:IntsAre items2.toList ms):
 Meets (Builtin.«tuple.__lt__» ⟨[.ref l,.ref b],[]⟩)
  (fun _ R s=>s.heap.get? l=some {cls:= .type "tuple",dict:=dd,data:= .seq items n,slots:=sl}/\s.heap.get? b=some {cls:= .type "tuple",dict:=dd2,data:= .seq items2 n2,slots:=sl2} /\
    R (.ok (.ret (.bool (lexLt ns ms)))) s):=
 .of_wp fun prog w A R s h=>by
  obtain ⟨hp,g,d,tk,os⟩:=s;obtain ⟨hl,hb,h⟩:=h;have f2:=AutoSeq1.sub_tuple_tuple;have z1:items.size=ns.length:=by rw [←hi.length];simp
  have z2:items2.size=ms.length:=by rw [←hj.length];simp
  wp_walk using wpAny_loadPart' hl,wpAny_loadPart' hb,wpAny_forIn_list _ (fun rest b s'=>b.1=none/\s'=⟨hp,g,d,tk,os⟩ /\ ∃(vs ws:List Value) (ns' ms':List Int),rest=vs.zip ws /\
   IntsAre vs ns'/\IntsAre ws ms'/\ns'.length+items2.size=ms'.length+items.size/\R (.ok (.ret (.bool (lexLt ns' ms')))) ⟨hp,g,d,tk,os⟩) _
  case turn=>
   rintro ⟨y,x⟩ rest b s' ⟨hb',rfl,vs,ws,ns',ms',hz,hvi,hwi,hlen,hR⟩;cases hvi with
   | nil=>rw [List.zip_nil_left] at hz;cases hz
   | cons a t acu=>
     cases hwi with
     | nil=>rw [List.zip_nil_right] at hz;cases hz
     | cons c u acr=>
       rw [List.zip_cons_cons] at hz;injection hz with hyx hrest
       injection hyx with hy hx
       subst hy hx;rw [i_] at hR;simp only [List.length_cons] at hlen;obtain ⟨e,he,hiff⟩:=Ke A.in1 ⟨hp,g,d,tk,os⟩ a t c u;refine wpAny_bind (he prog w _ _ ?_);cases e with
       | true=>
         rw [if_pos (hiff.mp rfl)] at hR
         wp_walk
         exact ⟨rfl,rfl,_,_,_,_,hrest,acu,acr,by omega,hR⟩
       | false=>
         rw [if_neg (fun q=>absurd (hiff.mpr q) Bool.false_ne_true)] at hR;have hri:=Ib A.in1 ⟨hp,g,d,tk,os⟩ a t c u prog w
         wp_walk using hri
         exact ⟨_,rfl,by simpa using hR⟩
  case fin=>
   rintro ⟨b1,b2⟩ s' ⟨hb',rfl,vs,ws,ns',ms',hz,hvi,hwi,hlen,hR⟩;simp only at hb';subst hb'
   have hv:lexLt ns' ms'=decide (items.size<items2.size):=by
    cases hvi with
    | nil=>
      cases hwi with
      | nil=>
        simp only [List.length_nil] at hlen;rw [uH];exact (decide_eq_false (by omega)).symm
      | cons c u hw=>
        simp only [List.length_nil,List.length_cons] at hlen;rw [sJ];exact (decide_eq_true (by omega)).symm
    | cons a t hv=>
      cases hwi with
      | nil=>
        simp only [List.length_nil,List.length_cons] at hlen;rw [sO];exact (decide_eq_false (by omega)).symm
      | cons c u hw=>
        rw [List.zip_cons_cons] at hz;cases hz
   rw [hv] at hR
   wp_walk
   exact ⟨_,rfl,by simpa [Builtin.Tuple.tupleCompareSizes] using hR⟩
  case h=>
   exact ⟨rfl,rfl,items.toList,items2.toList,ns,ms,rfl,hi,hj,by omega,h⟩
end
section
variable {prog:Program} {w:World} {A:Around} {E:Value->Shared->Prop} {s:Shared}
theorem Bq {l b:Addr} {items items2:Array Value} {ns ms:List Int} {Q:Value->Shared->Prop} (hl:IsTup s.heap l items) (hb:IsTup s.heap b items2) (hi:IntsAre items.toList ns) (hj:IntsAre items2.toList ms)
 (hu:A.units<cLine) (h:Q (.bool (lexLt ns ms)) s):wpAny (model prog w) A (compareOp .Lt (.ref l) (.ref b)) Q E s:=by
 obtain ⟨⟨cls,dd,data,sl⟩,ho,hc,n,hd⟩:=id hl;obtain ⟨⟨cls2,dd2,data2,sl2⟩,ho2,hc2,n2,hd2⟩:=id hb;simp only at hc hd hc2 hd2;subst hc hd hc2 hd2
 exact richCompare_meets_room (op:= .Lt) ⟨_,ho,rfl⟩ ⟨_,ho2,rfl⟩ PySem.F.slot_tuple_lt PySem.F.entry_tuple_lt (PySem.F.args_tuple_lt_2 _ _) (uD l b items items2 n n2 dd dd2 sl sl2 ns ms hi hj)
  ⟨ho,ho2,show Value.bool (lexLt ns ms)≠Value.notImplemented/\Q (.bool (lexLt ns ms)) s from ⟨(fun x=>nomatch x),h⟩⟩ hu
theorem Od {t b:Addr} {vs ws:List Value} {Q:Value->Shared->Prop} (ht:IsTup s.heap t vs.toArray) (hb:IsTup s.heap b ws.toArray) (hv:vs≠[])
 (h1:ws=[]->Q (.ref t) s) (h2:ws≠[]->Q (.ref s.heap.objs.size) {s with heap:=s.heap.push {cls:= .type "tuple",data:= .seq (vs++ws).toArray}})
 (hsz:vs.length+ws.length<=sizeLine):wpAny (model prog w) A (binaryOp .Add (.ref t) (.ref b)) Q E s:=by
 obtain ⟨⟨cls,dd,data,sl⟩,ho,hc,n,hd⟩:=id ht;obtain ⟨⟨cls2,dd2,data2,sl2⟩,ho2,hc2,n2,hd2⟩:=id hb;simp only at hc hd hc2 hd2;subst hc hd hc2 hd2;have e:vs.toArray++ws.toArray=(vs++ws).toArray:=by simp
 by_cases hw:ws=[]
 ·exact concat_meets ⟨_,ho,rfl⟩ ⟨_,ho2,rfl⟩ noFill_tuple_add seq_tuple_add PySem.F.slot_tuple_add PySem.F.entry_tuple_add (PySem.F.args_tuple_add_2 _ _)
   (tuple_addW1 t b vs.toArray ws.toArray n n2 dd dd2 sl sl2 (by simpa using hv) (by simp [hw])) ⟨ho,ho2,h1 hw⟩
 ·refine concat_meets ⟨_,ho,rfl⟩ ⟨_,ho2,rfl⟩ noFill_tuple_add seq_tuple_add PySem.F.slot_tuple_add PySem.F.entry_tuple_add (PySem.F.args_tuple_add_2 _ _)
   (tuple_addW2 t b vs.toArray ws.toArray n n2 dd dd2 sl sl2 (by simpa using hv) (by simpa using hw) (by rw [List.size_toArray,List.size_toArray];exact hsz)) ⟨ho,ho2, ?_⟩
  rw [e];exact h2 hw
def gb (n d:Nat):Option Int->Nat
 | none=>d
 | some v=>if v<0 then (v+(n:Int)).toNat else min v.toNat n
theorem rO (n d:Nat):gb n d none=d:=rfl
theorem v9 (n d k:Nat):gb n d (some (k:Int))=min k n:=by
 show (if (k:Int)<0 then ((k:Int)+(n:Int)).toNat else min (k:Int).toNat n)=min k n;rw [if_neg (by omega),Int.toNat_natCast]
theorem QG (n d:Nat) (hd:d<=n) (o:Option Int):gb n d o<=n:=by
 cases o with
 | none=>exact hd
 | some v=>
   show (if v<0 then (v+(n:Int)).toNat else min v.toNat n)<=n
   by_cases hv:v<0
   ·rw [if_pos hv];omega
   ·rw [if_neg hv];exact Nat.min_le_right _ _
theorem El (v:Int) (n d:Nat):(if v<0 then max (v+(n:Int)) 0 else min v (n:Int))=((gb n d (some v):Nat):Int):=by
 show (if v<0 then max (v+(n:Int)) 0 else min v (n:Int))=(((if v<0 then (v+(n:Int)).toNat else min v.toNat n):Nat):Int)
 by_cases hv:v<0
 ·simp only [if_pos hv];omega
 ·simp only [if_neg hv];omega
theorem Cr (lo hi:Option Int) (n:Nat):Builtin.Slice.sliceAdjust lo hi 1 (n:Int)=(((gb n 0 lo:Nat):Int),((gb n n hi:Nat):Int)):=by
 have h1:¬((1:Int)<0):=by omega
 unfold Builtin.Slice.sliceAdjust;simp only [h1,if_false];refine Prod.ext ?_ ?_
 ·cases lo with
  | none=>rfl
  | some v=>exact El v n 0
 ·cases hi with
  | none=>rfl
  | some v=>exact El v n n
theorem Aw (i j:Nat):Builtin.Slice.slicePlaces (i:Int) (j:Int) 1=j - i:=by
 unfold Builtin.Slice.slicePlaces;have h1:(1:Int)>0:=by omega
 simp only [h1,if_true,Int.ediv_one];split<;>omega
theorem rK {v:Value} {o:Option Int} {Q:Option Int->Shared->Prop} (p:IsPart v o) (h:Q o s):wpAny (model prog w) A (Builtin.Slice.slicePartIndex v) Q E s:=by
 cases p with
 | none=>exact slicePart_none h
 | int i t=>exact slicePart_int h
theorem oW {sl:Addr} {vl vu:Value} {lo hi:Option Int} {n:Nat} {Q:Int×Int×Nat->Shared->Prop} (hs:s.heap.IsSliceOf sl vl vu .none) (pl:IsPart vl lo) (pu:IsPart vu hi)
 (h:Q (((gb n 0 lo:Nat):Int),1,gb n n hi - gb n 0 lo) s):wpAny (model prog w) A (Builtin.Slice.sliceApplied (.ref sl) (pure (n:Int))) Q E s:=by
 obtain ⟨os,hos,hcs,hds⟩:=id hs;unfold Builtin.Slice.sliceApplied Builtin.Slice.sliceFields;refine wpAny_bind (wpAny_bind (wpAny_field hos hds (x:=vl) rfl (wpAny_bind (wpAny_field hos hds (x:=vu) rfl (wpAny_bind (wpAny_field hos hds (x:= .none) rfl (wpAny_pure ?_)))))));refine wpAny_bind (slicePart_none ?_);show wpAny _ _ (if ((1:Int)==0)=true then _ else _) _ _ s;rw [if_neg (by decide)];refine wpAny_bind (rK pl (wpAny_bind (rK pu (wpAny_bind (wpAny_pure ?_)))));show wpAny _ _ (match Builtin.Slice.sliceAdjust lo hi 1 (n:Int) with |(lo,hi)=>pure (lo,(1:Int),Builtin.Slice.slicePlaces lo hi 1)) _ _ s;rw [Cr lo hi n];show wpAny _ _ (pure (((gb n 0 lo:Nat):Int),(1:Int),Builtin.Slice.slicePlaces ((gb n 0 lo:Nat):Int) ((gb n n hi:Nat):Int) 1)) _ _ s;rw [Aw];exact wpAny_pure h
theorem Ir (xs:Array Value) (i k:Nat):((List.range k).filterMap fun (m:Nat)=>xs[((i:Int)+(m:Int)*1).toNat]?).toArray=((xs.toList.drop i).take k).toArray:=by
 have e:(fun (m:Nat)=>xs[((i:Int)+(m:Int)*1).toNat]?)=fun m=>xs[i+m]? :=by
  funext m;have:((i:Int)+(m:Int)*1).toNat=i+m:=by omega
  rw [this]
 rw [e];have:=pick_run xs i k;rw [List.filterMap_map] at this;have e2:((fun x=>xs[x]?)∘fun x=>i+x)=fun m=>xs[i+m]? :=rfl;rw [e2] at this;rw [this]
theorem nW {t sl:Addr} {items:Array Value} {vl vu:Value} {lo hi:Option Int} {Q:Value->Shared->Prop} (ht:IsTup s.heap t items) (hs:s.heap.IsSliceOf sl vl vu .none) (pl:IsPart vl lo) (pu:IsPart vu hi)
 (hw:¬(gb items.size 0 lo=0/\gb items.size items.size hi=items.size))
 (h:Q (.ref s.heap.objs.size) {s with heap:=s.heap.push {cls:= .type "tuple",data:= .seq ((items.toList.drop (gb items.size 0 lo)).take (gb items.size items.size hi - gb items.size 0 lo)).toArray}})
 (hsz:items.size<=sizeLine):wpAny (model prog w) A (getItem (.ref t) (.ref sl)) Q E s:=by
 have DQ:sizeOk (.seq ((items.toList.drop (gb items.size 0 lo)).take (gb items.size items.size hi - gb items.size 0 lo)).toArray):=by
  show ((items.toList.drop (gb items.size 0 lo)).take (gb items.size items.size hi - gb items.size 0 lo)).toArray.size<=sizeLine;rw [List.size_toArray,List.length_take,List.length_drop,Array.length_toList];omega
 have hj:gb items.size items.size hi<=items.size:=QG _ _ (Nat.le_refl _) hi;obtain ⟨os,hos,hcs,hds⟩:=id hs;have hTs:s.TypeIs (.ref sl) "slice" :=⟨os,hos,hcs⟩;unfold getItem
 try with_reducible refine wpAny_holding ?_
 first |refine wpAny_bind (wpAny_pure ?_)|skip
 refine wpAny_bind (wpAny_sequenceKey ht.typeIs (by decide) ?_)
 refine wpAny_bind (wpAny_callSpecial?_slot (name:=Str.ofString "__getitem__") ht.typeIs PyProof.Rows.slot_tuple_getitem
  (wpAny_call_entry PyProof.Rows.slot_tuple_getitem ht.typeIs entry_tuple_getitem ?_ (args_tuple_getitem _ _)))
 show wpAny _ _ (Builtin.Tuple.tupleItemsOf (.ref t) >>= _) _ _ s;refine wpAny_bind (tupleItemsOf_ ht ?_);refine wpAny_bind (wpAny_typeOf hTs ?_);rw [if_pos (by decide)];refine wpAny_bind (oW hs pl pu ?_)
 have hno:¬((((gb items.size 0 lo:Nat):Int)==0&&(1:Int)==1&&(gb items.size items.size hi - gb items.size 0 lo)==items.size)=true):=by
  intro q;rw [Bool.and_eq_true,Bool.and_eq_true] at q;have q1:((gb items.size 0 lo:Nat):Int)=0:=eq_of_beq q.1.1;have q2:gb items.size items.size hi - gb items.size 0 lo=items.size:=eq_of_beq q.2;exact hw ⟨by omega,by omega⟩
 show wpAny _ _ (if (((gb items.size 0 lo:Nat):Int)==0&&(1:Int)==1&&(gb items.size items.size hi - gb items.size 0 lo)==items.size)=true then _ else _) _ _ s;rw [if_neg hno,Ir]
 first
  | exact wpAny_bind (m:=Builtin.Tuple.tupleExact _) (wpAny_newObj_type (wpAny_pure ⟨_,rfl,wpAny_pure h⟩) DQ)
  | exact wpAny_bind (m:=Builtin.Tuple.tupleExact _) (wpAny_newObj_type (wpAny_bind (wpAny_pure (wpAny_pure ⟨_,rfl,wpAny_pure h⟩))) DQ)
  | exact wpAny_bind (wpAny_bind (m:=Builtin.Tuple.tupleExact _) (wpAny_newObj_type (wpAny_pure (wpAny_pure ⟨_,rfl,wpAny_pure h⟩)) DQ))
  | exact wpAny_bind (wpAny_bind (m:=Builtin.Tuple.tupleExact _) (wpAny_newObj_type (wpAny_pure ⟨_,rfl,wpAny_pure h⟩) DQ))
end
end HT
namespace L2
open PySem PySem.Spec PyProof.Rows
abbrev TO:=St->Hp->(Option Int->Hp->Prop)->Prop
def PO (X:Cx) (e:Option Expr) (t:TO):Prop:=
 ∀(pins:List (Addr×Obj)) (s:Shared) (σ:St) (H:Hp) (Q:Option Int->Hp->Prop),Inv X pins σ H s->t σ H Q ->
  wpAny (model X.prog X.w) X.A (evalPart e X.env) (fun u s'=>∃o H',Inv X pins σ H' s'/\IsPart u o/\Q o H') X.xe s
def Lx:TO:=fun _ H Q=>Q none H
def Ug (t:TE):TO:=fun σ H Q=>t σ H fun x H1=>∃i,x = .int i/\Q (some i) H1
theorem intsAre_of {ns:List Int}:∀{us:List Value},Vals (ns.map V.int) us->IntsAre us ns:=by
 induction ns with
 | nil=>intro us r;rw [List.map_nil] at r;cases r;exact .nil
 | cons n ns ih=>
   intro us r;rw [List.map_cons] at r;cases r with
   | cons r1 r2=>
     obtain ⟨t,e⟩:=r1;subst e;exact .cons n t (ih r2)
section
variable {X:Cx} {e:Expr} {te:TE} {lo hi:Option Expr} {tl th:TO} {pos p2:Pos}
theorem cW:PO X none Lx:=by
 intro pins s σ H Q I h;rw [evalPart_none];exact wpAny_pure ⟨none,H,I,.none,h⟩
theorem cH (h:PE X e te):PO X (some e) (Ug te):=by
 intro pins s σ H Q I hw;rw [evalPart_some];refine cM (h pins s σ H _ I hw) fun u s1 ⟨x,H1,I1,r1,q1⟩=> ?_;obtain ⟨i,rfl,q⟩:=q1;obtain ⟨t,rfl⟩:=r1;exact ⟨some i,H1,I1,.int i t,q⟩
def Xf (X:Cx) (r:V->Option Int->Option Int->Hp->VK->Prop):Prop:=
 ∀(pins:List (Addr×Obj)) (s:Shared) (σ:St) (H:Hp) (x:V) (v vl vu:Value) (lo hi:Option Int) (sl:Addr) (Q:VK),Inv X pins σ H s->RelV x v->s.heap.IsSliceOf sl vl vu .none->IsPart vl lo->IsPart vu hi->r x lo hi H Q ->
  ∃T id,typeLookup (.type T) "__getitem__" = pure (some (.builtin id))/\s.TypeIs v T/\wpAny (model X.prog X.w) X.A (getItem v (.ref sl)) (EP X pins σ Q) X.xe s
def tSl (r:V->Option Int->Option Int->Hp->VK->Prop) (te:TE) (tl th:TO):TE:=fun σ H Q=>te σ H fun x H1=>tl σ H1 fun l H2=>th σ H2 fun u H3=>r x l u H3 Q
theorem b_ {r:V->Option Int->Option Int->Hp->VK->Prop} (hr:Xf X r) (he:PE X e te) (hl:PO X lo tl) (hu:PO X hi th):PE X (.Subscript e (.Slice lo hi none p2) pos) (tSl r te tl th):=by
 intro pins s σ H Q I h;refine Subscript_ (cM (he pins s σ H _ I h) fun v s1 ⟨x,H1,I1,r1,q1⟩=> ?_);refine wpAny_Slice (cM (hl pins s1 σ H1 _ I1 q1) fun vl s2 ⟨l,H2,I2,pl,q2⟩=>cM (hu pins s2 σ H2 _ I2 q2) fun vu s3 ⟨u,H3,I3,pu,q3⟩=> ?_);rw [evalPart_none];refine wpAny_pure ?_;have I4:Inv X pins σ H3 {s3 with heap:=s3.heap.push {cls:= .type "slice",data:= .fields #[vl,vu,.none]}}:=I3.kept (t':=s3.toks) fun b ob q=>Heap.get?_push_of_some _ q;obtain ⟨T,id,hT,ht,hg⟩:=hr pins {s3 with heap:=s3.heap.push {cls:= .type "slice",data:= .fields #[vl,vu,.none]}} σ H3 x v vl vu l u s3.heap.objs.size Q I4 r1 (Heap.IsSliceOf.new ..) pl pu q3;show wpAny (model X.prog X.w) X.A (subscriptTail e (.Slice lo hi none p2) v (.ref s3.heap.objs.size)) (EP X pins σ Q) X.xe {s3 with heap:=s3.heap.push {cls:= .type "slice",data:= .fields #[vl,vu,.none]}};exact tail_any (ops:=[.ref s3.heap.objs.size,v]) ht hT hg (by with_unfolding_all rfl)
def fD (xs:List V) (lo hi:Option Int):List V:=(xs.drop (HT.gb xs.length 0 lo)).take (HT.gb xs.length xs.length hi - HT.gb xs.length 0 lo)
theorem qe (xs:List V) (lo hi:Option Int):(fD xs lo hi).length<=xs.length:=by
 unfold fD;rw [List.length_take,List.length_drop];omega
def UJ (K:PySem.W.Frag):V->Option Int->Option Int->Hp->VK->Prop:=fun x lo hi H Q=>∃a xs,x = .ref a/\cJ K H a xs /\
 ¬(HT.gb xs.length 0 lo=0/\HT.gb xs.length xs.length hi=xs.length) /\ ∀p,H p=none->Q (.ref p) (upd H p (.tup (fD xs lo hi)))
theorem QC:Xf X (UJ X.K):=by
 intro pins s σ H x v vl vu lo hi sl Q I rx hs pl pu h;obtain ⟨a,xs,rfl,hx,hw,q⟩:=h;cases rx;obtain ⟨its,r,ht,hz⟩:=I.tuple hx;have hlen:its.toArray.size=xs.length:=by rw [List.size_toArray];exact r.length.symm
 refine ⟨"tuple",_,PyProof.Rows.slot_tuple_getitem.lookup,ht.typeIs, ?_⟩;refine HT.nW ht hs pl pu (by rw [hlen];exact hw) ?_ (by rw [hlen];exact hz);rw [hlen];refine ⟨.ref s.heap.objs.size,_,I.laid (t':=s.toks) (o:= .tup (fD xs lo hi)) (fun b ob q=>Heap.get?_push_of_some _ q) (Nat.le_refl _) ?_,rfl,q _ (I.hok.fresh (Nat.le_refl _))⟩;exact ⟨Nat.le_trans (qe xs lo hi) hz,_,(r.drop (HT.gb xs.length 0 lo)).take (HT.gb xs.length xs.length hi - HT.gb xs.length 0 lo),IsTup.new _ _⟩
def O4 (K:PySem.W.Frag):R2:=fun x y H Q=>∃a b xs ys,x = .ref a/\y = .ref b/\cJ K H a xs/\cJ K H b ys/\xs≠[]/\xs.length+ys.length<=sizeLine /\
 (ys=[]->Q (.ref a) H)/\(ys≠[] -> ∀p,H p=none->Q (.ref p) (upd H p (.tup (xs++ys))))
theorem Vals.wF {xs:List V} {us:List Value} (r:Vals xs us):us=[]↔xs=[]:=by
 cases r with
 | nil=>simp
 | cons _ _=>simp
theorem Mz:pQ X (binaryOp .Add) (O4 X.K):=by
 intro pins s σ H x y v u Q I rx ry h;obtain ⟨a,b,xs,ys,rfl,rfl,ha,hb,hx,hz,q1,q2⟩:=h;cases rx;cases ry;obtain ⟨its,r1,p1,_⟩:=I.tuple ha;obtain ⟨its2,r2,p2,_⟩:=I.tuple hb;refine HT.Od p1 p2 (fun z=>hx (r1.wF.mp z)) (fun z=>⟨.ref a,H,I,rfl,q1 (r2.wF.mp z)⟩) (fun z=> ?_) (by rw [←r1.length,←r2.length];exact hz);refine ⟨.ref s.heap.objs.size,_,I.laid (t':=s.toks) (o:= .tup (xs++ys)) (fun b ob q=>Heap.get?_push_of_some _ q) (Nat.le_refl _) ?_,rfl,q2 (fun w=>z (r2.wF.mpr w)) _ (I.hok.fresh (Nat.le_refl _))⟩;exact ⟨by rw [List.length_append];exact hz,_,r1.append r2,IsTup.new _ _⟩
end
end L2
namespace L2
open PySem PySem.Spec PyProof.Rows
def RP (n:Nat) (i:Int):Option Nat:=if 0<=i then (if i<n then some i.toNat else none) else if -(n:Int)<=i then some (i+n).toNat else none
def GD {α:Type} (xs:List α) (i:Int):Option α:=(RP xs.length i).bind fun j=>xs[j]?
theorem DN {n:Nat} {i:Int} {j:Nat} (h:RP n i=some j):seqIndex? i n=some j/\j<n /\ -(n:Int)<=i/\i<n:=by
 unfold RP at h
 by_cases h0:0<=i
 ·rw [if_pos h0] at h
  by_cases h1:i<n
  ·rw [if_pos h1] at h
   have e:i.toNat=j:=Option.some.inj h;exact ⟨by rw [seqIndex_of h0 h1,e],by omega,by omega,h1⟩
  ·rw [if_neg h1] at h;cases h
 ·rw [if_neg h0] at h
  by_cases h1: -(n:Int)<=i
  ·rw [if_pos h1] at h
   have e:(i+n).toNat=j:=Option.some.inj h;exact ⟨by rw [seqIndex_neg (by omega) h1,e],by omega,h1,by omega⟩
  ·rw [if_neg h1] at h;cases h
theorem En {α:Type} {xs:List α} {i:Int} {v:α} (h:GD xs i=some v):∃j,seqIndex? i xs.length=some j/\xs[j]? = some v/\j<xs.length /\ -(xs.length:Int)<=i/\i<xs.length:=by
 unfold GD at h;cases e:RP xs.length i with
 | none=>rw [e] at h;cases h
 | some j=>
   rw [e] at h;obtain ⟨h1,h2,h3,h4⟩:=DN e;exact ⟨j,h1,h,h2,h3,h4⟩
theorem dO {α:Type} {xs:List α} {j:Nat} {v:α} (h:xs[j]? = some v):GD xs (j:Int)=some v:=by
 have hj:j<xs.length:=(List.getElem?_eq_some_iff.mp h).1
 have e:RP xs.length (j:Int)=some j:=by
  unfold RP;rw [if_pos (by omega),if_pos (by omega)];simp
 unfold GD;rw [e];exact h
def Oo (b:Expr):Prop:=∀o i,subscripted b false o i=operate [o,i] (getItem o i)
def Xk (X:Cx) (r:R2):Prop:=
 ∀(value slice:Expr) (pins:List (Addr×Obj)) (s:Shared) (σ:St) (H:Hp) (x y:V) (v u:Value) (Q:VK),Inv X pins σ H s->RelV x v->RelV y u->r x y H Q ->
  subscripted slice false v u=operate [v,u] (getItem v u)->wpAny (model X.prog X.w) X.A (subscriptTail value slice v u) (EP X pins σ Q) X.xe s
def MtR (X:Cx) (id:String) (r:V->List V->Hp->VK->Prop):Prop:=
 ∀(pins:List (Addr×Obj)) (s:Shared) (σ:St) (H:Hp) (x:V) (xs:List V) (v:Value) (us:List Value) (Q:VK),Inv X pins σ H s->RelV x v->Vals xs us->r x xs H Q ->
  wpAny (model X.prog X.w) X.A (call (.builtin id) (v::us)) (EP X pins σ Q) X.xe s
section
variable {X:Cx} {a b:Expr} {ta tb:TE} {pos:Pos}
theorem aK {r:R2} (hr:Xk X r) (ha:PE X a ta) (hb:PE X b tb) (hs:Oo b):PE X (.Subscript a b pos) (vQ r ta tb):=by
 intro pins s σ H Q I h;exact Subscript_ (S_ ha hb I h fun v u s2 x y H2 I2 rx ry q=>hr a b pins s2 σ H2 x y v u Q I2 rx ry q (hs _ _))
def QS (K:PySem.W.Frag):R2:=fun x y H Q=>∃p xs i v,x = .ref p/\y = .int i/\bh K H p xs/\GD xs i=some v/\Q v H
def yu (K:PySem.W.Frag):R2:=fun x y H Q=>∃p xs i v,x = .ref p/\y = .int i/\cJ K H p xs/\GD xs i=some v/\Q v H
theorem Ni:Xk X (QS X.K):=by
 intro value slice pins s σ H x y v u Q I rx ry h hs;obtain ⟨p,xs,i,z,rfl,rfl,hq,he,q⟩:=h;cases rx;obtain ⟨t,rfl⟩:=ry;obtain ⟨its,r,pl,hz⟩:=I.list hq;obtain ⟨j,h1,h2,h3,h4,h5⟩:=En he;obtain ⟨w,ew,rw'⟩:=r.get h2;have hl:=r.length;have hn:=sI;have fin:EP X pins σ Q w s:=⟨z,H,I,rw',q⟩
 by_cases h0:0<=i
 ·have hj:i.toNat=j:=by
   rw [seqIndex_of h0 h5] at h1;exact Option.some.inj h1
  exact item_listR pl.isList h0 (by omega) (by rw [hj];simpa using ew) fin hs
 ·have hj:(i+(its.toArray.size:Int)).toNat=j:=by
   rw [seqIndex_neg (by omega) h4] at h1;rw [List.size_toArray,←hl];exact Option.some.inj h1
  exact subscriptTail_builtinR (x:=w) pl.isList.typeIs slot_list_getitem.lookup
   (wpAny_getItem_list_neg (Q:=fun r s'=>r=w/\EP X pins σ Q r s') pl.isList (by omega) (by rw [List.size_toArray]<;>omega) (by omega) (by rw [hj];simpa using ew) ⟨rfl,fin⟩) hs
theorem RN:Xk X (yu X.K):=by
 intro value slice pins s σ H x y v u Q I rx ry h hs;obtain ⟨p,xs,i,z,rfl,rfl,hq,he,q⟩:=h;cases rx;obtain ⟨t,rfl⟩:=ry;obtain ⟨its,r,pl,hz⟩:=I.tuple hq;obtain ⟨j,h1,h2,h3,h4,h5⟩:=En he;obtain ⟨w,ew,rw'⟩:=r.get h2;have hl:=r.length;have hn:=sI;have fin:EP X pins σ Q w s:=⟨z,H,I,rw',q⟩
 exact subscriptTail_builtinR (x:=w) pl.typeIs slot_tuple_getitem.lookup
  (getItem_tuple (j:=j) (Q:=fun r s'=>r=w/\EP X pins σ Q r s') pl (by omega) (by omega) (by rw [List.size_toArray,←hl];exact h1) (by simpa using ew) ⟨rfl,fin⟩) hs
theorem Bp (its:List Value) (n j:Nat) (u:Value):Obj.mapSeq (·.setIfInBounds j u) {cls:= .type "list",data:= .seq its.toArray n}={cls:= .type "list",data:= .seq (its.set j u).toArray n}:=by
 simp [Obj.mapSeq]
theorem Inv.lst {pins:List (Addr×Obj)} {σ:St} {H:Hp} {s:Shared} {p:Addr} {xs:List V} (I:Inv X pins σ H s) (h:H p=some (.lst xs)):
 ∃(its:List Value) (n:Nat),Vals xs its/\s.heap.get? p=some {cls:= .type "list",data:= .seq its.toArray n}/\xs.length<=sizeLine:=by
 obtain ⟨z,its,n,r,e⟩:=I.hok p _ h;exact ⟨its,n,r,e,z⟩
theorem Inv.Ru {pins:List (Addr×Obj)} {σ:St} {H:Hp} {s:Shared} {p:Addr} {xs ys:List V} {its its':List Value} {n n':Nat} {f:Obj->Obj} (I:Inv X pins σ H s) (h:H p=some (.lst xs))
 (ho:s.heap.get? p=some {cls:= .type "list",data:= .seq its.toArray n}) (hf:f {cls:= .type "list",data:= .seq its.toArray n}={cls:= .type "list",data:= .seq its'.toArray n'}) (r:Vals ys its') (hz:ys.length<=sizeLine) (t:Nat):
 Inv X pins σ (upd H p (.lst ys)) {s with heap:=s.heap.update p f,toks:=t}:=by
 have e:(s.heap.update p f).get? p=some {cls:= .type "list",data:= .seq its'.toArray n'}:=by
  rw [Heap.get?_update_self f ho (by rw [hf]<;>rfl),hf]
 refine I.write (x:=p) (e:=p) (by rw [h];trivial) (.inl rfl) (fun b u hb q=>(Heap.get?_update_other _ _ (Ne.symm hb)).trans q) ⟨_,e⟩ ?_;exact ⟨hz,its',n',r,e⟩
def UW:V->V->V->Hp->(Hp->Prop)->Prop:=fun o i v H Q=>∃p xs k j,o = .ref p/\i = .int k/\H p=some (.lst xs)/\RP xs.length k=some j/\Q (upd H p (.lst (xs.set j v)))
theorem set_list:Xg X UW:=by
 intro pins s σ H o i v ov iv u Q I ro ri rv h;obtain ⟨p,xs,k,j,rfl,rfl,hp,hj,q⟩:=h;cases ro;obtain ⟨t,rfl⟩:=ri;obtain ⟨its,n,r,ho,hz⟩:=I.lst hp;obtain ⟨h1,h2,h3,h4⟩:=DN hj;have hl:=r.length;have hn:=sI
 have I':Inv X pins σ (upd H p (.lst (xs.set j v))) {s with heap:=s.heap.update p (Obj.mapSeq (·.setIfInBounds j u))}:=
  I.Ru hp ho (Bp its n j u) (r.set rv j) (by rw [List.length_set];exact hz) s.toks
 by_cases h0:0<=k
 ·have hk:k.toNat=j:=by
   rw [seqIndex_of h0 h4] at h1;exact Option.some.inj h1
  exact PySem.W.ki_setAt ho h0 (by omega) (by rw [List.size_toArray,←hl];exact h4) (by rw [hk];exact ⟨_,I',q⟩)
 ·have hk:(k+(its.toArray.size:Int)).toNat=j:=by
   rw [seqIndex_neg (by omega) h3] at h1;rw [List.size_toArray,←hl];exact Option.some.inj h1
  exact PySem.W.ki_setBack ho (by omega) (by rw [List.size_toArray,←hl];exact h3) (by omega) (by rw [hk];exact ⟨_,I',q⟩)
theorem v7 (lo hi:Option Int) (n:Nat):(sliceBounds lo hi none n).1=((HT.gb n 0 lo:Nat):Int)/\(sliceBounds lo hi none n).2.1=((HT.gb n n hi:Nat):Int)/\(sliceBounds lo hi none n).2.2=1:=by
 refine ⟨?_, ?_,rfl⟩
 ·cases lo with
  | none=>simp [sliceBounds,HT.gb]
  | some i=>
    simp only [sliceBounds,HT.gb,Option.getD_none,show (1:Int)>0 by decide,if_true]
    by_cases h:i<0
    ·simp only [h,if_true]<;>omega
    ·simp only [h,if_false]<;>omega
 ·cases hi with
  | none=>simp [sliceBounds,HT.gb]
  | some i=>
    simp only [sliceBounds,HT.gb,Option.getD_none,show (1:Int)>0 by decide,if_true]
    by_cases h:i<0
    ·simp only [h,if_true]<;>omega
    ·simp only [h,if_false]<;>omega
theorem uE (its:List Value) (lo hi:Option Int):slicePick its.toArray lo hi none=((its.drop (HT.gb its.length 0 lo)).take (HT.gb its.length its.length hi - HT.gb its.length 0 lo)).toArray:=by
 obtain ⟨h1,h2,h3⟩:=v7 lo hi its.toArray.size;unfold slicePick;rw [h1,h2,h3];simp only [sliceRange_one,pick_run,List.size_toArray]<;>rfl
def UL (K:PySem.W.Frag):V->Option Int->Option Int->Hp->VK->Prop:=fun x lo hi H Q=>∃a xs,x = .ref a/\bh K H a xs /\ ∀p,H p=none->Q (.ref p) (upd H p (.lst (fD xs lo hi)))
theorem LR:Xf X (UL X.K):=by
 intro pins s σ H x v vl vu lo hi sl Q I rx hs pl pu h;obtain ⟨a,xs,rfl,hx,q⟩:=h;cases rx;obtain ⟨its,r,ht,hz⟩:=I.list hx;have hlen:=r.length;refine ⟨"list",_,slot_list_getitem.lookup,ht.isList.typeIs, ?_⟩;refine wpAny_getItem_list_slice ht.isList hs pl pu .none (by simp) ?_ (by rw [List.size_toArray]<;>omega);rw [uE,←hlen];refine ⟨.ref s.heap.objs.size,_,I.laid (t':=s.toks) (o:= .lst (fD xs lo hi)) (fun b ob q=>Heap.get?_push_of_some _ q) (Nat.le_refl _) ?_,rfl,q _ (I.hok.fresh (Nat.le_refl _))⟩;exact ⟨Nat.le_trans (qe xs lo hi) hz,_,0,(r.drop (HT.gb xs.length 0 lo)).take (HT.gb xs.length xs.length hi - HT.gb xs.length 0 lo),Heap.get?_push_size _ rfl⟩
theorem wV:fZ X (.builtin "len") (fun xs H Q=>∃p ys,xs=[.ref p]/\(bh X.K H p ys\/cJ X.K H p ys)/\Q (.int ys.length) H):=by
 intro pins s σ H xs us Q I r h;obtain ⟨p,ys,rfl,hq,q⟩:=h;obtain ⟨u,rfl,rx⟩:=vals1 r;cases rx;have hn:=sI;rcases hq with hq|hq
 ·obtain ⟨its,r',pl,hz⟩:=I.list hq
  have hlen:=r'.length;exact Calls.call_len_list pl.isList (by simp only [List.size_toArray]<;>omega) ⟨.int ys.length,H,I.tok _,⟨s.toks+1,by rw [List.size_toArray,hlen]⟩,q⟩
 ·obtain ⟨its,r',pl,hz⟩:=I.tuple hq
  have hlen:=r'.length;exact len_tuple pl (by simp only [List.size_toArray]<;>omega) ⟨.int ys.length,H,I.tok _,⟨s.toks+1,by rw [List.size_toArray,hlen]⟩,q⟩
theorem wU:fZ X (.type "list") (fun xs H Q=>∃p ys,xs=[.ref p]/\(bh X.K H p ys\/cJ X.K H p ys) /\ ∀l,H l=none->Q (.ref l) (upd H l (.lst ys))):=by
 intro pins s σ H xs us Q I r h;obtain ⟨p,ys,rfl,hq,q⟩:=h;obtain ⟨u,rfl,rx⟩:=vals1 r;cases rx
 have fin:∀(its:List Value),Vals ys its->ys.length<=sizeLine -> ∀(h':Heap) (c':Nat),(∀b o',s.heap.get? b=some o'->h'.get? b=some o') ->
  h'.get? s.heap.objs.size=some {cls:= .type "list",dict:=none,data:= .seq its.toArray c',slots:= #[]}->EP X pins σ Q (.ref s.heap.objs.size) {s with heap:=h'}:=fun its r' hz h' c' kp e=>
  ⟨.ref s.heap.objs.size,_,I.laid (t':=s.toks) kp (Nat.le_refl _) (show bD X.prog X.w _ h' _ (.lst ys) from ⟨hz,its,c',r',e⟩),rfl,q _ (I.hok.fresh (Nat.le_refl _))⟩
 rcases hq with hq|hq
 ·obtain ⟨its,r',pl,hz⟩:=I.list hq
  have hlen:=r'.length;obtain ⟨o,ho,hc,n,hd⟩:=pl.isList;exact call_list_seq p (.inl rfl) ho hc hd (fun h' c' kp e=>fin its r' hz h' c' kp e) (by simp only [List.size_toArray]<;>omega)
 ·obtain ⟨its,r',pl,hz⟩:=I.tuple hq
  have hlen:=r'.length;obtain ⟨o,ho,hc,n,hd⟩:=pl;exact call_list_seq p (.inr rfl) ho hc hd (fun h' c' kp e=>fin its r' hz h' c' kp e) (by simp only [List.size_toArray]<;>omega)
def Zb (K:PySem.W.Frag) (T:String) (x:V) (H:Hp):Prop:=match x with
 | .str _=>T = "str"
 | .int _=>T = "int"
 | .ref p=>(T = "list" /\ ∃xs,bh K H p xs)\/(T = "tuple" /\ ∃o,K.lookup p=some o/\o.cls = .type "tuple" /\ o.dict=none) \/
    (T = "dict" /\ ((∃kvs,H p=some (.dK kvs)) \/ ∃kvs,H p=some (.dT kvs)))\/(T = "set" /\ ∃S n,H p=some (.set S n))
 | _=>False
theorem Qf {pins:List (Addr×Obj)} {σ:St} {H:Hp} {s:Shared} {T:String} {x:V} {v:Value} (I:Inv X pins σ H s) (r:RelV x v) (ty:Zb X.K T x H):
 s.TypeIs v T /\ ∀a,v = .ref a -> ∃ob,s.heap.get? a=some ob/\ob.dict=none:=by
 cases x with
 | str z=>
   obtain ⟨t,rfl⟩:=r;cases (show T = "str" from ty);exact ⟨typeIs_str s z t,fun _ e=>nomatch e⟩
 | int i=>
   obtain ⟨t,rfl⟩:=r;cases (show T = "int" from ty);exact ⟨typeIs_int s i t,fun _ e=>nomatch e⟩
 | ref p=>
   cases r;rcases ty with ⟨rfl,xs,hq⟩|⟨rfl,o,hk,hc,hd⟩|⟨rfl,hk⟩|⟨rfl,S,n,hk⟩
   ·obtain ⟨its,_,pl,_⟩:=I.list hq
    refine ⟨pl.isList.typeIs,fun a e=> ?_⟩;cases e;obtain ⟨o,n,e,c,hd,_⟩:=pl;exact ⟨o,e,hd⟩
   ·refine ⟨⟨o,I.xK p o hk,hc⟩,fun a e=> ?_⟩
    cases e;exact ⟨o,I.xK _ o hk,hd⟩
   ·have z:∃o,s.heap.get? p=some o/\o.ExactDict:=by
     rcases hk with ⟨kvs,hk⟩|⟨kvs,hk⟩
     ·obtain ⟨_,_,_,_,o,_,_,e,ex,_⟩:=I.hok p _ hk
      exact ⟨o,e,ex⟩
     ·obtain ⟨_,_,_,_,o,_,_,e,ex,_⟩:=I.hok p _ hk
      exact ⟨o,e,ex⟩
    obtain ⟨o,e,ex⟩:=z;refine ⟨⟨o,e,ex.1⟩,fun a e2=> ?_⟩;cases e2;exact ⟨o,e,ex.2.1⟩
   ·obtain ⟨o,_,_,_,e,ex,_⟩:=I.hok p _ hk
    refine ⟨⟨o,e,ex.1⟩,fun a e2=> ?_⟩;cases e2;exact ⟨o,e,ex.2.1⟩
 | _=>exact False.elim ty
def Ur (K:PySem.W.Frag) (T:String) (r:V->List V->Hp->VK->Prop) (to:TE) (t:TA):TE:=fun σ H Q=>to σ H fun x H1=>Zb K T x H1/\t σ H1 fun xs H2=>r x xs H2 Q
variable {o e:Expr} {es:List Expr} {to:TE} {t:TA} {name:Str} {apos cpos:Pos} {T id:String} {r:V->List V->Hp->VK->Prop}
theorem O6 (pa:PlainAttrs T) (slot:Slot T name id) (hty:typeOf (.builtin id)=pure (.type "method_descriptor")) (hm:MtR X id r) (ho:PE X o to) (ha:PA X (e::es) t)
 (hbase:attributeBase o name X.env (eval o X.env)=eval o X.env:=by rfl)
 (hfew:((backTo cpos (starEach (e::es) X.env)).all (fun x=> !x.1)&&(backToKw cpos (keywordEach [] X.env)).all (fun x=>x.1.isSome)
   && decide ((e::es).length+([]:List Keyword).length+(if ([]:List Keyword).isEmpty then 0 else 1)<30))=true:=by rfl)
 (hline:(apos.endLine==cpos.line)=true:=by rfl) (hs:starEach (e::es) X.env=(false,eval e X.env)::starEach es X.env:=by rfl) (hplain:(backTo cpos (starEach es X.env)).any (·.1)=false:=by rfl):
 PE X (.Call (.Attribute o name apos) (e::es) [] cpos) (Ur X.K T r to t):=by
 intro pins s σ H Q I h;refine wpAny_Call_method_late hbase hfew hline rfl (cM (ho pins s σ H _ I h) fun v s1 ⟨x,H1,I1,r1,ty,q1⟩=> ?_);obtain ⟨h1,h2⟩:=Qf I1 r1 ty;refine ⟨T,id,pa,slot,hty,h1,h2, ?_⟩;have hA:=ha cpos pins s1 σ H1 _ I1 q1;rw [hs] at hA ⊢;refine Calls.callWith_builtin (by show (false||(backTo cpos (starEach es X.env)).any (·.1))=false;rw [hplain]<;>rfl) (Calls.evalArgs_plain ?_);exact cM hA fun us s2 ⟨vs,H2,I2,r2,q2⟩=>hm pins s2 σ H2 x vs v us Q I2 r1 r2 q2
end
end L2
namespace L2
open PySem PySem.Spec PyProof.Rows
def MtM (X:Cx) (id:String) (r:V->List V->Hp->VK->Prop):Prop:=
 ∀(pins:List (Addr×Obj)) (s:Shared) (σ:St) (H:Hp) (x:V) (xs:List V) (v:Value) (us:List Value) (Q:VK),Inv X pins σ H s->RelV x v->Vals xs us->r x xs H Q ->
  wpAny (model X.prog X.w) X.A (call (.builtin id) (v::us)) (EP X pins σ Q) X.xe s
theorem Vals.one {x:V} {us:List Value} (h:Vals [x] us):∃u,us=[u]/\RelV x u:=by
 cases h with
 | cons r t=>cases t;exact ⟨_,rfl,r⟩
section
variable {X:Cx} {pins:List (Addr×Obj)} {σ:St} {H:Hp} {s:Shared} {l b:Addr} {xs ys zs:List V}
theorem Inv.Vp {its its':List Value} {n:Nat} {f:Array Value->Array Value} {t':Nat} (I:Inv X pins σ H s) (hH:H l=some (.lst xs))
 (e:s.heap.get? l=some {cls:= .type "list",data:= .seq its.toArray n}) (hf:f its.toArray=its'.toArray) (hv:Vals ys its') (hz:ys.length<=sizeLine):
 Inv X pins σ (upd H l (.lst ys)) {s with heap:=s.heap.update l (Obj.mapSeq f),toks:=t'}:=by
 have q:=PySem.IsL.update e f;rw [hf] at q;refine I.write (x:=l) (e:=l) (by rw [hH];exact trivial) (.inl rfl) (fun b' u hb hu=>(Heap.get?_update_other s.heap (Obj.mapSeq f) (Ne.symm hb)).trans hu) ⟨_,q⟩ ?_;exact ⟨hz,its',_,hv,q⟩
theorem Inv.abm {its:List Value} {t':Nat} (I:Inv X pins σ H s) (hv:Vals ys its) (hz:ys.length<=sizeLine):
 Inv X pins σ (upd H s.heap.objs.size (.lst ys)) {s with heap:=s.heap.push {cls:= .type "list",data:= .seq its.toArray},toks:=t'}:=
 I.laid (fun _ _ q=>Heap.get?_push_of_some _ q) (Nat.le_refl _) ⟨hz,its,0,hv,Heap.get?_push_size _ rfl⟩
theorem Inv.fresh (I:Inv X pins σ H s):H s.heap.objs.size=none:=I.hok.fresh (Nat.le_refl _)
theorem Inv.Jw (I:Inv X pins σ H s) (hH:H l=some (.lst xs)):xs.length<=sizeLine /\ ∃(its:List Value) (n:Nat),Vals xs its/\xs.length=its.length/\s.heap.get? l=some {cls:= .type "list",data:= .seq its.toArray n}:=by
 obtain ⟨z,its,n,r,e⟩:=I.hok l _ hH;exact ⟨z,its,n,r,r.length,e⟩
theorem Jl {n:Nat} (h:n<=sizeLine):Builtin.List.listTooLong n=false:=by
 unfold Builtin.List.listTooLong;exact decide_eq_false (by omega)
end
section
variable {X:Cx}
def wj:V->List V->Hp->VK->Prop:=fun x vs H Q=>∃l xs y,x = .ref l/\vs=[y]/\H l=some (.lst xs)/\xs.length<sizeLine/\Q .non (upd H l (.lst (xs++[y])))
theorem pA:MtM X "list.append" wj:=by
 intro pins s σ H x vs v us Q I rx rv h;obtain ⟨l,xs,y,rfl,rfl,hH,hz,q⟩:=h;cases rx;obtain ⟨u,rfl,ru⟩:=rv.one;obtain ⟨z,its,n,r,hl,e⟩:=I.Jw hH;refine call_meets F.slot_list_append ⟨_,e,rfl⟩ F.entry_list_append (F.args_list_append_2 _ _) (PySem.list_append l its.toArray n u (by rw [List.size_toArray];omega)) ⟨e, ?_⟩;refine ⟨.non,_,I.Vp (its':=its++[u]) hH e (by simp) (r.append (.cons ru .nil)) ?_,rfl,q⟩;rw [List.length_append,List.length_singleton];omega
def Mh:V->List V->Hp->VK->Prop:=fun x vs H Q=>∃l b xs zs,x = .ref l/\vs=[.ref b]/\H l=some (.lst xs)/\H b=some (.lst zs)/\xs.length+zs.length<=sizeLine/\Q .non (upd H l (.lst (xs++zs)))
theorem uW:MtM X "list.extend" Mh:=by
 intro pins s σ H x vs v us Q I rx rv h;obtain ⟨l,b,xs,zs,rfl,rfl,hH,hB,hz,q⟩:=h;cases rx;obtain ⟨u,rfl,ru⟩:=rv.one;cases ru;obtain ⟨z,its,n,r,hl,e⟩:=I.Jw hH;obtain ⟨z2,its2,n2,r2,hl2,e2⟩:=I.Jw hB;have hsz:its.toArray.size+its2.toArray.size<=sizeLine:=by rw [List.size_toArray,List.size_toArray];omega
 have V5:¬(!its.toArray.isEmpty&&Builtin.List.listTooLong (its.toArray.size+its2.toArray.size))=true:=by
  rw [Jl hsz,Bool.and_false];exact Bool.false_ne_true
 refine call_meets F.slot_list_extend ⟨_,e,rfl⟩ F.entry_list_extend (F.args_list_extend_2 _ _)
  (AutoSeq1.list_extend_list_list_0 l its.toArray n b its2.toArray n2 V5 (by rw [List.size_toArray];omega) (by omega)) ⟨e,e2, ?_⟩
 refine ⟨.non,_,I.Vp (its':=its++its2) hH e (by simp) (r.append r2) ?_,rfl,q⟩;rw [List.length_append];omega
def Z2:R2:=fun x y H Q=>∃l b xs zs,x = .ref l/\y = .ref b/\H l=some (.lst xs)/\H b=some (.lst zs)/\xs.length+zs.length<=sizeLine /\ ∀p,H p=none->Q (.ref p) (upd H p (.lst (xs++zs)))
theorem Q7:pQ X (binaryOp .Add) Z2:=by
 intro pins s σ H x y v u Q I rx ry h;obtain ⟨l,b,xs,zs,rfl,rfl,hH,hB,hz,q⟩:=h;cases rx;cases ry;obtain ⟨z,its,n,r,hl,e⟩:=I.Jw hH;obtain ⟨z2,its2,n2,r2,hl2,e2⟩:=I.Jw hB;refine PySem.P.add_list e e2 ?_ (by rw [List.size_toArray,List.size_toArray];omega);have ea:its.toArray++its2.toArray=(its++its2).toArray:=by simp
 rw [ea];exact ⟨.ref _,_,I.abm (t':=s.toks) (r.append r2) (by rw [List.length_append];omega),rfl,q _ I.fresh⟩
end
section
variable {prog:Program} {w:World} {A:Around} {E:Value->Shared->Prop} {s:Shared}
end
section
variable {X:Cx}
end
end L2
namespace L2
open PySem PySem.Spec PyProof.Rows
section
variable {κ:Type} [DecidableEq κ]
def cZ (kvs:List (κ×V)) (k:κ):Option V:=(kvs.find? fun kv=>decide (kv.1=k)).map (·.2)
def putK (kvs:List (κ×V)) (k:κ) (v:V):List (κ×V):=
 if (kvs.any fun kv=>decide (kv.1=k))=true then kvs.map (fun kv=>if kv.1=k then (kv.1,v) else kv) else kvs++[(k,v)]
theorem dR {p:κ×V} {r:List (κ×V)} {k:κ} (e:p.1=k):cZ (p::r) k=some p.2:=by simp [cZ,List.find?_cons,e]
theorem dU {p:κ×V} {r:List (κ×V)} {k:κ} (e:¬p.1=k):cZ (p::r) k=cZ r k:=by simp [cZ,List.find?_cons,e]
theorem iT (k:κ):∀kvs:List (κ×V),(kvs.any fun kv=>decide (kv.1=k))=(cZ kvs k).isSome
 | []=>rfl
 | p::r=>by
   rw [List.any_cons]
   by_cases e:p.1=k
   ·simp only [dR e,decide_eq_true e,Bool.true_or,Option.isSome_some]
   ·rw [dU e,decide_eq_false e,Bool.false_or];exact iT k r
theorem xV (k j:κ) (y:V):∀kvs:List (κ×V),cZ (kvs.map fun kv=>if kv.1=k then (kv.1,y) else kv) j=(cZ kvs j).map fun x=>if j=k then y else x
 | []=>rfl
 | p::r=>by
   have ih:=xV k j y r;rw [List.map_cons]
   by_cases h:p.1=k
   ·rw [if_pos h]
    by_cases e:p.1=j
    ·rw [dR (p:=(p.1,y)) e,dR e,Option.map_some,if_pos (e.symm.trans h)]
    ·rw [dU (p:=(p.1,y)) e,dU e,ih]
   ·rw [if_neg h]
    by_cases e:p.1=j
    ·rw [dR (p:=p) e,dR e,Option.map_some,if_neg (fun z=>h (e.trans z))]
    ·rw [dU (p:=p) e,dU e,ih]
theorem uP (k j:κ) (y:V):∀kvs:List (κ×V),cZ kvs k=none->cZ (kvs++[(k,y)]) j=if j=k then some y else cZ kvs j
 | [],_=>by
   by_cases e:k=j
   ·rw [if_pos e.symm];exact dR (p:=(k,y)) e
   ·rw [if_neg (fun z=>e z.symm)];exact dU (p:=(k,y)) e
 | p::r,hn=>by
   rw [List.cons_append];have hk:¬p.1=k:=fun z=>by rw [dR z] at hn;cases hn
   rw [dU hk] at hn;have ih:=uP k j y r hn
   by_cases e:p.1=j
   ·rw [dR e,dR e,if_neg (fun z=>hk (e.trans z))]
   ·rw [dU e,dU e,ih]
theorem jA (kvs:List (κ×V)) (k j:κ) (y:V):cZ (putK kvs k y) j=if j=k then some y else cZ kvs j:=by
 unfold putK
 by_cases a:(kvs.any fun kv=>decide (kv.1=k))=true
 ·rw [if_pos a,xV]
  rw [iT] at a
  by_cases e:j=k
  ·obtain ⟨x,hx⟩:=Option.isSome_iff_exists.mp a
   rw [if_pos e,e,hx,Option.map_some,if_pos rfl]
  ·rw [if_neg e]
   cases cZ kvs j with
   | none=>rfl
   | some x=>rw [Option.map_some,if_neg e]
 ·rw [if_neg a]
  refine uP k j y kvs ?_;rw [iT] at a;cases q:cZ kvs k with
  | none=>rfl
  | some x=>rw [q] at a;exact (a rfl).elim
theorem eE (kvs:List (κ×V)) (k:κ) (v:V):(putK kvs k v).length<=kvs.length+1:=by
 unfold putK;split
 ·rw [List.length_map];omega
 ·rw [List.length_append,List.length_cons,List.length_nil];omega
theorem Ih {kvs:List (κ×V)} {k:κ} (v:V) (h:cZ kvs k=none):putK kvs k v=kvs++[(k,v)]:=by
 unfold putK;rw [iT,h];exact if_neg (by decide)
theorem nA.pC {o:Option V} {u:Option Value} (r:nA o u):o.isSome=u.isSome:=by
 cases o with
 | none=>cases u with
   | none=>rfl
   | some _=>exact (show False from r).elim
 | some _=>cases u with
   | none=>exact (show False from r).elim
   | some _=>rfl
theorem nA.getD {o:Option V} {u:Option Value} {d:V} {d':Value} (r:nA o u) (rd:RelV d d'):RelV (o.getD d) (u.getD d'):=by
 cases o with
 | none=>cases u with
   | none=>exact rd
   | some _=>exact (show False from r).elim
 | some _=>cases u with
   | none=>exact (show False from r).elim
   | some _=>exact r
theorem KV.val {kvs:List (κ×V)} {vs:List (κ×Value)} (r:KV kvs vs) (k:κ):nA (cZ kvs k) (valueAt vs k):=by
 unfold KV at r
 induction r with
 | nil=>exact True.intro
 | @cons p q ps qs h t ih=>
   obtain ⟨h1,h2⟩:=h
   by_cases e:p.1=k
   ·have e':q.1=k:=h1.symm.trans e
    have b:valueAt (q::qs) k=some q.2:=by simp [valueAt,List.find?_cons,e']
    rw [dR e,b];exact h2
   ·have e':¬q.1=k:=fun z=>e (h1.trans z)
    have b:valueAt (q::qs) k=valueAt qs k:=by simp [valueAt,List.find?_cons,e']
    rw [dU e,b];exact ih
theorem KV.any {kvs:List (κ×V)} {vs:List (κ×Value)} (r:KV kvs vs) (k:κ):(kvs.any fun kv=>decide (kv.1=k))=vs.any fun kv=>decide (kv.1=k):=by
 unfold KV at r
 induction r with
 | nil=>rfl
 | cons h t ih=>rw [List.any_cons,List.any_cons,ih,h.1]
theorem KV.repl {kvs:List (κ×V)} {vs:List (κ×Value)} (r:KV kvs vs) (k:κ) {y:V} {u:Value} (ry:RelV y u):
 KV (kvs.map fun kv=>if kv.1=k then (kv.1,y) else kv) (vs.map fun kv=>if kv.1=k then (kv.1,u) else kv):=by
 unfold KV at r ⊢
 induction r with
 | nil=>exact .nil
 | @cons p q ps qs h t ih=>
   rw [List.map_cons,List.map_cons];refine .cons ?_ ih;obtain ⟨h1,h2⟩:=h
   by_cases e:p.1=k
   ·rw [if_pos e,if_pos (h1.symm.trans e)];exact ⟨h1,ry⟩
   ·rw [if_neg e,if_neg (fun z=>e (h1.trans z))];exact ⟨h1,h2⟩
theorem KV.put {kvs:List (κ×V)} {vs:List (κ×Value)} (r:KV kvs vs) (k:κ) {y:V} {u:Value} (ry:RelV y u):KV (putK kvs k y) (stored vs k u):=by
 unfold putK stored;rw [r.any k]
 by_cases e:(vs.any fun kv=>decide (kv.1=k))=true
 ·rw [if_pos e,if_pos e];exact r.repl k ry
 ·rw [if_neg e,if_neg e];exact Paired.snoc r ⟨rfl,ry⟩
theorem KV.length {kvs:List (κ×V)} {vs:List (κ×Value)} (r:KV kvs vs):kvs.length=vs.length:=Paired.length r
end
theorem u0 {P:Program} {w:World} {k:Key} {u:Value} (r:RelV (kV k) u):(bV P w).is k u=true:=by
 cases k with
 | inl i=>obtain ⟨t,e⟩:=(show ∃t,u=Value.int i t from r);subst e;exact yL P w i t
 | inr x=>obtain ⟨t,e⟩:=(show ∃t,u=Value.str x t from r);subst e;exact yK P w x t
theorem u5 {P:Program} {w:World}:∀{ks:List Key} {us:List Value},Vals (ks.map kV) us->ItemsAre (bV P w) ks us
 | [],_,r=>by rw [List.map_nil] at r;cases r;exact .nil
 | k::ks,_,r=>by
   rw [List.map_cons] at r;cases r with
   | cons h t=>exact .cons (u0 h) (u5 t)
abbrev KT (H:Hp):List (List Key×V)->List (List Key×Addr×Value)->Prop:=Paired fun p q=>p.1=q.1/\H q.2.1=some (.tup (p.1.map kV))/\RelV p.2 q.2.2
theorem KT.val {H:Hp} {kvs:List (List Key×V)} {xs:List (List Key×Addr×Value)} (r:KT H kvs xs) (k:List Key):nA (cZ kvs k) ((atKey xs k).map (·.2)):=by
 induction r with
 | nil=>exact True.intro
 | @cons p q ps qs h t ih=>
   obtain ⟨h1,_,h2⟩:=h
   by_cases e:p.1=k
   ·have e':q.1=k:=h1.symm.trans e
    have b:atKey (q::qs) k=some q.2:=by simp [atKey,List.find?_cons,e']
    rw [dR e,b];exact h2
   ·have e':¬q.1=k:=fun z=>e (h1.trans z)
    have b:atKey (q::qs) k=atKey qs k:=by simp [atKey,List.find?_cons,e']
    rw [dU e,b];exact ih
theorem KT.repl {H:Hp} {kvs:List (List Key×V)} {xs:List (List Key×Addr×Value)} (r:KT H kvs xs) (k:List Key) {y:V} {u:Value} (ry:RelV y u):
 KT H (kvs.map fun kv=>if kv.1=k then (kv.1,y) else kv) (xs.map (putAt k u)):=by
 induction r with
 | nil=>exact .nil
 | @cons p q ps qs h t ih=>
   rw [List.map_cons,List.map_cons];refine .cons ?_ ih;obtain ⟨h1,h2,h3⟩:=h;unfold putAt
   by_cases e:p.1=k
   ·rw [if_pos e,if_pos (h1.symm.trans e)];exact ⟨h1,h2,ry⟩
   ·rw [if_neg e,if_neg (fun z=>e (h1.trans z))];exact ⟨h1,h2,h3⟩
theorem KT.put {H:Hp} {kvs:List (List Key×V)} {xs:List (List Key×Addr×Value)} (r:KT H kvs xs) (k:List Key) {b:Addr} {y:V} {u:Value} (hb:H b=some (.tup (k.map kV))) (ry:RelV y u):
 KT H (putK kvs k y) (storedH xs k b u):=by
 have e:(kvs.any fun kv=>decide (kv.1=k))=(atKey xs k).isSome:=by
  rw [iT,(r.val k).pC,Option.isSome_map]
 unfold putK storedH;rw [e]
 by_cases q:(atKey xs k).isSome=true
 ·rw [if_pos q,if_pos q];exact r.repl k ry
 ·rw [if_neg q,if_neg q];exact Paired.snoc r ⟨rfl,hb,ry⟩
theorem KT.keeps {H H':Hp} {kvs:List (List Key×V)} {xs:List (List Key×Addr×Value)} (r:KT H kvs xs) (ht:∀b ys,H b=some (.tup ys)->H' b=some (.tup ys)):KT H' kvs xs:=
 Paired.Rr r fun _ _ z=>⟨z.1,ht _ _ z.2.1,z.2.2⟩
section
variable {P:Program} {w:World} {H:Hp} {h:Heap} {a:Addr}
theorem O2 {u:HO} (ok:lM P w H h) (e:Rd H a u):bD P w H h a u:=e.ok ok
theorem vm {kvs:List (Key×V)} (ok:lM P w H h) (e:Rd H a (.dK kvs)):kvs.length<=sizeLine/\(a==sysModules)=false /\ ∃vs,KV kvs vs/\h.DictOf (bV P w) a vs:=
 show bD P w H h a (.dK kvs) from O2 ok e
theorem Kh {kvs:List (Key×V)} (ok:lM P w H h) (e:H a=some (.dK kvs)):kvs.length<=sizeLine/\(a==sysModules)=false /\ ∃vs,KV kvs vs/\h.DictOf (bV P w) a vs:=vm ok (.inl e)
theorem pB {ks:List Key} (ok:lM P w H h) (e:H a=some (.tup (ks.map kV))):(tupleKind (bV P w)).is h ks a:=by
 obtain ⟨_,its,r,o,h1,h2,n,h3⟩:=(show bD P w H h a (.tup (ks.map kV)) from ok a _ e);exact ⟨o,its.toArray,n,h1,h2,h3,by simpa using u5 r⟩
theorem vh {kvs:List (List Key×V)} (ok:lM P w H h) (e:Rd H a (.dT kvs)):kvs.length<=sizeLine/\(a==sysModules)=false /\
 ∃xs,KT H kvs xs/\h.DictOfH (tupleKind (bV P w)) a xs:=by
 obtain ⟨z,y,xs,r,o,es,ep,h1,h2,h3,h4,h5⟩:=(show bD P w H h a (.dT kvs) from O2 ok e);refine ⟨z,y,xs,r,o,es,ep,h1,h2,h3,h4,fun x hx=> ?_,h5⟩
 have all:∀{l:List (List Key×V)} {m:List (List Key×Addr×Value)},KT H l m -> ∀x∈m,(tupleKind (bV P w)).is h x.1 x.2.1:=by
  intro l m q
  induction q with
  | nil=>intro x hx;exact nomatch hx
  | @cons p q ps qs hq t ih=>
    intro x hx;rcases List.mem_cons.mp hx with e|hx
    ·subst e
     exact pB ok (by rw [←hq.1];exact hq.2.1)
    ·exact ih x hx
 exact all r x hx
theorem Py {kvs:List (List Key×V)} (ok:lM P w H h) (e:H a=some (.dT kvs)):kvs.length<=sizeLine/\(a==sysModules)=false /\
 ∃xs,KT H kvs xs/\h.DictOfH (tupleKind (bV P w)) a xs:=vh ok (.inl e)
end
def iw (H:Hp) (a:Addr) (y:V) (r:Option V):Prop:=
 (∃kvs k,Rd H a (.dK kvs)/\y=kV k/\r=cZ kvs k) \/ ∃kvs k b,Rd H a (.dT kvs)/\y = .ref b/\H b=some (.tup (k.map kV))/\r=cZ kvs k
def xG (H:Hp) (a:Addr) (y v:V) (H':Hp):Prop:=
 (∃kvs k,H a=some (.dK kvs)/\y=kV k/\kvs.length<sizeLine/\H'=upd H a (.dK (putK kvs k v))) \/
 ∃kvs k b,H a=some (.dT kvs)/\y = .ref b/\H b=some (.tup (k.map kV))/\kvs.length<sizeLine/\H'=upd H a (.dT (putK kvs k v))
theorem iw.k {H:Hp} {a:Addr} {kvs:List (Key×V)} {k:Key} (e:H a=some (.dK kvs)):iw H a (kV k) (cZ kvs k):= .inl ⟨kvs,k,.inl e,rfl,rfl⟩
theorem iw.t {H:Hp} {a b:Addr} {kvs:List (List Key×V)} {k:List Key} (e:H a=some (.dT kvs)) (eb:H b=some (.tup (k.map kV))):iw H a (.ref b) (cZ kvs k):= .inr ⟨kvs,k,b,.inl e,rfl,eb,rfl⟩
theorem xG.k {H:Hp} {a:Addr} {kvs:List (Key×V)} {k:Key} {v:V} (e:H a=some (.dK kvs)) (hl:kvs.length<sizeLine):xG H a (kV k) v (upd H a (.dK (putK kvs k v))):= .inl ⟨kvs,k,e,rfl,hl,rfl⟩
theorem xG.t {H:Hp} {a b:Addr} {kvs:List (List Key×V)} {k:List Key} {v:V} (e:H a=some (.dT kvs)) (eb:H b=some (.tup (k.map kV))) (hl:kvs.length<sizeLine):
 xG H a (.ref b) v (upd H a (.dT (putK kvs k v))):= .inr ⟨kvs,k,b,e,rfl,eb,hl,rfl⟩
section
variable {X:Cx} {pins:List (Addr×Obj)} {σ:St} {H:Hp} {s:Shared} {a:Addr} {y v:V} {u r:Value} {o:Option V} {A:Around} {E:Value->Shared->Prop}
theorem Inv.big (I:Inv X pins σ H s):sysModules<s.heap.objs.size:=by
 have h:mainGlobals<s.heap.objs.size:=(I.mod.glob.keeps I.bk).lt;exact Nat.lt_trans (by decide) h
theorem Gs {Q:Value->Shared->Prop} (hu:A.units+1<cLine) (I:Inv X pins σ H s) (g:iw H a y (some v)) (ry:RelV y u) (h:∀w' s',Inv X pins σ H s'->RelV v w'->Q w' s'):
 wpAny (model X.prog X.w) A (getItem (.ref a) u) Q E s:=by
 rcases g with ⟨kvs,k,e,ey,l⟩|⟨kvs,k,b,e,ey,eb,l⟩
 ·subst ey
  obtain ⟨z,hd,vs,rel,dd⟩:=vm I.hok e;obtain ⟨w',hw,rw'⟩:=nA.some_of (v:=v) (o:=valueAt vs k) (by rw [l];exact rel.val k);exact wpAny_getItem_of (u0 ry) dd.mapOf hw (h w' _ (I.tok _) rw')
 ·subst ey
  cases (show u=Value.ref b from ry);obtain ⟨z,hd,xs,rel,dd⟩:=vh I.hok e;obtain ⟨w',hw,rw'⟩:=nA.some_of (v:=v) (o:=(atKey xs k).map (·.2)) (by rw [l];exact rel.val k);obtain ⟨p,hp,hp2⟩:=Option.map_eq_some_iff.mp hw;refine wpAny_getItem_heap (tupleKind_room_in1 hu) (pB I.hok eb) dd hp ?_;rw [hp2];exact h w' _ (I.tok _) rw'
theorem Oa {Q:Value->Shared->Prop} (hu:A.units+1<cLine) (I:Inv X pins σ H s) (g:iw H a y o) (ry:RelV y u) (h:∀s',Inv X pins σ H s'->Q (.bool (!o.isSome)) s'):
 wpAny (model X.prog X.w) A (compareOp .NotIn u (.ref a)) Q E s:=by
 rcases g with ⟨kvs,k,e,ey,l⟩|⟨kvs,k,b,e,ey,eb,l⟩
 ·subst ey
  obtain ⟨z,hd,vs,rel,dd⟩:=vm I.hok e;refine wpAny_notIn_of (u0 ry) hd dd.mapOf ?_;rw [←(rel.val k).pC,←l];exact h _ (I.tok _)
 ·subst ey
  cases (show u=Value.ref b from ry);obtain ⟨z,hd,xs,rel,dd⟩:=vh I.hok e;refine wpAny_notIn_heap (tupleKind_room_in1 hu) (pB I.hok eb) hd dd ?_;have q:=(rel.val k).pC;rw [Option.isSome_map] at q;rw [←q,←l];exact h _ (I.tok _)
theorem q_ {h':Heap} {t':Nat} {ob:HO} (I:Inv X pins σ H s) (mu:Xj (H a)) (hs:Heap.SameBut a s.heap h') (he:∃q,h'.get? a=some q) (new:bD X.prog X.w (upd H a ob) h' a ob):
 Inv X pins σ (upd H a ob) {s with heap:=h',toks:=t'}:=
 I.write (x:=a) (e:=a) mu (.inl rfl) (fun b q hb z=>(hs.2 b hb).trans z) he new
theorem Kl {P:Program} {w:World} {H':Hp} {h':Heap} {kvs:List (Key×V)} {vs:List (Key×Value)} (z:kvs.length<=sizeLine) (hd:(a==sysModules)=false) (rel:KV kvs vs) (dd:h'.DictOf (bV P w) a vs):
 bD P w H' h' a (.dK kvs):=⟨z,hd,vs,rel,dd⟩
theorem Gr {H':Hp} {Q:Unit->Shared->Prop} (hu:A.units+1<cLine) (I:Inv X pins σ H s) (g:xG H a y v H') (ry:RelV y u) (rv:RelV v r) (h:∀s',Inv X pins σ H' s'->Q () s'):
 wpAny (model X.prog X.w) A (setItem (.ref a) u r) Q E s:=by
 rcases g with ⟨kvs,k,e,ey,l,eH⟩|⟨kvs,k,b,e,ey,eb,l,eH⟩
 ·subst ey eH
  obtain ⟨z,hd,vs,rel,dd⟩:=Kh I.hok e;have hz:vs.length<=sizeLine:=by rw [←rel.length];exact z
  have hl:(putK kvs k v).length<=sizeLine:=by have:=eE kvs k v;omega
  refine wpAny_setItem_pairs (hsz:=hz) (u0 ry) dd fun h' Ko hs=>h _ ?_;have he:∃q,h'.get? a=some q:=let ⟨q,_,_,hq,_⟩:=Ko;⟨q,hq⟩
  exact q_ I (by rw [e];exact True.intro) hs he (Kl hl hd (rel.put k rv) Ko)
 ·subst ey eH
  cases (show u=Value.ref b from ry);obtain ⟨z,hd,xs,rel,dd⟩:=Py I.hok e;have hz:xs.length<=sizeLine:=by rw [←Paired.length rel];exact z
  have hl:(putK kvs k v).length<=sizeLine:=by have:=eE kvs k v;omega
  refine wpAny_setItem_heap (hsz:=hz) (tupleKind_room_in1 hu) (pB I.hok eb) dd fun h' Ko hs=>h _ ?_;obtain ⟨q,es,ep,hq,h2,h3,h4,_,h5⟩:=Ko;refine q_ I (by rw [e];exact True.intro) hs ⟨q,hq⟩ ⟨hl,hd,_,(rel.put k eb rv).keeps fun c ys ec=> ?_,q,es,ep,hq,h2,h3,h4,h5⟩;rw [aJ (dB ec e (fun z=>nomatch z))];exact ec
end
section
variable {X:Cx} {pins:List (Addr×Obj)} {σ:St} {H:Hp} {s:Shared} {a:Addr} {kvs:List (Key×V)} {k:Key} {u:Value} {A:Around} {E:Value->Shared->Prop}
end
def Xi (i:Expr):Prop:=∀ov iv,subscripted i false ov iv=operate [ov,iv] (getItem ov iv)
theorem Lz {prog:Program} {w:World} {A:Around} {E:Value->Shared->Prop} {s:Shared} {env:Env} {value slice:Expr} {pos:Pos} {T id:String} {Q:Value->Shared->Prop}
 (hl:typeLookup (.type T) "__getitem__" = pure (some (.builtin id))) (hs:Xi slice)
 (h:wpAny (model prog w) A (eval value env) (fun o s₁=>wpAny (model prog w) A (eval slice env) (fun i s₂=>s₂.TypeIs o T/\wpAny (model prog w) A (getItem o i) Q E s₂) E s₁) E s):
 wpAny (model prog w) A (eval (.Subscript value slice pos) env) Q E s:=by
 refine Subscript_ (wpAny_mono h (fun o s₁ h₁=>wpAny_mono h₁ (fun i s₂ h₂=> ?_) fun _ _ x=>x) fun _ _ x=>x);obtain ⟨hT,h₂⟩:=h₂;unfold subscriptTail;refine wpAny_bind ?_;rw [getitemInPython_of_ne hT.not_modules];refine wpAny_bind (wpAny_specialOf hT hl ?_)
 have fin:wpAny (model prog w) A (subscripted slice false o i) (fun r s₃=>wpAny (model prog w) A (letTemporaryGo value o r >>= fun _=>pure r) Q E s₃) E s₂:=by
  rw [hs o i];exact wpAny_operating (wpAny_mono h₂ (fun r s₃ h₃=>wpAny_bind (wpAny_letTemporaryGo (wpAny_pure h₃))) fun _ _ x=>x)
 first
  | exact wpAny_pure (wpAny_bind fin)
  | exact wpAny_bind (wpAny_pure (wpAny_bind fin))
  | exact wpAny_bind fin
theorem zx {X:Cx} {pins:List (Addr×Obj)} {σ:St} {H:Hp} {s:Shared} {a:Addr} {y:V} {o:Option V} (I:Inv X pins σ H s) (g:iw H a y o):s.TypeIs (.ref a) "dict" :=by
 rcases g with ⟨kvs,k,e,_,_⟩|⟨kvs,k,b,e,_,_,_⟩
 ·obtain ⟨_,_,vs,_,dd⟩:=vm I.hok e
  exact dd.typeIs
 ·obtain ⟨_,_,xs,_,dd⟩:=vh I.hok e
  exact dd.typeIs
def Uq (td ty:TE):TE:=fun σ H Q=>td σ H fun x H1=>ty σ H1 fun y H2=>∃a v,x = .ref a/\iw H2 a y (some v)/\Q v H2
def Ly (ty td:TE):TE:=fun σ H Q=>ty σ H fun y H1=>td σ H1 fun x H2=>∃a o,x = .ref a/\iw H2 a y o/\Q (.bl (!o.isSome)) H2
def Uy (td ty tv:TE):TS:=fun D σ H=>tv σ H fun v H1=>td σ H1 fun x H2=>ty σ H2 fun y H3=>∃a H4,x = .ref a/\xG H3 a y v H4/\D.nx σ H4
section
variable {X:Cx} {o i e value:Expr} {pos pos' tpos:Pos} {td ty tv:TE}
theorem fV (hu:X.A.units+1<cLine) (ho:PE X o td) (hi:PE X i ty) (hs:Xi i):PE X (.Subscript o i pos) (Uq td ty):=by
 intro pins s σ H Q I h;refine Lz PySem.F.slot_dict_getitem.lookup hs (cM (ho pins s σ H _ I h) fun u s1 ⟨x,H1,I1,rx,q1⟩=>cM (hi pins s1 σ H1 _ I1 q1) fun iv s2 ⟨y,H2,I2,ry,a,v,ex,g,q2⟩=> ?_);subst ex;obtain rfl:u=Value.ref a:=rx;exact ⟨zx I2 g,Gs hu I2 g ry fun w' s3 I3 rw'=>⟨v,H2,I3,rw',q2⟩⟩
theorem uT (hu:X.A.units+1<cLine) (hi:PE X i ty) (ho:PE X o td):PC X .NotIn i o (Ly ty td):=by
 intro pins s σ H Q I h;refine cM (hi pins s σ H _ I h) fun iv s1 ⟨y,H1,I1,ry,q1⟩=>cM (ho pins s1 σ H1 _ I1 q1) fun u s2 ⟨x,H2,I2,rx,a,ov,ex,g,q2⟩=> ?_;subst ex;obtain rfl:u=Value.ref a:=rx;exact Oa hu I2 g ry fun s3 I3=>⟨.bl (!ov.isSome),H2,I3,rfl,q2⟩
theorem wz (hu:X.A.units+1<cLine) (ho:PE X o td) (hi:PE X i ty) (hv:PE X value tv) (hs:swapsWith value (some (.Subscript o i pos')) pos.line X.env=pure false):
 PS X (.Assign [.Subscript o i pos'] value pos) (Uy td ty tv):=by
 intro pins s σ H D I h;refine wpAny_Assign_Subscript (cM (hv pins s σ H _ I h) fun r s1 ⟨v,H1,I1,rv,q1⟩=>cM (ho pins s1 σ H1 _ I1 q1) fun u s2 ⟨x,H2,I2,rx,q2⟩=>cM (hi pins s2 σ H2 _ I2 q2) fun iv s3 ⟨y,H3,I3,ry,a,H4,ex,g,q3⟩=> ?_) hs;subst ex;obtain rfl:u=Value.ref a:=rx;exact Gr hu I3 g ry rv fun s4 I4=>⟨σ,H4,I4,q3⟩
end
theorem zu {P:Program} {w:World} {H:Hp} (h:Heap) (hb:sysModules<h.objs.size):bD P w H (h.push {cls:= .type "dict",data:= .dict #[]}) h.objs.size (.dK []):=
 ⟨Nat.zero_le _,beq_eq_false_iff_ne.mpr (Ne.symm (Nat.ne_of_lt hb)),[],.nil,Heap.DictOf.new h⟩
theorem Kg {P:Program} {w:World} {H:Hp} (h:Heap) (hb:sysModules<h.objs.size):bD P w H (h.push {cls:= .type "dict",data:= .dict #[]}) h.objs.size (.dT []):=
 ⟨Nat.zero_le _,beq_eq_false_iff_ne.mpr (Ne.symm (Nat.ne_of_lt hb)),[],.nil,_, #[],0,Heap.get?_push_size _ rfl,⟨rfl,rfl,rfl⟩,rfl,rfl,List.nodup_nil⟩
def Qn:TE:=fun _ H Q=>∀p,H p=none->Q (.ref p) (upd H p (.dK []))
def Qm:TE:=fun _ H Q=>∀p,H p=none->Q (.ref p) (upd H p (.dT []))
section
variable {X:Cx} {pos:Pos}
theorem yF:PE X (.Dict [] [] pos) Qn:=fun pins s σ H Q I h=>
 wpAny_Dict_empty ⟨.ref s.heap.objs.size,_,I.laid (a:=s.heap.objs.size) (o:= .dK []) (t':=s.toks) (fun _ _ q=>Heap.get?_push_of_some _ q) (Nat.le_refl _) (zu s.heap I.big),rfl,h _ (I.hok.fresh (Nat.le_refl _))⟩
theorem yE:PE X (.Dict [] [] pos) Qm:=fun pins s σ H Q I h=>
 wpAny_Dict_empty ⟨.ref s.heap.objs.size,_,I.laid (a:=s.heap.objs.size) (o:= .dT []) (t':=s.toks) (fun _ _ q=>Heap.get?_push_of_some _ q) (Nat.le_refl _) (Kg s.heap I.big),rfl,h _ (I.hok.fresh (Nat.le_refl _))⟩
end
def Ae:List (TE×TE)->St->Hp->(List (V×V)->Hp->Prop)->Prop
 | [],_,H,Q=>Q [] H
 | (tk,tv)::r,σ,H,Q=>tk σ H fun x H1=>tv σ H1 fun y H2=>Ae r σ H2 fun ps H3=>Q ((x,y)::ps) H3
abbrev VV:List (V×V)->List (Value×Value)->Prop:=Paired fun p q=>RelV p.1 q.1/\RelV p.2 q.2
def YS (X:Cx) (pos:Pos) (keys:List (Option Expr)) (values:List Expr) (Lr:List (TE×TE)):Prop:=
 ∀(pins:List (Addr×Obj)) (s:Shared) (σ:St) (H:Hp) (Q:List (V×V)->Hp->Prop),Inv X pins σ H s->Ae Lr σ H Q ->
  wpAny (model X.prog X.w) X.A (evalPairs (pairTrees keys values X.env pos)) (fun vs s'=>∃ps H',Inv X pins σ H' s'/\VV ps vs/\Q ps H') X.xe s
theorem Dg {X:Cx} {pos:Pos}:YS X pos [] [] []:=fun pins s σ H Q I h=>pairTrees_nil_walk ⟨[],H,I,.nil,h⟩
theorem yD {X:Cx} {pos:Pos} {k v:Expr} {ks:List (Option Expr)} {vs:List Expr} {tk tv:TE} {Lr:List (TE×TE)} (hk:PE X k tk) (hv:PE X v tv) (hr:YS X pos ks vs Lr):
 YS X pos (some k::ks) (v::vs) ((tk,tv)::Lr):=fun pins s σ H Q I h=>
 pairTrees_cons_walk (cM (hk pins s σ H _ I h) fun u s1 ⟨x,H1,I1,rx,q1⟩=>cM (hv pins s1 σ H1 _ I1 q1) fun w2 s2 ⟨y,H2,I2,ry,q2⟩=>
  cM (hr pins s2 σ H2 _ I2 q2) fun ws s3 ⟨ps,H3,I3,rel,q3⟩=>⟨(x,y)::ps,H3,I3,.cons ⟨rx,ry⟩ rel,q3⟩)
def mY (kvs more:List (Key×V)):List (Key×V):=more.foldl (fun acc kv=>putK acc kv.1 kv.2) kvs
theorem KV.merge:∀{more:List (Key×V)} {rs:List (Key×Value)} {kvs:List (Key×V)} {vs:List (Key×Value)},KV more rs->KV kvs vs->KV (mY kvs more) (merged vs rs):=by
 intro more rs kvs vs r;unfold KV at r
 induction r generalizing kvs vs with
 | nil=>intro q;exact q
 | @cons p q ps qs h t ih=>
   intro r0
   have e:KV (putK kvs p.1 p.2) (stored vs q.1 q.2):=by
    have:=r0.put p.1 h.2;rw [←h.1];exact this
   exact ih e
theorem mO:∀(more kvs:List (Key×V)),(mY kvs more).length<=kvs.length+more.length
 | [],kvs=>by show kvs.length<=kvs.length+0;omega
 | p::r,kvs=>by
   have h1:=mO r (putK kvs p.1 p.2);have h2:=eE kvs p.1 p.2;show (mY (putK kvs p.1 p.2) r).length<=_;rw [List.length_cons];omega
theorem tY {P:Program} {w:World}:∀{kvs:List (Key×V)} {ws:List (Value×Value)},VV (kvs.map fun kv=>(kV kv.1,kv.2)) ws -> ∃rs,Carries (bV P w) ws rs/\KV kvs rs
 | [],_,r=>by rw [List.map_nil] at r;cases r;exact ⟨[],True.intro,.nil⟩
 | p::kvs,_,r=>by
   rw [List.map_cons] at r;cases r with
   | @cons a b as bs h t=>
     obtain ⟨rs,c,q⟩:=tY (P:=P) (w:=w) t;obtain ⟨b1,b2⟩:=b;exact ⟨(p.1,b2)::rs,⟨u0 h.1,rfl,c⟩,.cons ⟨rfl,h.2⟩ q⟩
def Uo (Lr:List (TE×TE)):TE:=fun σ H Q=>∀p,H p=none->Ae Lr σ (upd H p (.dK [])) fun ps H2=>H2 p=some (.dK []) /\ ∃kvs:List (Key×V),ps=kvs.map (fun kv=>(kV kv.1,kv.2))/\kvs.length<=15/\Q (.ref p) (upd H2 p (.dK (mY [] kvs)))
theorem Di {X:Cx} {pos:Pos} {keys:List (Option Expr)} {values:List Expr} {Lr:List (TE×TE)} (h:YS X pos keys values Lr) (hall:keys.all (·.isSome)=true) (hl:keys.length=values.length) (h0:keys≠[])
 (h15:keys.length<=15):PE X (.Dict keys values pos) (Uo Lr):=by
 intro pins s σ H Q I q;have hn:=I.hok.fresh (Nat.le_refl s.heap.objs.size);have I1:=I.laid (a:=s.heap.objs.size) (o:= .dK []) (h':=s.heap.push {cls:= .type "dict",data:= .dict #[]}) (t':=s.toks) (fun _ _ q=>Heap.get?_push_of_some _ q) (Nat.le_refl _) (zu s.heap I.big);refine wpAny_Dict_walk (knd:=bV X.prog X.w) hall hl h0 h15 (cM (h pins _ σ _ _ I1 (q _ hn)) fun ws s2 ⟨ps,H2,I2,rel,e,kvs,ep,lk,q2⟩=> ?_);subst ep;obtain ⟨rs,c,rk⟩:=tY (P:=X.prog) (w:=X.w) rel;obtain ⟨z,hd,vs0,r0,dd⟩:=Kh I2.hok e;cases r0;refine ⟨rs,c,dd,fun h' Ko hs=>⟨.ref s.heap.objs.size,_, ?_,rfl,q2⟩⟩
 have hz:(mY [] kvs).length<=sizeLine:=by
  have h1:=mO kvs [];rw [List.length_nil] at h1;rw [sizeLine_eq];omega
 have he:∃q,h'.get? s.heap.objs.size=some q:=let ⟨q,_,_,hq,_⟩:=Ko;⟨q,hq⟩
 exact q_ I2 (by rw [e];exact True.intro) hs he (Kl hz hd (rk.merge .nil) Ko)
structure M2 (X:Cx) (o:Expr) (m:Str) (apos:Pos) (e f:Expr) (cpos:Pos):Prop where
 base:attributeBase o m X.env (eval o X.env)=eval o X.env
 few:((backTo cpos (starEach [e,f] X.env)).all (fun x=> !x.1)&&(backToKw cpos (keywordEach [] X.env)).all (fun x=>x.1.isSome)
  && decide (([e,f]:List Expr).length+([]:List Keyword).length+(if ([]:List Keyword).isEmpty then 0 else 1)<30))=true
 line:(apos.endLine==cpos.line)=true
 trees:backTo cpos (starEach [e,f] X.env)=[(false,eval e X.env),(false,eval f X.env)]
def IsD (H:Hp) (a:Addr):Prop:=(∃kvs,Rd H a (.dK kvs)) \/ ∃kvs,Rd H a (.dT kvs)
theorem JQ {X:Cx} {pins:List (Addr×Obj)} {σ:St} {H:Hp} {s:Shared} {a:Addr} (I:Inv X pins σ H s) (d:IsD H a):
 s.TypeIs (.ref a) "dict" /\ (∀b,Value.ref a = .ref b -> ∃ob,s.heap.get? b=some ob/\ob.dict=none)/\(a==sysModules)=false:=by
 rcases d with ⟨kvs,e⟩|⟨kvs,e⟩
 ·obtain ⟨_,hd,vs,_,dd⟩:=vm I.hok e
  refine ⟨dd.typeIs,fun b q=> ?_,hd⟩;cases q;obtain ⟨ob,_,_,h1,h2,_⟩:=dd;exact ⟨ob,h1,h2.2.1⟩
 ·obtain ⟨_,hd,xs,_,dd⟩:=vh I.hok e
  refine ⟨dd.typeIs,fun b q=> ?_,hd⟩;cases q;obtain ⟨ob,_,_,h1,h2,_⟩:=dd;exact ⟨ob,h1,h2.2.1⟩
section
variable {X:Cx} {pins:List (Addr×Obj)} {σ:St} {H:Hp} {s:Shared} {a:Addr} {y d:V} {u r:Value} {o:Option V} {A:Around} {E:Value->Shared->Prop}
theorem SN {Q:Value->Shared->Prop} (hu:A.units+1<cLine) (I:Inv X pins σ H s) (g:iw H a y o) (ry:RelV y u) (rd:RelV d r) (h:∀w' s',Inv X pins σ H s'->RelV (o.getD d) w'->Q w' s'):
 wpAny (model X.prog X.w) A (call (.builtin "dict.get") [.ref a,u,r]) Q E s:=by
 rcases g with ⟨kvs,k,e,ey,l⟩|⟨kvs,k,b,e,ey,eb,l⟩
 ·subst ey
  obtain ⟨z,hd,vs,rel,dd⟩:=vm I.hok e;refine call_meetsIn PySem.F.slot_dict_get dd.typeIs PySem.F.entry_dict_get (PySem.F.args_dict_get_3 _ _ _) (meets_dict_get_default (bV X.prog X.w) a (u0 ry) hd r) ⟨_,dd.mapOf,h _ _ (I.tok _) ?_⟩;rw [l];exact (rel.val k).getD rd
 ·subst ey
  cases (show u=Value.ref b from ry);obtain ⟨z,hd,xs,rel,dd⟩:=vh I.hok e;refine call_meetsIn PySem.F.slot_dict_get dd.typeIs PySem.F.entry_dict_get (PySem.F.args_dict_get_3 _ _ _) (meetsH_dict_get_default (tupleKind (bV X.prog X.w)) a b hd r) ⟨tupleKind_room_in1 hu,k,xs,pB I.hok eb,dd,h _ _ (I.tok _) ?_⟩;rw [l];exact (rel.val k).getD rd
end
def Qo (td ty tx:TE):TE:=fun σ H Q=>td σ H fun x H1=>∃a,x = .ref a/\IsD H1 a/\ty σ H1 fun y H2=>tx σ H2 fun z H3=>∃o,iw H3 a y o/\Q (o.getD z) H3
section
variable {X:Cx} {o e f:Expr} {apos cpos:Pos} {td ty tx:TE}
theorem rT (hu:X.A.units+1<cLine) (ho:PE X o td) (he:PE X e ty) (hf:PE X f tx) (m:M2 X o "get" apos e f cpos):PE X (.Call (.Attribute o "get" apos) [e,f] [] cpos) (Qo td ty tx):=by
 intro pins s σ H Q I h;refine wpAny_Call_method m.base m.few m.line PySem.F.plainAttrs_dict PySem.F.slot_dict_get PySem.F.type_dict_get (cM (ho pins s σ H _ I h) fun u s1 ⟨x,H1,I1,rx,a,ex,d,q1⟩=> ?_);subst ex;obtain rfl:u=Value.ref a:=rx;obtain ⟨t1,t2,_⟩:=JQ I1 d;refine ⟨t1,t2, ?_⟩;rw [m.trees]
 refine Calls.callWith_builtin rfl (Calls.evalArgs_plain (Calls.spliced_cons (cM (he pins s1 σ H1 _ I1 q1) fun iv s2 ⟨y,H2,I2,ry,q2⟩=>
  Calls.spliced_cons (cM (hf pins s2 σ H2 _ I2 q2) fun fv s3 ⟨z,H3,I3,rz,ov,g,q3⟩=>Calls.spliced_nil ?_))))
 exact SN hu I3 g ry rz fun w' s4 I4 rw'=>⟨_,H3,I4,rw',q3⟩
end
section
variable {X:Cx} {pins:List (Addr×Obj)} {σ:St} {H:Hp} {s:Shared} {a:Addr} {kvs:List (Key×V)} {A:Around} {E:Value->Shared->Prop}
end
section
variable {X:Cx} {pins:List (Addr×Obj)} {σ:St} {H:Hp} {s:Shared} {a:Addr} {y:V} {u:Value} {A:Around} {E:Value->Shared->Prop}
end
end L2
namespace Att
open PySem PySem.W PySem.Calls PyProof.Rows
theorem qF {P:Params} {h:Heap}:∀(ns:List Int) (vs:List Value),WellAll P h vs (ns.map WData.int)->IntsAre vs ns:=by
 intro ns
 induction ns with
 | nil=>
   intro vs w;rw [List.map_nil] at w;cases w;exact .nil
 | cons n ns ih=>
   intro vs w;rw [List.map_cons] at w;cases w with
   | cons a b=>
     cases a;exact .cons _ _ (ih _ b)
theorem Fo {l:OpenLaw} {n:Nat} (hn:l.most=some n) {P:Params} {h:Heap} {args:List WData} {vals:List Value}
 (hpre:l.row.toRowW.claim.pre args=true) (hwl:WellAll P h vals args):
 ∃a vs ns,vals=[Value.ref a]/\args=[WData.list (ns.map WData.int)]/\h.get? a=some {cls:= .type "list",data:= .seq vs.toArray}/\IntsAre vs ns/\ns.length<=n:=by
 have hsh:WShape.hasAll [] args [.list .int]=true:=(pre_splitW hpre).1;have hc:l.pre.holds [] {args:=args}=true:=(pre_splitW hpre).2;obtain ⟨d,r,rfl,h1,h2⟩:=hasAllW_cons hsh;obtain rfl:=hasAllW_nil h2;obtain ⟨xs,rfl,h3⟩:=hasW_list h1;obtain ⟨ns,rfl⟩:=items_int h3
 have hlen:ns.length<=n:=by
  unfold OpenLaw.pre at hc
  have h4:(WTm.not (.lt (.lit (.int (n:Int))) (.len (.arg 0)))).holds [] {args:=[.list (ns.map .int)]}=true:=by
   have h4:=(holds_andW hc).1;rw [hn] at h4;exact h4
  have h5:=condW_of h4 (w_not (w_lt w_lit (w_len_list (w_arg rfl))));rw [List.length_map] at h5;refine Nat.le_of_not_lt fun q=> ?_;have q':(n:Int)<((ns.length:Nat):Int):=by omega
  first
   | (rw [decide_eq_true q'] at h5;exact absurd h5 (by decide))
   | (simp at h5;omega)
 cases hwl with
 | cons w1 w2=>
   cases w2;cases w1 with
   | list ho hall=>exact ⟨_,_,ns,rfl,rfl,ho,qF ns _ hall,hlen⟩
theorem Fw (l:OpenLaw) (args:List WData):l.row.toRowW.claim.post args (.bool true) args=true:=
 postW_of (r:=l.row.toRowW) (X:=(true==true))
  (show WShape.has [] (.bool true) .bool=true by first |rfl|decide|simp [WShape.has,WShape.arms,WShape.armsAll])
  (show (WTm.eq .res (.lit (.bool true))).value [] {args:=args,res:=some (.bool true),after:=args}=some (.bool (true==true)) from w_eq_bool (w_res rfl) w_lit) rfl
theorem qj {l:OpenLaw} {n:Nat} {q:Program} {loose:List Str} {XP:(Str->Option Value)->Heap->Prop} {YP:World->Heap->Prop} {d:DefRec}
 (hn:l.most=some n) (hdf:d.params.defaults=[])
 (call:∀(w:World) (s₀ s₁:Shared) (mg mb:Str->Option Value) (fa:Addr) (o:Obj) (pm cd doc:Value) (a:Addr) (vs:List Value) (ns:List Int),
   Ground q loose [] XP w s₀ mg mb s₁.heap->YP w s₁.heap ->
   s₁.heap.get? fa=some o->o.data = .func (docDef d.name d.params d.body d.scope pm cd doc)->s₁.heap.CodeRec cd d.name->mg d.name=some (.ref fa) ->
   s₁.heap.get? a=some {cls:= .type "list",data:= .seq vs.toArray}->IntsAre vs ns->ns.length<=n->s₁.gens = #[] ->
   codeAny (model l.prog w) callerA (.call (.ref fa) ⟨[.ref a],[]⟩) (fun r s'=>r = .ok (.ret (.bool true))/\OldK s₁.heap s'.heap/\s'.os=s₁.os/\AllBare s'.gens) s₁):
 WalkO q loose XP YP l.row.toRowW d [] (fun f vs=>PySem.call f vs):=by
 intro w s₀ s₁ mg mb G Y fa o pm cd doc dV kV ho hd hcd hD hmg hg args vals as hpre hlay hrd hwl hlo;obtain rfl:dV = .none:=Dflts.none hD hdf;obtain rfl:kV = .none:=Dflts.noKw hD;obtain ⟨a,vs,ns,rfl,rfl,hobj,hints,hlen⟩:=Fo hn hpre hwl;refine enter_call (codeAny_mono (call w s₀ s₁ mg mb fa o pm cd doc a vs ns G Y ho (fd_plain hd) hcd hmg hobj hints hlen hg) fun r s' hq=> ?_);obtain ⟨rfl,h2,h3,h4⟩:=hq;exact ⟨.inl ⟨.bool true,.bool true,[],rfl,fun _=>rfl,.bool true,Fw l _,fun _=>⟨List.Pairwise.nil,fun _ hm=>(nomatch hm)⟩⟩,h2,h3,h4⟩
section
variable {prog:Program} {w:World} {A:Around} {E:Value->Shared->Prop} {s:Shared} {K:Frag}
def ledger (h:Heap) (L d:Addr):List (Addr×Obj):=(List.range h.objs.size).filterMap fun a=>if a=L\/a=d then none else (h.get? a).map fun o=>(a,o)
end
end Att
namespace L2
open PySem PySem.Spec PyProof.Rows
theorem uO {vs:List Value} {ns:List Int} (h:IntsAre vs ns):Vals (ns.map V.int) vs:=by
 induction h with
 | nil=>exact .nil
 | cons n t h ih=>exact .cons ⟨t,rfl⟩ ih
def Only (H:Hp):Prop:=∀b,H b=none \/ ∃o xs,H b=some (.gM o (.lst xs))
theorem Jx {P:Program} {w:World} {K:PySem.W.Frag} {mg mb:Str->Option Value} {CX:G4} {k:Nat} {fa a:Addr} {fd:FuncData} {x:Str} {sp:Sp} {s₁:Shared} {vs:List Value} {ns:List Int}
 (KX:K.In s₁.heap) (hns:s₁.heap.Ns mainGlobals mg) (hb:s₁.heap.Ns builtinsNs mb) (hbb:∀x:Str,x ≠ "__name__" -> mb x=bootBuiltins x) (hlim:s₁.heap.NoLimit) (hg:s₁.gens = #[])
 (ha:s₁.heap.get? a=some {cls:= .type "list",data:= .seq vs.toArray}) (hi:IntsAre vs ns) (hl:ns.length<=sizeLine) (hr:eZ k callerA)
 (F:∀base:Heap,K.In base->base.Ns mainGlobals mg->cX P w K mg base CX k fa fd [x] sp) (hbind:∀(s:Shared) (u:Value),BindsTo s fd ⟨[u],[]⟩ [(x,u)])
 (hsp:∀H:Hp,Only H->bh K H a (ns.map V.int)->sp [.ref a] H (fun v _=>v = .bl true) fun _ _ _=>False)
 (R8:∀H e s',CX [] H s₁ (fun _ _ _=>False) e s'->False):
 codeAny (model P w) callerA (.call (.ref fa) ⟨[.ref a],[]⟩) (fun r s'=>r = .ok (.ret (.bool true))/\OldK s₁.heap s'.heap/\s'.os=s₁.os/\AllBare s'.gens) s₁:=by
 have rv:=uO hi;have lenV:=hi.length
 have core:∀H:Hp,Only H->bh K H a (ns.map V.int)->lM P w H s₁.heap->(∀b,H b≠none->b=a)->(H a≠none->K.lookup a=none) ->
  codeAny (model P w) callerA (.call (.ref fa) ⟨[.ref a],[]⟩) (fun r s'=>r = .ok (.ret (.bool true))/\OldK s₁.heap s'.heap/\s'.os=s₁.os/\AllBare s'.gens) s₁:=by
  intro H hO hS hok hA hK;have mz:∀{b:Addr} {o:Obj},s₁.heap.get? b=some o->H b=none->(m_ s₁.heap H).get? b=some o:=fun e n=>yW e n
  have Rh:∀{b:Addr} {o:Obj} {es:Array DictEntry} {ep:Nat},s₁.heap.get? b=some o->o.data = .dict es ep->H b=none:=fun {b o es ep} e d=>by
   cases q:H b with
   | none=>rfl
   | some u=>
     have e':b=a:=hA b (by rw [q];simp);subst e';rw [ha] at e;cases e;have d':Data.seq vs.toArray _=Data.dict es ep:=d;cases d'
  have MP:∀{b:Addr} {m:Str->Option Value},s₁.heap.Ns b m->(m_ s₁.heap H).Ns b m:=fun {b m} ⟨o,es,ep,e,d,r⟩=>⟨o,es,ep,mz e (Rh e d),d,r⟩
  have Wb:K.In (m_ s₁.heap H):=fun b o e=>mz (KX b o e) (by
   cases q:H b with
   | none=>rfl
   | some u=>
     have e':b=a:=hA b (by rw [q];simp);subst e';rw [hK (by rw [q];simp)] at e;cases e)
  have hM:Mod K mg (m_ s₁.heap H):=⟨Wb,MP hns,⟨mb,MP hb,hbb⟩,let ⟨mc,h1,h2⟩:=hlim;⟨mc,MP h1,h2⟩⟩;have e0:xu P w K mg (m_ s₁.heap H) callerA [] s₁ H:=⟨rfl,hM,fun b o e=>Dp e,Nat.le_of_eq (u_ _ _),trivial,fun b hb=>absurd (show b∈([]:List Addr) from hb) (by simp),hok,.of_eq hg⟩;refine codeAny_mono ((F _ Wb (MP hns)).run callerA [] s₁ H ⟨[.ref a],[]⟩ [.ref a] [.ref a] _ _ hr e0 (hbind s₁ (.ref a)) (.cons rfl .nil) (hsp H hO hS)) fun r s' h=> ?_;cases r with
  | error e=>exact (R8 H e s' h).elim
  | ok fl=>
    cases fl with
    | next=>exact False.elim h
    | brk=>exact False.elim h
    | cont=>exact False.elim h
    | ret u=>
      obtain ⟨v,H',os,bare,un,hok',r',q⟩:=h;have q':v = .bl true:=q;subst q';obtain rfl:u=Value.bool true:=r';refine ⟨rfl,OldK.of_keep fun b o e=> ?_,os,bare⟩;cases q:H b with
      | none=>exact un.keep b o e q (by intro z;exact absurd (show b∈([]:List Addr) from z) (by simp)) (by simp)
      | some u=>
        rcases hO b with z|⟨ob,xs,z⟩
        ·rw [q] at z;cases z
        ·have z2:=un.ni b ob _ z
         obtain ⟨e1,_⟩:=hok b _ z;obtain ⟨e2,_⟩:=hok' b _ z2;rw [e] at e1;cases e1;exact e2
 cases hk:K.lookup a with
 | some o=>
   have e:=KX a o hk;rw [ha] at e;cases e;refine core (fun _=>none) (fun _=> .inl rfl) (.inr ⟨_,vs.toArray,_,hk,rfl,rfl,rfl,by rw [List.size_toArray,lenV];exact hl,by simpa using rv⟩) (fun b u z=>by have z':(none:Option HO)=some u:=z;cases z') (fun b z=>absurd rfl z) fun z=>absurd rfl z
 | none=>
   refine core (fun b=>if b=a then some (.gM {cls:= .type "list",data:= .seq vs.toArray} (.lst (ns.map V.int))) else none) (fun b=> ?_) (.inl (.inr ⟨{cls:= .type "list",data:= .seq vs.toArray},if_pos rfl⟩)) (fun b u z=> ?_) (fun b z=> ?_) fun _=>hk
   ·by_cases hb:b=a
    ·exact .inr ⟨_,_,if_pos hb⟩
    ·exact .inl (if_neg hb)
   ·by_cases hb:b=a
    ·have z':=(if_pos hb).symm.trans z
     cases z';subst hb;exact ⟨ha,by rw [List.length_map];exact hl,vs,_,rv,ha⟩
    ·have z':=(if_neg hb).symm.trans z
     cases z'
   ·by_cases hb:b=a
    ·exact hb
    ·exact absurd (if_neg hb) z
end L2
namespace L2
open PySem PySem.Spec PyProof.Rows
abbrev KOf {K:PySem.W.Frag} {h:Heap} (_:K.In h):PySem.W.Frag:=K
theorem Xr {l:PySem.W.OpenLaw} {n k:Nat} {q:Program} {loose:List Str} {XP:(Str->Option Value)->Heap->Prop} {YP:World->Heap->Prop} {d:DefRec} {K:Params->PySem.W.Frag} {CX:World->G4} {sp:World->Sp} {x:Str}
 (hn:l.most=some n) (hn2:n<=sizeLine) (hdf:d.params.defaults=[]) (hr:eZ k callerA)
 (hY:∀(w:World) (h:Heap),YP w h->(K w.params).In h)
 (F:∀(w:World) (mg:Str->Option Value) (fa:Addr) (h:Heap),(K w.params).In h->h.Ns mainGlobals mg->mg d.name=some (.ref fa) ->
   ∃fd:FuncData,(∀(s:Shared) (u:Value),BindsTo s fd ⟨[u],[]⟩ [(x,u)]) /\
    ∀base:Heap,(K w.params).In base->base.Ns mainGlobals mg->cX l.prog w (K w.params) mg base (CX w) k fa fd [x] (sp w))
 (hsp:∀(w:World) (H:Hp) (a:Addr) (ns:List Int),ns.length<=n->Only H->bh (K w.params) H a (ns.map V.int)->sp w [.ref a] H (fun v _=>v = .bl true) fun _ _ _=>False)
 (R8:∀(w:World) (H:Hp) (s:Shared) (e:Value) (s':Shared),CX w [] H s (fun _ _ _=>False) e s'->False):
 PySem.W.WalkO q loose XP YP l.row.toRowW d [] (fun f vs=>PySem.call f vs):=by
 refine Att.qj hn hdf fun w s₀ s₁ mg mb fa o pm cd doc a vs ns G Y ho hd hcd hmg hobj hints hlen hg=> ?_;have KX:=hY w _ Y;obtain ⟨fd,hb,hF⟩:=F w mg fa _ KX G.T.g hmg;exact Jx KX G.T.g G.T.b G.T.builtins G.T.nolimit hg hobj hints (Nat.le_trans hlen hn2) hr hF hb (fun H hO hS=>hsp w H a ns hlen hO hS) fun H e s'=>R8 w H s₁ e s'
end L2
namespace L2
open PySem PySem.Spec PyProof.Rows
def inClass (s:Stmt) (j:Nat):Stmt:=match s with
 | .ClassDef _ _ _ body _ _ _ _ _ _ _=>body.getD j (.Pass ⟨0,0,0,0⟩)
 | _=> .Pass ⟨0,0,0,0⟩
def aG (s:Stmt):Arguments:=match s with
 | .FunctionDef _ a _ _ _ _ _ _ _ _=>a
 | _=>{posonlyargs:=[],args:=[],vararg:=none,kwonlyargs:=[],kw_defaults:=[],kwarg:=none,defaults:=[]}
def aF (s:Stmt):List Stmt:=match s with
 | .FunctionDef _ _ b _ _ _ _ _ _ _=>b
 | _=>[]
def ao (s:Stmt):Scope:=match s with
 | .FunctionDef _ _ _ _ _ _ sc _ _ _=>sc
 | _=>{kind:= .function,names:=[],isGenerator:=false,isCoroutine:=false}
abbrev jx:G4:=fun _ _ _ _ _ _=>False
abbrev E0:XK:=fun _ _ _=>False
theorem U7 {X:Cx}:Passes jx X E0:=fun _ _ _ _ _ _ _ h=>h.elim
structure kJ (K:PySem.W.Frag) (x qual:Str) (st:Stmt) (f:Addr) (fd:FuncData):Prop where
 ex:∃(oc:Value) (od:Option Addr) (kV doc pm:Value) (an:Option Addr) (cdv ct:Value) (osl:Array (Option Value)),
  fd=PySem.W.fnOf x qual (aG st) (aF st) (ao st) .none kV doc pm an cdv ct/\K.lookup f=some ⟨oc,od,.func fd,osl⟩/\PySem.W.codeIn K cdv qual=true
 kp:PySem.W.keepIn K (.ref f)=true
section
variable {P:Program} {w:World} {K:PySem.W.Frag} {mg:Str->Option Value} {base:Heap}
theorem kJ.ok {x qual:Str} {st:Stmt} {f:Addr} {fd:FuncData} {N ps:List Str} {k:Nat} {sp:Sp} (F:kJ K x qual st f fd) (S:aX N ps (ao st)) (len:∀vs H Q E,sp vs H Q E->vs.length=ps.length)
 (hbody:∀(cdv:Value) (A:Around) (outer:List Env) (s:Shared) (H:Hp) (vs:List V) (Q:VK) (E:XK),eZ k (A.deeper (envOfC qual (ao st) s.heap.objs.size f cdv))->sp vs H Q E ->
   ∃t,Eo (wQ jx P w K mg base N qual (ao st) f cdv A outer s H E).Rf (aF st) t/\t {nx:=fun _ H'=>Q .non H',rt:=Q} (start N vs) H):cX P w K mg base jx (k+1) f fd ps sp:=by
 obtain ⟨oc,od,kV,doc,pm,an,cdv,ct,osl,rfl,lk,hcd⟩:=F.ex;refine Pq lk hcd S len fun A outer s H vs Q E hr hsp=> ?_;obtain ⟨t,h,q⟩:=hbody cdv A outer s H vs Q E hr hsp;exact ⟨t,h.Rf,q⟩
theorem kJ.binds {x qual:Str} {st:Stmt} {f:Addr} {fd:FuncData} {ps:List Str} (F:kJ K x qual st f fd)
 (h:∀(kV doc pm:Value) (an:Option Addr) (cdv ct:Value) (us:List Value),us.length=ps.length->bindArgs (PySem.W.fnOf x qual (aG st) (aF st) (ao st) .none kV doc pm an cdv ct) ⟨us,[]⟩=pure (ps.zip us)):Binds K fd ps []:=by
 obtain ⟨oc,od,kV,doc,pm,an,cdv,ct,osl,rfl,lk,hcd⟩:=F.ex;exact .all (h kV doc pm an cdv ct)
theorem bK {x qual:Str} {st:Stmt} {f:Addr} {oc:Value} {od an:Option Addr} {osl:Array (Option Value)} {kV doc pm cdv ct:Value} (l:K.lookup f=some ⟨oc,od,.func (PySem.W.fnOf x qual (aG st) (aF st) (ao st) .none kV doc pm an cdv ct),osl⟩)
 (c:PySem.W.codeIn K cdv qual=true) (k:PySem.W.keepIn K (.ref f)=true):kJ K x qual st f (PySem.W.fnOf x qual (aG st) (aF st) (ao st) .none kV doc pm an cdv ct):=⟨⟨oc,od,kV,doc,pm,an,cdv,ct,osl,rfl,l,c⟩,k⟩
end
theorem jr {A:Around} {k:Nat} (hr:eZ k A):A.units+1<cLine:=Nat.lt_of_le_of_lt (Nat.add_le_add_left (by decide:1<=64) _) hr.units
theorem Fl {n:Nat} (h:n<=1000):n<sizeLine:=Nat.lt_of_le_of_lt h (by decide)
section
variable {X:Cx}
theorem pv (i:Nat) {x:Str} {pos:Pos} (hN:X.N[i]? = some x:=by rfl) (hv:Vis X.env.scope x:=by first |exact Or.inl rfl|exact Or.inr (Or.inl rfl)|exact Or.inr (Or.inr rfl)) (hd:(x==("__debug__" :Str))=false:=by decide)
 (hcd:(x==("__classdict__" :Str))=false:=by decide):PE X (.Name x pos) (jh i):=QX hN hv hd hcd
end
theorem fL {A B:Prop} (h:B):if false=true then A else B:=by
 rw [if_neg Bool.false_ne_true];exact h
theorem fG {A B:Prop} (h:A):if true=true then A else B:=by
 rw [if_pos rfl];exact h
theorem JN {c A B:Prop} [Decidable c] (h1:c->A) (h2:¬c->B):if c then A else B:=by
 by_cases h:c
 ·rw [if_pos h]
  exact h1 h
 ·rw [if_neg h]
  exact h2 h
theorem u6 {c A B:Prop} [Decidable c] (hc:c) (h:B):if (!decide c)=true then A else B:=by
 rw [decide_eq_true hc];exact fL h
def Same (H H':Hp):Prop:=∀b o,H b=some o->H' b=some o
theorem Same.refl (H:Hp):Same H H:=fun _ _ h=>h
theorem Same.trans {H H1 H2:Hp} (a:Same H H1) (b:Same H1 H2):Same H H2:=fun c o h=>b c o (a c o h)
theorem Same.free {H H':Hp} (e:Same H H') {l:Addr} (h:H' l=Option.none):H l=Option.none:=by
 cases q:H l with
 | none=>rfl
 | some o=>
   rw [e l o q] at h;cases h
theorem Same.seq {K:PySem.W.Frag} {H H':Hp} {a:Addr} {xs:List V} (e:Same H H') (h:bh K H a xs):bh K H' a xs:=by
 rcases h with (h|⟨o,h⟩)|h
 ·exact .inl (.inl (e _ _ h))
 ·exact .inl (.inr ⟨o,e _ _ h⟩)
 ·exact .inr h
section
variable {κ:Type} [DecidableEq κ]
end
end L2
set_option Elab.async false
set_option linter.all false
set_option maxRecDepth 100000
set_option maxHeartbeats 4000000
namespace L2
open PySem PySem.Spec PyProof.Rows
theorem jo {a n:Addr} (h:a<n): @LT.lt Nat _ a n:=h
def je (env:Env):List (Str×NameKind)->List (Str×Addr)->List (Str×Addr)
 | [],acc=>acc
 | (n,k)::r,acc=>if k == .free then je env r ((n,(env.cells.lookup n).getD 0)::acc) else je env r acc
theorem tV {env:Env} {scope:Scope} (h:∀y∈scope.names,y.2 = .free->(env.cells.lookup y.1).isSome=true):closureFor scope env=pure (je env scope.names []):=by
 have go:∀(ns:List (Str×NameKind)) (acc:List (Str×Addr)),(∀y∈ns,y.2 = .free->(env.cells.lookup y.1).isSome=true) ->
  (forIn ns acc (fun x cs=>match x with |(name,kind)=>if (kind == .free)=true then do let c ←cellOf env name;pure (ForInStep.yield ((name,c)::cs)) else pure (ForInStep.yield cs)):Sem (List (Str×Addr)))=pure (je env ns acc):=by
  intro ns
  induction ns with
  | nil=>intro acc _;rfl
  | cons y r ih=>
    intro acc hy;obtain ⟨n,k⟩:=y;rw [List.forIn_cons]
    by_cases hk:k = .free
    ·subst hk
     have hs:=hy (n,.free) List.mem_cons_self rfl;obtain ⟨c,hc⟩:=Option.isSome_iff_exists.mp hs;have e:cellOf env n=pure c:=by unfold cellOf;rw [hc]
     show _=pure (je env r ((n,(env.cells.lookup n).getD 0)::acc));rw [←ih _ fun y hm=>hy y (List.mem_cons_of_mem _ hm)];simp only [beq_self_eq_true,if_true,e,pure_bind,hc,Option.getD_some]
    ·have hb:(k==NameKind.free)=false:=by simpa using hk
     have hc:je env ((n,k)::r) acc=je env r acc:=by
      show (if (k==NameKind.free)=true then _ else _)=_;rw [if_neg (by rw [hb];decide)]
     rw [hc,←ih _ fun y hm=>hy y (List.mem_cons_of_mem _ hm)];simp only [hb,Bool.false_eq_true,if_false,pure_bind]
 have q:=go scope.names [] h;unfold closureFor;show (forIn scope.names [] _ >>= fun r=>pure r)=_;rw [bind_pure];exact q
theorem dD {env:Env}:∀(ns:List (Str×NameKind)) (acc:List (Str×Addr)) (x:Str),(∀y∈ns,y.2 = .free->(env.cells.lookup y.1).isSome=true) ->
 (je env ns acc).lookup x=if (x,NameKind.free)∈ns then env.cells.lookup x else acc.lookup x
 | [],acc,x,_=>by simp [je]
 | (n,k)::r,acc,x,h=>by
   have hr:∀y∈r,y.2 = .free->(env.cells.lookup y.1).isSome=true:=fun y hm=>h y (List.mem_cons_of_mem _ hm)
   by_cases hk:k = .free
   ·subst hk
    show (je env r ((n,(env.cells.lookup n).getD 0)::acc)).lookup x=_;rw [dD r _ x hr];obtain ⟨c,hc⟩:=Option.isSome_iff_exists.mp (h (n,.free) List.mem_cons_self rfl);have hc:env.cells.lookup n=some c:=hc
    by_cases hm:(x,NameKind.free)∈r
    ·rw [if_pos hm,if_pos (List.mem_cons_of_mem _ hm)]
    ·rw [if_neg hm]
     by_cases e:x=n
     ·subst e
      rw [if_pos List.mem_cons_self,List.lookup_cons,hc];simp
     ·rw [if_neg (fun z=>(List.mem_cons.mp z).elim (fun q=>e (congrArg Prod.fst q)) hm),List.lookup_cons]
      have:(x==n)=false:=by simpa using e
      rw [this]
   ·have hb:(k==NameKind.free)=false:=by simpa using hk
    have hc:je env ((n,k)::r) acc=je env r acc:=by
     show (if (k==NameKind.free)=true then _ else _)=_;rw [if_neg (by rw [hb];decide)]
    rw [hc,dD r acc x hr]
    have:((x,NameKind.free)∈(n,k)::r)↔(x,NameKind.free)∈r:=by
     constructor
     ·intro z
      rcases List.mem_cons.mp z with q|q
      ·exact absurd (congrArg Prod.snd q).symm hk
      ·exact q
     ·exact List.mem_cons_of_mem _
    simp only [this]
theorem d7 (env:Env):∀(ns:List (Str×NameKind)) (x:Str),
 (ns.map fun (n,k)=>if (k == .free&&env.scope.kind == .function&&env.kindOf n==some .cell) then (n,NameKind.cell) else (n,k)).lookup x =
   (ns.lookup x).map fun k=>if (k == .free&&env.scope.kind == .function&&env.kindOf x==some .cell)=true then NameKind.cell else k
 | [],x=>rfl
 | (n,k)::r,x=>by
   show List.lookup x ((if (k==NameKind.free&&env.scope.kind == .function&&env.kindOf n==some .cell)=true then (n,NameKind.cell) else (n,k))::_)=_;cases hx:x==n with
   | true=>
     have e:x=n:=by simpa using hx
     subst e
     by_cases hc:(k==NameKind.free&&env.scope.kind == .function&&env.kindOf x==some .cell)=true
     ·rw [if_pos hc];simp only [List.lookup_cons,hx,Option.map_some,if_pos hc]
     ·rw [if_neg hc];simp only [List.lookup_cons,hx,Option.map_some,if_neg hc]
   | false=>
     have ih:=d7 env r x
     by_cases hc:(k==NameKind.free&&env.scope.kind == .function&&env.kindOf n==some .cell)=true
     ·rw [if_pos hc];simp only [List.lookup_cons,hx];exact ih
     ·rw [if_neg hc];simp only [List.lookup_cons,hx];exact ih
structure aR (N own:List Str) (caps:List Nat) (XN:List Str) (outer scope:Scope):Prop where
 kind:scope.kind = .function
 Jo:∀y∈scope.names,y.2 ≠ .cell
 names:∀y∈scope.names,y.2 = .local->scope.names.lookup y.1=some .local
 free:∀y∈scope.names,y.2 = .free->outer.names.lookup y.1=some .cell\/outer.names.lookup y.1=some .free
 nd:N.Nodup
 len:N.length=own.length+caps.length
 cap:∀(j:Nat),j<caps.length->N[own.length+j]? = XN[caps.getD j 0]? /\ ∃x,N[own.length+j]? = some x/\(x,NameKind.free)∈scope.names/\scope.names.lookup x=some .free
def st0 (own:List Str) (caps:List Nat) (σ:St):St:=own.map (fun _=>none)++caps.map (fun i=>(σ[i]?).join)
def dX (X:Cx) (scope:Scope) (C:Addr) (N:List Str) (s:Shared) (H:Hp) (fp:List Addr):Cx:=
 {X with N:=N,s₀:=s,H₀:=H,env:=compEnvC scope (je X.env scope.names []) C X.env,outer:=X.stack,ex:=fp,fn:=fun _=>false,pn:=[],xe:=fun _ _=>False}
section
variable {X:Cx} {pins:List (Addr×Obj)} {σ:St} {H:Hp} {s:Shared} {scope:Scope} {N own:List Str} {caps:List Nat} {fp:List Addr} {C:Nat}
theorem aR.tR (S:aR N own caps X.N X.env.scope scope) (ok:X.Ok):∀y∈scope.names,y.2 = .free->(X.env.cells.lookup y.1).isSome=true:=fun y hy hf=>by
 obtain ⟨c,e⟩:=ok.has y.1 (S.free y hy hf);rw [e];rfl
theorem aR.csub (S:aR N own caps X.N X.env.scope scope) (ok:X.Ok) {x:Str} {c:Addr} (h:(je X.env scope.names []).lookup x=some c):X.env.cells.lookup x=some c:=by
 rw [dD _ _ _ (S.tR ok)] at h;split at h
 ·exact h
 ·simp at h
theorem aR.sH {S:aR N own caps X.N X.env.scope scope} {x:Str} (h:(relabel scope X.env).names.lookup x=some .cell\/(relabel scope X.env).names.lookup x=some .free):(x,NameKind.free)∈scope.names:=by
 have e:=d7 X.env scope.names x;have e':(relabel scope X.env).names.lookup x=(scope.names.lookup x).map fun k=>if (k == .free&&X.env.scope.kind == .function&&X.env.kindOf x==some .cell)=true then NameKind.cell else k:=e;rw [e'] at h;cases q:scope.names.lookup x with
 | none=>rw [q] at h;simp at h
 | some k=>
   have hm:=PySem.mem_of_lookup q
   by_cases hk:k = .free
   ·subst hk;exact hm
   ·rw [q] at h
    have hb:(k==NameKind.free)=false:=by simpa using hk
    simp only [Option.map_some,hb,Bool.false_and,Bool.false_eq_true,if_false] at h;rcases h with h|h
    ·exact absurd (Option.some.inj h) (S.Jo _ hm)
    ·exact absurd (Option.some.inj h) hk
theorem Inv.comp {h1:Heap} {D:Nat} (I:Inv X pins σ H s) (S:aR N own caps X.N X.env.scope scope) (hfp:∀b∈fp,fO X pins H b) (hfo:∀b∈fp,∃o,s.heap.get? b=some o)
 (hD:D=s.heap.objs.size) (hC:C=s.heap.objs.size+1) (old:∀b o,s.heap.get? b=some o->h1.get? b=some o) (hns:h1.Ns C (fun _=>none)) (hl:h1.get? D=some {cls:= .type "list",data:= .seq #[]}) {t:Nat}:
 Inv (dX X scope C N s H fp) [] (st0 own caps σ) (upd H D (.lst [])) {s with heap:=h1,toks:=t}:=by
 have some':=S.tR I.ok;have sub:∀{x c},(je X.env scope.names []).lookup x=some c->X.env.cells.lookup x=some c:=fun h=>S.csub I.ok h;have freshD:H D=none:=I.hok.fresh (by rw [hD];exact Nat.le_refl _);have BJ:H C=none:=I.hok.fresh (by rw [hC];exact Nat.le_succ _)
 have tW:∀x c,X.env.cells.lookup x=some c->c<s.heap.objs.size:=fun x c e=>by
  obtain ⟨v,z⟩:=I.cell x c e;exact z.lt
 have NQ:∀b∈fp,b<s.heap.objs.size:=fun b hb=>by
  obtain ⟨o,e⟩:=hfo b hb;exact Heap.lt_size e
 have DC:D≠C:=by omega
 refine ⟨⟨I.ok.mod,S.kind,I.ok.glob,I.ok.blt,by show s.heap.objs.size<=C;omega,fun x y c e1 e2=>I.ok.inj x y c (sub e1) (sub e2),fun x h=> ?_,fun x c h=>(by cases h),I.ok.hd,I.ok.frames,Or.inl rfl,fun b hb=>⟨?_,fun x c e=> ?_⟩,I.bs,Nat.le_trans I.ok.KJ I.sz,fun b o e hb=> ?_,fun b hb z=> ?_,I.stack,I.vV⟩,
  rfl,I.bare,Un.laid old (by show s.heap.objs.size<=D;omega) freshD,⟨_,hns,fun j x v e1 e2 e3=> ?_⟩,fun x c e=> ?_, ?_,fun x c e=> ?_,fun p hp=> ?_,I.hok.laid old (by omega) ?_, ?_⟩
 ·have hm:=aR.sH (S:=S) (X:=X) h
  obtain ⟨c,e⟩:=Option.isSome_iff_exists.mp (some' _ hm rfl);exact ⟨c,by show (je X.env scope.names []).lookup x=_;rw [dD _ _ _ some',if_pos hm];exact e⟩
 ·exact Nat.ne_of_lt (show @LT.lt Nat _ b C by have:=jo (NQ b hb);omega)
 ·exact (hfp b hb).2.2.2.2.1 x c (sub e)
 ·rcases (hfp b hb).2.2.2.1 with z|z
  ·exact I.ok.Gb b o e z
  ·exact absurd (Nat.lt_of_lt_of_le (Heap.lt_size e) (Nat.le_trans I.ok.KJ z)) (Nat.lt_irrefl _)
 ·rcases List.mem_cons.mp (I.oK b z) with q|q
  ·exact (hfp b hb).2.1 q
  ·exact (hfp b hb).2.2.1 q
 ·have e1:N[j]? = some x:=e1
  have hj:own.length<=j:=by
   by_cases q:own.length<=j
   ·exact q
   ·exfalso
    unfold st0 at e2;rw [List.getElem?_append_left (by simp;omega),List.getElem?_map] at e2;cases r:own[j]? with
    | none=>rw [r] at e2;cases e2
    | some a=>rw [r] at e2;cases e2
  have hjl:j<N.length:=(List.getElem?_eq_some_iff.mp e1).1;have hjc:j - own.length<caps.length:=by have:=S.len;omega
  obtain ⟨c1,x',c2,c3,c4⟩:=S.cap (j - own.length) hjc;rw [show own.length+(j - own.length)=j by omega] at c1 c2;rw [e1] at c2;cases c2
  have e2':(σ[caps.getD (j - own.length) 0]?).join=some v:=by
   unfold st0 at e2;rw [List.getElem?_append_right (by simp;omega),List.getElem?_map,List.length_map] at e2;rw [List.getD_eq_getElem?_getD];cases r:caps[j - own.length]? with
   | none=>rw [r] at e2;cases e2
   | some a=>rw [r] at e2;exact Option.some.inj e2
  have SJ:σ[caps.getD (j - own.length) 0]? = some (some v):=by
   cases r:σ[caps.getD (j - own.length) 0]? with
   | none=>rw [r] at e2';cases e2'
   | some a=>rw [r] at e2';exact congrArg Option.some e2'
  have kx:X.env.kindOf x=some .cell\/X.env.kindOf x=some .free:=S.free _ c3 rfl;obtain ⟨m,hn,hl'⟩:=I.loc;obtain ⟨u,r,l⟩:=hl' _ x v (by rw [←c1];exact e1) SJ (by rcases kx with z|z;exact .inr (.inl z);exact .inr (.inr z));refine ⟨u,r,.inr ⟨?_, ?_⟩⟩
  ·show (relabel scope X.env).names.lookup x=some .cell\/(relabel scope X.env).names.lookup x=some .free
   have e:(relabel scope X.env).names.lookup x=(scope.names.lookup x).map fun k=>if (k == .free&&X.env.scope.kind == .function&&X.env.kindOf x==some .cell)=true then NameKind.cell else k:=d7 X.env scope.names x;rw [e,c4,Option.map_some];split
   ·exact .inl rfl
   ·exact .inr rfl
  ·rcases l with ⟨hk,_⟩|⟨_,c,hc,z⟩
   ·rcases kx with q|q<;>rw [hk] at q<;>cases q
   ·refine ⟨c, ?_, ?_⟩
    ·show (je X.env scope.names []).lookup x=_
     rw [dD _ _ _ some',if_pos c3];exact hc
    ·obtain ⟨o,ho,hd⟩:=z
     exact ⟨o,old c o ho,hd⟩
 ·obtain ⟨v,o,ho,hd⟩:=I.cell x c (sub e)
  exact ⟨v,o,old c o ho,hd⟩
 ·show upd H D (.lst []) C=none
  rw [aJ DC.symm];exact BJ
 ·show upd H D (.lst []) c=none
  rw [aJ (Nat.ne_of_lt (by have:=jo (tW x c (sub e));omega))];exact I.jF x c (sub e)
 ·cases hp
 ·exact ⟨Nat.zero_le _,[],0,.nil,hl⟩
 ·show (own.map (fun _=>none)++caps.map _).length=N.length
  rw [List.length_append,List.length_map,List.length_map,S.len]
theorem Inv.Hr {jE:List (Addr×Obj)} {σ':St} {H':Hp} {s':Shared} {h':Heap} (I:Inv X pins σ H s) (hfp:∀b∈fp,fO X pins H b) (hC:s.heap.objs.size<=C) (J:Inv (dX X scope C N s H fp) jE σ' H' s') (hs:Heap.SameBut C s'.heap h'):
 Inv X pins σ H' {s' with heap:=h'}:=by
 have nC:∀b o,s.heap.get? b=some o->b≠C:=fun b o e=>Nat.ne_of_lt (by have:=jo (Heap.lt_size e);omega);have u:=J.base;have frC:H' C=none:=J.free;refine I.call' (ch:=fp) (s':={s' with heap:=h'}) J.os ⟨fun b o e n hb hx=> ?_,fun b o e n hb hx=> ?_,u.free,fun b o e hx=> ?_,u.tups,u.ni,u.qt⟩ (fun a o e=>(J.hok a o e).stay (fun b v hb q=> ?_) (fun _ q=>q) fun _ _ q=>q) J.bare fun b hb=> ?_
 ·exact (hs.2 b (nC b o e)).trans (u.keep b o e n hb hx)
 ·obtain ⟨sl,q⟩:=u.slot b o e n hb hx
  exact ⟨sl,(hs.2 b (nC b o e)).trans q⟩
 ·obtain ⟨o',q⟩:=u.there b o e hx
  exact ⟨o',(hs.2 b (nC b o e)).trans q⟩
 ·refine (hs.2 b ?_).trans q
  intro z;subst z;rcases hb with z|z
  ·subst z;rw [frC] at e;cases e
  ·rw [frC] at z;cases z
 ·exact ⟨(hfp b hb).2.2.2.1,(hfp b hb).2.1,(hfp b hb).2.2.2.2.1,(hfp b hb).2.2.2.2.2⟩
end
section
variable {prog:Program} {w:World} {A:Around} {R:Result->Shared->Prop} {s:Shared}
theorem oE {elt target iter:Expr} {ifs:List Expr} {scope:Scope} {pos:Pos} {it acc:Value} {env:Env} (I:Nat->Shared->Prop)
 (turn:∀n s,I n s->wpAny (model prog w) A (pyNext it) (fun r s1=>match r with
   | none=>R (.ok .next) s1
   | some v=>wpAny (model prog w) A (letOwnedTupleGo target it v) (fun _ s1'=>wpAny (model prog w) A (assign target env v) (fun _ s2=>
      wpAny (model prog w) A (forIn ifs true fun c r=>if r=true then do let ok ←isTrue c env (eval c env);pure (ForInStep.yield ok) else pure (ForInStep.yield r)) (fun ok s3=>
       if ok=true then wpAny (model prog w) A (eval elt env) (fun x s4=>
        wpAny (model prog w) A (call (.builtin "list.append") [acc,x]) (fun _ s5=>∃m,m<n/\I m s5) (fun _ _=>False) s4) (fun _ _=>False) s3
       else ∃m,m<n/\I m s3) (fun _ _=>False) s2) (fun _ _=>False) s1') (fun _ _=>False) s1) (fun _ _=>False) s)
 (n:Nat) (h:I n s):
 codeAny (model prog w) A (.compLoop (.ListComp elt [⟨target,iter,ifs,0⟩] scope pos) 0 it acc env) R s:=by
 refine codeAny_loop rfl I (fun n s hI=> ?_) n h;show wpAny _ A ((compTurn (.ListComp elt [⟨target,iter,ifs,0⟩] scope pos) 0 it acc env).onRaise (fun x=>do noteFrame x env;theTreesLotGoes x)) _ _ s;refine wpAny_noted ?_;rw [compTurn_list];refine wpAny_bind (wpAny_standAt (wpAny_bind (wpAny_mono (turn n s hI) (fun r s1 h1=> ?_) fun _ _ h'=>h'.elim)));cases r with
 | none=>exact wpAny_pure h1
 | some v=>
   refine wpAny_bind (wpAny_mono h1 (fun _ s1' h1'=> ?_) fun _ _ h'=>h'.elim);refine wpAny_bind (wpAny_mono h1' (fun _ s2 h2=>wpAny_bind (wpAny_mono h2 (fun ok s3 h3=> ?_) fun _ _ h'=>h'.elim)) fun _ _ h'=>h'.elim);cases ok with
   | false=>exact wpAny_pure ⟨rfl,h3⟩
   | true=>
     exact wpAny_bind (wpAny_bind (wpAny_mono h3 (fun x s4 h4=>wpAny_bind (wpAny_mono h4 (fun _ s5 h5=>wpAny_pure (wpAny_pure ⟨rfl,h5⟩)) fun _ _ h'=>h'.elim)) fun _ _ h'=>h'.elim))
end
def Tf (X:Cx) (ifs:List Expr) (t:TT):Prop:=
 ∀(pins:List (Addr×Obj)) (s:Shared) (σ:St) (H:Hp) (Q:Bool->Hp->Prop),Inv X pins σ H s->t σ H Q ->
  wpAny (model X.prog X.w) X.A (forIn ifs true fun c r=>if r=true then do let ok ←isTrue c X.env (eval c X.env);pure (ForInStep.yield ok) else pure (ForInStep.yield r)) (TP X pins σ Q) X.xe s
def Zj:TT:=fun _ H Q=>Q true H
theorem iK {X:Cx}:Tf X [] Zj:=fun _ _ _ H _ I h=>wpAny_tests_nil ⟨H,I,h⟩
theorem ji {X:Cx} {c:Expr} {t:TT} (h:PT X c t):Tf X [c] t:=fun pins s σ H Q I q=>wpAny_tests_one (h pins s σ H Q I q)
def mV (J:It) (g:TG) (tc:TT) (te:TE) (Q:VK) (D:Addr) (σ0:St) (H1:Hp):Prop:=
 ∃W:Nat->Nat->St->Hp->Prop,(∃m,W 0 m σ0 (upd H1 D (.lst []))) /\ ∀i m σ H,W i m σ H ->
  (J.stop i H/\Q (.ref D) H)\/(J.go i H /\ ∃N:St->Hp->Prop,(∀σ' H',N σ' H' -> ∃m',m'<m/\W (i+1) m' σ' H') /\ ∀x H',J.Ox i H x H'->g x σ H' fun σ2 H2=>tc σ2 H2 fun b H3=>
    if b=true then te σ2 H3 fun y H4=>∃acc,H4 D=some (.lst acc)/\acc.length<sizeLine/\N σ2 (upd H4 D (.lst (acc++[y]))) else N σ2 H3)
def xY (own:List Str) (caps:List Nat) (wi:TI) (g:TG) (tc:TT) (te:TE):TE:=fun σ H Q=>wi σ H fun J H1=>∀D,H1 D=none->mV J g tc te Q D (st0 own caps σ) H1
section
variable {X:Cx} {elt tg iter:Expr} {ifs:List Expr} {scope:Scope} {pos:Pos} {N own:List Str} {caps:List Nat} {wi:TI} {g:TG} {tc:TT} {te:TE}
theorem zB {use:Option (Value->Sem Unit)} {Qv:Value->Shared->Prop} {pins:List (Addr×Obj)} {σ:St} {H:Hp} {s:Shared} {Q:VK} (hc:X.calm=true) (S:aR N own caps X.N X.env.scope scope)
 (hg:∀C s H fp,PG (dX X scope C N s H fp) tg g) (hcs:∀C s H fp,Tf (dX X scope C N s H fp) ifs tc) (he:∀C s H fp,PE (dX X scope C N s H fp) elt te)
 (hi:PI X tg iter wi) (hs:∀x,foldedSetIterable iter X.env x=pure x)
 (I:Inv X pins σ H s) (h:xY own caps wi g tc te σ H Q)
 (fin:∀(D C:Addr) (H':Hp) (s':Shared),(∃m,s'.heap.Ns C m)->Inv X pins σ H' s'->(∀h',Heap.SameBut C s'.heap h'->Inv X pins σ H' {s' with heap:=h'})->fO X pins H' C->Q (.ref D) H' ->
   compPost (model X.prog X.w) X.A X.xe use Qv (.ref D) C (.ok .next) s'):
 wpAny (model X.prog X.w) X.A (comprehension (.ListComp elt [⟨tg,iter,ifs,0⟩] scope pos) scope X.env (firstIterPos [⟨tg,iter,ifs,0⟩] pos) (newList []) false (eval iter X.env) use) Qv X.xe s:=by
 refine wpAny_comprehension_free (use:=use) rfl hs (tV (S.tR I.ok)) S.kind S.names (cM (hi pins s σ H _ I h) fun xv s1 h1=>cM h1 fun itv s2 h2=> ?_);obtain ⟨it,fp,tn,J,H2,e,I2,T,st2,f2,q2⟩:=h2;subst e;refine wpAny_newList ?_;refine wpAny_newFunctionEnv S.Jo (by intro y hy;simp at hy) (fun h1 Nr hsb1=> ?_) S.kind;dsimp only at Nr hsb1 ⊢;have hD:H2 s2.heap.objs.size=none:=I2.hok.fresh (Nat.le_refl _);have hsz:(s2.heap.push {cls:= .type "list",data:= .seq ([]:List Value).toArray}).objs.size=s2.heap.objs.size+1:=Heap.size_push ..
 have old:∀b o,s2.heap.get? b=some o->h1.get? b=some o:=fun b o e=>by
  refine hsb1.extBut b o (Nat.ne_of_lt (by have:=jo (Heap.lt_size e);rw [hsz];omega)) (Heap.get?_push_of_some _ (Heap.get?_push_of_some _ e))
 have hl:h1.get? s2.heap.objs.size=some {cls:= .type "list",data:= .seq #[]}:=
  hsb1.extBut _ _ (Nat.ne_of_lt (by rw [hsz];omega)) (Heap.get?_push_of_some _ (Heap.get?_push_size _ rfl))
 have hfo:∀b∈fp,∃o,s2.heap.get? b=some o:=fun b hb=>let ⟨o,e,_⟩:=T.obj _ _ st2 b hb;⟨o,e⟩
 have I4:=Inv.comp (C:=(s2.heap.push {cls:= .type "list",data:= .seq ([]:List Value).toArray}).objs.size) (t:=s2.toks+([]:List (Str×Value)).length) I2 S f2 hfo rfl hsz old Nr hl;obtain ⟨W,⟨m0,w0⟩,turn⟩:=q2 _ hD;generalize hCe:(s2.heap.push {cls:= .type "list",data:= .seq ([]:List Value).toArray}).objs.size=C at *;generalize hDe:s2.heap.objs.size=D at *;have hDC:D≠C:=by omega
 have loop:∀s3:Shared,s3={s2 with heap:=h1,toks:=s2.toks+([]:List (Str×Value)).length} ->
  codeAny (model X.prog X.w) X.A (.compLoop (.ListComp elt [⟨tg,iter,ifs,0⟩] scope pos) 0 (.ref it) (.ref D) (dX X scope C N s2 H2 fp).env) (compPost (model X.prog X.w) X.A X.xe use Qv (.ref D) C) s3:=by
  rintro s3 rfl
  have gM:∀b∈fp,(upd H2 D (.lst [])) b=none:=fun b hb=>by
   obtain ⟨o,e⟩:=hfo b hb;rw [aJ (Nat.ne_of_lt (by have:=jo (Heap.lt_size e);omega))];exact (f2 b hb).1
  have stat:∀{H':Hp},(∀b∈fp,H' b=none) -> ∀b∈fp,fO (dX X scope C N s2 H2 fp) [] H' b:=fun hn b hb=>by
   obtain ⟨o,e⟩:=hfo b hb;have hlt:=jo (Heap.lt_size e);refine ⟨hn b hb, ?_,fun z=> ?_,.inl hb,fun x c e'=>(f2 b hb).2.2.2.2.1 x c (S.csub I2.ok e'),fun p hp=>(by cases hp)⟩
   ·exact Nat.ne_of_lt (show @LT.lt Nat _ b C by omega)
   ·rcases List.mem_cons.mp (I2.oK b z) with q|q
    ·exact (f2 b hb).2.1 q
    ·exact (f2 b hb).2.2.1 q
  refine oE (fun n s'=>∃i σ' H',Inv (dX X scope C N s2 H2 fp) [] σ' H' s'/\tn i s'.heap/\(∀b∈fp,H' b=none)/\W i n σ' H') ?_ m0
   ⟨0,_,_,I4,T.keep _ _ _ st2 fun b _ o e=>old b o e,gM,w0⟩
  rintro n s3 ⟨i,σ3,H3,I3,st3,Pk,w3⟩;rcases turn i n σ3 H3 w3 with ⟨stop,qn⟩|⟨go,Nx,hNx,step⟩
  ·refine cM (T.done (dX X scope C N s2 H2 fp) rfl rfl rfl hc i [] s3 σ3 H3 _ I3 (stat Pk) st3 stop) fun r s4 ⟨hr,J4⟩=> ?_
   subst hr;obtain ⟨m4,hn4,_⟩:=J4.loc;exact fin D C H3 s4 ⟨m4,hn4⟩ (I2.Hr f2 (by omega) J4 (Heap.SameBut.refl _ _)) (fun h' hs'=>I2.Hr f2 (by omega) J4 hs') (I2.nY (show s2.heap.objs.size<=C by omega) J4.free) qn
  ·refine cM (T.item (dX X scope C N s2 H2 fp) rfl rfl rfl hc i [] s3 σ3 H3 _ I3 (stat Pk) st3 go) fun r s4 ⟨u,hr,h4⟩=> ?_
   subst hr;refine cM h4 fun _ s5 ⟨x,H5,I5,r5,y5,ux,Lk⟩=> ?_;have Xm:=I5.pinned (stat Lk) (T.obj _ _ ux);refine cM (hg C s2 H2 fp _ s5 σ3 H5 x u _ Xm r5 (step x H5 y5)) fun _ s6 ⟨σ6,H6,I6,q6⟩=> ?_;refine cM (hcs C s2 H2 fp _ s6 σ6 H6 _ I6 q6) fun ok s7 ⟨H7,I7,q7⟩=> ?_
   have again:∀{σ8:St} {H8:Hp} {s8:Shared},Inv (dX X scope C N s2 H2 fp) ([]++o7 fp s5.heap) σ8 H8 s8->Nx σ8 H8 -> ∃m,m<n /\ ∃i σ' H',Inv (dX X scope C N s2 H2 fp) [] σ' H' s8/\tn i s8.heap/\(∀b∈fp,H' b=none)/\W i m σ' H':=fun {σ8 H8 s8} I8 n8=>by
    obtain ⟨m',hm,w8⟩:=hNx _ _ n8;refine ⟨m',hm,i+1,σ8,H8,I8.iU,T.keep _ _ _ ux fun b hb o e=>(I8.pin (b,o) (List.mem_append_right _ (List.mem_append_right _ (gB hb e)))).1,fun b hb=> ?_,w8⟩;obtain ⟨o,e,d⟩:=T.obj _ _ ux b hb;exact (I8.pin (b,o) (List.mem_append_right _ (List.mem_append_right _ (gB hb e)))).2.1
   cases ok with
   | false=>
     rw [if_neg (by decide)] at q7;exact again I7 q7
   | true=>
     rw [if_pos rfl] at q7;refine cM (he C s2 H2 fp _ s7 σ6 H7 _ I7 q7) fun y s8 ⟨yv,H8,I8,r8,acc,ha,hlen,q8⟩=> ?_;exact cM (pA _ s8 σ6 H8 (.ref D) [yv] (.ref D) [y] (fun v H9=>Nx σ6 H9) I8 rfl (.cons r8 .nil) ⟨D,acc,yv,rfl,rfl,ha,hlen,q8⟩) fun _ s9 ⟨_,H9,I9,_,q9⟩=>again I9 q9
 exact codeAny_compStart_list (loop _ rfl) (T.self _ 0 _ _ _ (T.keep _ _ _ st2 fun b _ o e=>old b o e) (loop _ rfl))
theorem fJ (hc:X.calm=true) (S:aR N own caps X.N X.env.scope scope) (hi:PI X tg iter wi)
 (hg:∀C s H fp,PG (dX X scope C N s H fp) tg g) (hcs:∀C s H fp,Tf (dX X scope C N s H fp) ifs tc) (he:∀C s H fp,PE (dX X scope C N s H fp) elt te)
 (hs:∀x,foldedSetIterable iter X.env x=pure x:=by intro _;rfl):PE X (.ListComp elt [⟨tg,iter,ifs,0⟩] scope pos) (xY own caps wi g tc te):=by
 intro pins s σ H Q I h;rw [eval_ListComp];refine zB (use:=none) hc S hg hcs he hi hs I h ?_;intro D C H' s' hn I' hk _ q;obtain ⟨m,hn⟩:=hn;exact ⟨m,hn,fun h' hs'=>⟨.ref D,H',hk h' hs',rfl,q⟩⟩
theorem qP {i:Nat} {x:Str} {px sp:Pos} (hc:X.calm=true) (hN:X.N.Nodup) (hx:X.N[i]? = some x) (hl:Loc X.env.scope x) (S:aR N own caps X.N X.env.scope scope) (hi:PI X tg iter wi)
 (hg:∀C s H fp,PG (dX X scope C N s H fp) tg g) (hcs:∀C s H fp,Tf (dX X scope C N s H fp) ifs tc) (he:∀C s H fp,PE (dX X scope C N s H fp) elt te)
 (hsw:swapsWith (.ListComp elt [⟨tg,iter,ifs,0⟩] scope pos) (some (.Name x px)) sp.line X.env=pure true:=by rfl)
 (hs:∀x,foldedSetIterable iter X.env x=pure x:=by intro _;rfl) (hf:X.fn x=true\/X.env.scope.names.lookup x=some .local:=by first |exact .inl rfl|exact .inr rfl|assumption):
 PS X (.Assign [.Name x px] (.ListComp elt [⟨tg,iter,ifs,0⟩] scope pos) sp) (Fd (xY own caps wi g tc te) (iz i)):=by
 intro pins s σ H D I h;rw [exec_Assign_Name_used _ _ _ _ hsw];refine wpAny_bind (wpAny_standAt (wpAny_bind ?_));show wpAny _ X.A (do let _ ←comprehension (.ListComp elt [⟨tg,iter,ifs,0⟩] scope pos) scope X.env (firstIterPos [⟨tg,iter,ifs,0⟩] pos) (newList []) false (eval iter X.env) (some (assign (.Name x px) X.env))) _ _ s;refine wpAny_bind (wpAny_mono (zB (use:=some (assign (.Name x px) X.env)) (Qv:=fun _ s'=>SP X pins D .next s') hc S hg hcs he hi hs I h ?_) (fun _ s' hq=>wpAny_pure (wpAny_pure hq)) fun _ _ e=>e);intro E C H' s' hn I' hk fC q;obtain ⟨m,hn⟩:=hn;obtain ⟨f0,f1,f2,f3,f4,f5⟩:=fC;show wpAny _ X.A (assign (.Name x px) X.env (.ref E)) _ _ _;refine wpAny_assign_Name (uR I' hN hx hl (v:= .ref E) rfl (fun s2 I2 k=> ?_) hf);refine ⟨m, ?_,fun h' hs'=> ?_⟩
 ·obtain ⟨o,es,ep,ho,r⟩:=hn
  obtain ⟨a,ks,ka⟩:=k
  have hCa:C≠a:=fun z=>by
   rcases ka with q'|q'
   ·exact f1 (z.trans q')
   ·exact f4 x a q' z.symm
  exact ⟨o,es,ep,(ks.2 C hCa).trans ho,r⟩
 ·exact ⟨_,H',I2.turned (t':=s2.toks) (fun b o hb e=>(hs'.2 b hb).trans e) f0 f1 f3 f4 f5,q⟩
end
def Kv (N own:List Str) (caps:List Nat) (XN:List Str) (outer scope:Scope):Bool:=
 decide (scope.kind = .function)&&scope.names.all (fun y=>decide (y.2 ≠ .cell))&&scope.names.all (fun y=>decide (y.2 ≠ .local)||decide (scope.names.lookup y.1=some .local)) &&
 scope.names.all (fun y=>decide (y.2 ≠ .free)||decide (outer.names.lookup y.1=some .cell)||decide (outer.names.lookup y.1=some .free))&&decide N.Nodup&&decide (N.length=own.length+caps.length) &&
 (List.range caps.length).all (fun j=>match N[own.length+j]? with |some x=>decide (XN[caps.getD j 0]? = some x)&&decide ((x,NameKind.free)∈scope.names)&&decide (scope.names.lookup x=some .free)|none=>false)
theorem aR.of {N own:List Str} {caps:List Nat} {XN:List Str} {outer scope:Scope} (h:Kv N own caps XN outer scope=true):aR N own caps XN outer scope:=by
 unfold Kv at h;simp only [Bool.and_eq_true,decide_eq_true_eq,List.all_eq_true,Bool.or_eq_true] at h;obtain ⟨⟨⟨⟨⟨⟨h1,h2⟩,h3⟩,h4⟩,h5⟩,h6⟩,h7⟩:=h;refine ⟨h1,h2,fun y hy e=> ?_,fun y hy e=> ?_,h5,h6,fun j hj=> ?_⟩
 ·rcases h3 y hy with z|z
  ·exact absurd e z
  ·exact z
 ·rcases h4 y hy with (z|z)|z
  ·exact absurd e z
  ·exact .inl z
  ·exact .inr z
 ·have q:=h7 j (List.mem_range.mpr hj)
  cases e:N[own.length+j]? with
  | none=>rw [e] at q;cases q
  | some x=>
    rw [e] at q;simp only [Bool.and_eq_true,decide_eq_true_eq] at q;exact ⟨q.1.1.symm,x,rfl,q.1.2,q.2⟩
end L2
set_option Elab.async false
set_option linter.all false
set_option maxRecDepth 100000
set_option maxHeartbeats 4000000
namespace L2
open PySem PySem.Spec PyProof.Rows
mutual
def Dat (H:Hp):V->PyData->Prop
 | v,.none=>v = .non
 | v,.bool b=>v = .bl b
 | v,.int i=>v = .int i
 | v,.str x=>v = .str x
 | v,.list ds=>∃a vs,v = .ref a/\H a=some (.lst vs)/\aD H vs ds
 | v,.tuple ds=>∃a vs,v = .ref a/\H a=some (.tup vs)/\aD H vs ds
 | _,.dict _=>False
def aD (H:Hp):List V->List PyData->Prop
 | [],[]=>True
 | v::vs,d::ds=>Dat H v d/\aD H vs ds
 | [],_::_=>False
 | _::_,[]=>False
end
section
variable {H H':Hp}
theorem aD.length:∀{vs:List V} {ds:List PyData},aD H vs ds->vs.length=ds.length
 | [],[],_=>rfl
 | _::_,_::_,h=>by simp only [aD] at h;simp [aD.length h.2]
 | [],_::_,h=>by simp only [aD] at h
 | _::_,[],h=>by simp only [aD] at h
theorem aD.get:∀{vs:List V} {ds:List PyData} {i:Nat} {v:V},aD H vs ds->vs[i]? = some v -> ∃d,ds[i]? = some d/\Dat H v d
 | _::_,_::_,0,_,h,e=>by simp only [aD] at h;simp at e;subst e;exact ⟨_,rfl,h.1⟩
 | _::_,_::_,i+1,_,h,e=>by simp only [aD] at h;simp at e;obtain ⟨d,q,r⟩:=aD.get h.2 e;exact ⟨d,by simpa using q,r⟩
 | [],[],_,_,_,e=>by simp at e
 | [],_::_,_,_,h,_=>by simp only [aD] at h
 | _::_,[],_,_,h,_=>by simp only [aD] at h
theorem aD.getD:∀{vs:List V} {ds:List PyData} {i:Nat} {d:PyData},aD H vs ds->ds[i]? = some d -> ∃v,vs[i]? = some v/\Dat H v d
 | _::_,_::_,0,_,h,e=>by simp only [aD] at h;simp at e;subst e;exact ⟨_,rfl,h.1⟩
 | _::_,_::_,i+1,_,h,e=>by simp only [aD] at h;simp at e;obtain ⟨d,q,r⟩:=aD.getD h.2 e;exact ⟨d,by simpa using q,r⟩
 | [],[],_,_,_,e=>by simp at e
 | [],_::_,_,_,h,_=>by simp only [aD] at h
 | _::_,[],_,_,h,_=>by simp only [aD] at h
theorem aD.append:∀{vs ws:List V} {ds es:List PyData},aD H vs ds->aD H ws es->aD H (vs++ws) (ds++es)
 | [],_,[],_,_,g=>g
 | _::_,_,_::_,_,h,g=>by simp only [aD,List.cons_append] at h ⊢;exact ⟨h.1,aD.append h.2 g⟩
 | [],_,_::_,_,h,_=>by simp only [aD] at h
 | _::_,_,[],_,h,_=>by simp only [aD] at h
theorem aD.take:∀{vs:List V} {ds:List PyData} (n:Nat),aD H vs ds->aD H (vs.take n) (ds.take n)
 | _,_,0,_=>by simp only [List.take_zero,aD]
 | [],[],_+1,_=>by simp only [List.take_nil,aD]
 | _::_,_::_,n+1,h=>by simp only [aD,List.take_succ_cons] at h ⊢;exact ⟨h.1,aD.take n h.2⟩
 | [],_::_,_+1,h=>by simp only [aD] at h
 | _::_,[],_+1,h=>by simp only [aD] at h
theorem aD.drop:∀{vs:List V} {ds:List PyData} (n:Nat),aD H vs ds->aD H (vs.drop n) (ds.drop n)
 | _,_,0,h=>by simpa using h
 | [],[],_+1,_=>by simp only [List.drop_nil,aD]
 | _::_,_::_,n+1,h=>by simp only [aD,List.drop_succ_cons] at h ⊢;exact aD.drop n h.2
 | [],_::_,_+1,h=>by simp only [aD] at h
 | _::_,[],_+1,h=>by simp only [aD] at h
mutual
theorem Dat.mono (hl:∀a xs,H a=some (HO.lst xs)->H' a=some (HO.lst xs)) (ht:∀a xs,H a=some (HO.tup xs)->H' a=some (HO.tup xs)):∀(d:PyData) {v:V},Dat H v d->Dat H' v d
 | .none,_,h=>by simp only [Dat] at h ⊢;exact h
 | .bool _,_,h=>by simp only [Dat] at h ⊢;exact h
 | .int _,_,h=>by simp only [Dat] at h ⊢;exact h
 | .str _,_,h=>by simp only [Dat] at h ⊢;exact h
 | .list ds,_,h=>by simp only [Dat] at h ⊢;obtain ⟨a,vs,e,q,r⟩:=h;exact ⟨a,vs,e,hl _ _ q,aD.mono hl ht ds r⟩
 | .tuple ds,_,h=>by simp only [Dat] at h ⊢;obtain ⟨a,vs,e,q,r⟩:=h;exact ⟨a,vs,e,ht _ _ q,aD.mono hl ht ds r⟩
 | .dict _,_,h=>by simp only [Dat] at h
theorem aD.mono (hl:∀a xs,H a=some (HO.lst xs)->H' a=some (HO.lst xs)) (ht:∀a xs,H a=some (HO.tup xs)->H' a=some (HO.tup xs)):∀(ds:List PyData) {vs:List V},aD H vs ds->aD H' vs ds
 | [],[],_=>by simp only [aD]
 | d::ds,v::vs,h=>by simp only [aD] at h ⊢;exact ⟨Dat.mono hl ht d h.1,aD.mono hl ht ds h.2⟩
 | _::_,[],h=>by simp only [aD] at h
 | [],_::_,h=>by simp only [aD] at h
end
mutual
def Bu:PyData->Bool
 | .tuple ds=>uJ ds
 | .list _ | .dict _=>false
 | .none | .bool _ | .int _ | .str _=>true
def uJ:List PyData->Bool
 | []=>true
 | d::ds=>Bu d&&uJ ds
end
mutual
theorem Dat.keep (ht:∀a xs,H a=some (HO.tup xs)->H' a=some (HO.tup xs)):∀(d:PyData) {v:V},Bu d=true->Dat H v d->Dat H' v d
 | .none,_,_,h=>by simp only [Dat] at h ⊢;exact h
 | .bool _,_,_,h=>by simp only [Dat] at h ⊢;exact h
 | .int _,_,_,h=>by simp only [Dat] at h ⊢;exact h
 | .str _,_,_,h=>by simp only [Dat] at h ⊢;exact h
 | .list ds,_,i,h=>by simp only [Bu] at i;cases i
 | .tuple ds,_,i,h=>by simp only [Dat] at h ⊢;simp only [Bu] at i;obtain ⟨a,vs,e,q,r⟩:=h;exact ⟨a,vs,e,ht _ _ q,aD.keep ht ds i r⟩
 | .dict _,_,_,h=>by simp only [Dat] at h
theorem aD.keep (ht:∀a xs,H a=some (HO.tup xs)->H' a=some (HO.tup xs)):∀(ds:List PyData) {vs:List V},uJ ds=true->aD H vs ds->aD H' vs ds
 | [],[],_,_=>by simp only [aD]
 | d::ds,v::vs,i,h=>by simp only [aD] at h ⊢;simp only [uJ,Bool.and_eq_true] at i;exact ⟨Dat.keep ht d i.1 h.1,aD.keep ht ds i.2 h.2⟩
 | _::_,[],_,h=>by simp only [aD] at h
 | [],_::_,_,h=>by simp only [aD] at h
end
theorem aQ {α:Type} (f:α->PyData) (h:∀x,Bu (f x)=true):∀l:List α,uJ (l.map f)=true
 | []=>rfl
 | a::l=>by simp only [List.map_cons,uJ,h a,aQ f h l,Bool.and_self]
end
section
variable {X:Cx} {pins:List (Addr×Obj)} {σ:St} {H:Hp} {s:Shared}
mutual
theorem Inv.reads (I:Inv X pins σ H s):∀(d:PyData) {v:V} {u:Value},Dat H v d->RelV v u -> ∃as,Reads s.heap u d as
 | .none,v,u,h,r=>by
   simp only [Dat] at h;subst h;cases (show u=Value.none from r);exact ⟨_,.none⟩
 | .bool b,v,u,h,r=>by
   simp only [Dat] at h;subst h;cases (show u=Value.bool b from r);exact ⟨_,.bool b⟩
 | .int i,v,u,h,r=>by
   simp only [Dat] at h;subst h;obtain ⟨t,q⟩:=(show ∃t,u=Value.int i t from r);cases q;exact ⟨_,.int i t⟩
 | .str x,v,u,h,r=>by
   simp only [Dat] at h;subst h;obtain ⟨t,q⟩:=(show ∃t,u=Value.str x t from r);cases q;exact ⟨_,.str x t⟩
 | .list ds,v,u,h,r=>by
   simp only [Dat] at h;obtain ⟨a,vs,rfl,q,g⟩:=h;cases (show u=Value.ref a from r);obtain ⟨its,rv,p,hz⟩:=I.list (bh.of q);obtain ⟨o,ho,hc,n,hd⟩:=p.isList;obtain ⟨as,ra⟩:=Inv.readsAll I ds g rv;exact ⟨_,.list ho hc hd (by simpa using ra)⟩
 | .tuple ds,v,u,h,r=>by
   simp only [Dat] at h;obtain ⟨a,vs,rfl,q,g⟩:=h;cases (show u=Value.ref a from r);obtain ⟨its,rv,p,hz⟩:=I.tuple (cJ.of q);obtain ⟨o,ho,hc,n,hd⟩:=p;obtain ⟨as,ra⟩:=Inv.readsAll I ds g rv;exact ⟨_,.tuple ho hc hd (by simpa using ra)⟩
 | .dict _,_,_,h,_=>by simp only [Dat] at h
theorem Inv.readsAll (I:Inv X pins σ H s):∀(ds:List PyData) {vs:List V} {us:List Value},aD H vs ds->Vals vs us -> ∃as,ReadsAll s.heap us ds as
 | [],[],_,_,.nil=>⟨_,.nil⟩
 | d::ds,v::vs,_,h,.cons r rs=>by
   simp only [aD] at h;obtain ⟨as,ra⟩:=Inv.reads I d h.1 r;obtain ⟨bs,rb⟩:=Inv.readsAll I ds h.2 rs;exact ⟨_,.cons ra rb⟩
 | _::_,[],_,h,_=>by simp only [aD] at h
 | [],_::_,_,h,_=>by simp only [aD] at h
end
def Mi (neg:Bool):R2:=fun x y H Q=>∃d e,Dat H x d/\Dat H y e/\SeqAt.shaped d=true/\SeqAt.shaped e=true/\Q (.bl (if neg then !PyData.eqv d e else PyData.eqv d e)) H
theorem Q6 (hu:X.A.units+64<cLine):pQ X (compareOp .Eq) (Mi false):=by
 intro pins s σ H x y v u Q I rx ry h;obtain ⟨d,e,h1,h2,s1,s2,q⟩:=h;obtain ⟨as,ra⟩:=I.reads d h1 rx;obtain ⟨bs,rb⟩:=I.reads e h2 ry;exact SeqAt.compareEq_shaped ra rb s1 s2 hu ⟨.bl _,H,I,rfl,q⟩
theorem Q5 (hu:X.A.units+64<cLine):pQ X (compareOp .NotEq) (Mi true):=by
 intro pins s σ H x y v u Q I rx ry h;obtain ⟨d,e,h1,h2,s1,s2,q⟩:=h;obtain ⟨as,ra⟩:=I.reads d h1 rx;obtain ⟨bs,rb⟩:=I.reads e h2 ry;exact SeqAt.compareNe_shaped ra rb s1 s2 hu ⟨.bl _,H,I,rfl,q⟩
theorem Kw {c:Value} {cv:V} (rc:RelV cv c):fZ X (.builtin "isinstance") (fun xs H Q=>∃x t b,xs=[x,cv]/\oG X.K H x t/\PySem.W.kitOne X.K t c=some b/\Q (.bl b) H):=by
 intro pins s σ H xs us Q I r h;obtain ⟨x,t,b,rfl,ty,e,q⟩:=h;obtain ⟨u,w',rfl,r1,r2⟩:=vals2 r
 have:w'=c:=by
  cases cv with
  | non=>exact (show w'=Value.none from r2).trans (show c=Value.none from rc).symm
  | bl b=>exact (show w'=Value.bool b from r2).trans (show c=Value.bool b from rc).symm
  | ref a=>exact (show w'=Value.ref a from r2).trans (show c=Value.ref a from rc).symm
  | ty n=>exact (show w'=Value.type n from r2).trans (show c=Value.type n from rc).symm
  | int i=>obtain ⟨t1,rfl⟩:=(show ∃t,c=Value.int i t from rc);unfold PySem.W.kitOne at e;exact absurd e (by cases ty<;>simp [PySem.W.kitCls])
  | str i=>obtain ⟨t1,rfl⟩:=(show ∃t,c=Value.str i t from rc);unfold PySem.W.kitOne at e;exact absurd e (by cases ty<;>simp [PySem.W.kitCls])
  | zZ i=>obtain ⟨t1,rfl⟩:=(show ∃t,c=Value.bytes i t from rc);unfold PySem.W.kitOne at e;exact absurd e (by cases ty<;>simp [PySem.W.kitCls])
  | flt i=>obtain ⟨t1,rfl⟩:=(show ∃t,c=Value.float i t from rc);unfold PySem.W.kitOne at e;exact absurd e (by cases ty<;>simp [PySem.W.kitCls])
 subst this;exact Gn I r1 ty e fun tk=>⟨.bl b,H,I.tok _,rfl,q⟩
end
section
variable {prog:Program} {w:World} {A:Around}
theorem rD (hh:A.handled=none) (it a:Addr) (hne:it≠a) (its:List Value):Walks prog w A it [it,a] [it] its.length (fun i v=>its[i]? = some v) (fun i h=>h.IsListIter it a i/\h.IsList a its.toArray) where
 sub:=by simp
 frame:=fun i h h' ⟨s1,o,ho,hc⟩ k=>⟨s1.at fun o e=>k it (by simp) o e,o,k a (by simp) o ho,hc⟩
 item:=fun i s Q E hi ⟨s1,s2⟩ hQ=>wpAny_pyNext_list_item s1 s2 (x:=its[i]) (by simp [hi]) fun h' st' sb=>
  hQ _ h' s.toks (by simp [hi]) ⟨st',s2.extBut sb.extBut hne.symm⟩ fun b o hb e=>(sb.2 b (by simpa using hb)).trans e
 done:=fun s Q E ⟨s1,s2⟩ hQ=>wpAny_pyNext_list_end hh s1 s2 (by simp) fun h' eb=>hQ h' s.toks fun b o hb e=>eb b o (by simpa using hb) e
 self:=fun i s Q E ⟨s1,_⟩ hQ=>wpAny_pyIter_listiter s1 hQ
end
section
variable {X:Cx}
theorem uG (bs:List Bool):(List.range bs.length).all (fun i=>(bs[i]?).getD false)=bs.all id:=by
 rw [Bool.eq_iff_iff,List.all_eq_true,List.all_eq_true];constructor
 ·intro h b hb
  obtain ⟨i,hi,rfl⟩:=List.getElem_of_mem hb;have:=h i (by simpa using hi);simpa [hi] using this
 ·intro h i hi
  have hi':i<bs.length:=by simpa using hi
  simpa [hi'] using h bs[i] (List.getElem_mem hi')
theorem uF (bs:List Bool):(List.range bs.length).any (fun i=>(bs[i]?).getD false)=bs.any id:=by
 rw [Bool.eq_iff_iff,List.any_eq_true,List.any_eq_true];constructor
 ·rintro ⟨i,hi,h⟩
  have hi':i<bs.length:=by simpa using hi
  exact ⟨bs[i],List.getElem_mem hi',by simpa [hi'] using h⟩
 ·rintro ⟨b,hb,h⟩
  obtain ⟨i,hi,rfl⟩:=List.getElem_of_mem hb;exact ⟨i,by simpa using hi,by simpa [hi] using h⟩
theorem rE {bs:List Bool}:∀{us:List Value},Vals (bs.map V.bl) us->us=bs.map Value.bool:=by
 induction bs with
 | nil=>intro us r;cases r;rfl
 | cons b bs ih=>
   intro us r;cases r with
   | cons r rs=>cases (show _=Value.bool b from r);rw [ih rs];rfl
theorem uc (hc:X.calm=true):fZ X (.builtin "all") (fun xs H Q=>∃(p:Addr) (bs:List Bool),xs=[.ref p]/\bh X.K H p (bs.map V.bl)/\Q (.bl (bs.all id)) H):=by
 intro pins s σ H xs us Q I r h;obtain ⟨p,bs,rfl,hq,q⟩:=h;obtain ⟨u,rfl,rx⟩:=vals1 r;cases rx;obtain ⟨its,rv,pl,hz⟩:=I.list hq;have e:=rE rv;have hlen:its.length=bs.length:=by rw [e,List.length_map]
 refine call_all_walk (wpAny_pyIter_list pl.isList ⟨s.heap.objs.size,[s.heap.objs.size,p],[s.heap.objs.size],its.length,_,_,fun i=>(bs[i]?).getD false,rfl,
  rD (show X.A.in1.handled=none from I.ok.hd hc) s.heap.objs.size p ?_ its,⟨⟨_,Heap.get?_push_size _ rfl,rfl,rfl⟩, ?_⟩, ?_, ?_⟩)
 ·intro z
  obtain ⟨o,ho,_⟩:=pl.isList;have:=Heap.lt_size ho;rw [←z] at this;exact Nat.lt_irrefl _ this
 ·obtain ⟨o,ho,hcl⟩:=pl.isList
  exact ⟨o,Heap.get?_push_of_some _ ho,hcl⟩
 ·intro i v s1 Q1 E1 hP hQ
  rw [e,List.getElem?_map] at hP;cases r:bs[i]? with
  | none=>rw [r] at hP;cases hP
  | some b=>
    rw [r] at hP;cases hP;simp only [r,Option.getD_some] at hQ;exact wpAny_truthy_bool hQ
 ·intro h' tk k
  rw [hlen,uG];have f:=I.nY (H':=H) (b:=s.heap.objs.size) (Nat.le_refl _) (I.hok.fresh (Nat.le_refl _));have I2:Inv X pins σ H {s with heap:=h',toks:=tk}:=I.turned (h':=h') (t':=tk) (it:=s.heap.objs.size) (fun b o hb e=>k b o (by simpa using hb) (Heap.get?_push_of_some _ e)) f.1 f.2.1 f.2.2.2.1 f.2.2.2.2.1 f.2.2.2.2.2;exact ⟨.bl _,H,I2,rfl,q⟩
theorem t_ (hc:X.calm=true):fZ X (.builtin "any") (fun xs H Q=>∃(p:Addr) (bs:List Bool),xs=[.ref p]/\bh X.K H p (bs.map V.bl)/\Q (.bl (bs.any id)) H):=by
 intro pins s σ H xs us Q I r h;obtain ⟨p,bs,rfl,hq,q⟩:=h;obtain ⟨u,rfl,rx⟩:=vals1 r;cases rx;obtain ⟨its,rv,pl,hz⟩:=I.list hq;have e:=rE rv;have hlen:its.length=bs.length:=by rw [e,List.length_map]
 refine call_any_walk (wpAny_pyIter_list pl.isList ⟨s.heap.objs.size,[s.heap.objs.size,p],[s.heap.objs.size],its.length,_,_,fun i=>(bs[i]?).getD false,rfl,
  rD (show X.A.in1.handled=none from I.ok.hd hc) s.heap.objs.size p ?_ its,⟨⟨_,Heap.get?_push_size _ rfl,rfl,rfl⟩, ?_⟩, ?_, ?_⟩)
 ·intro z
  obtain ⟨o,ho,_⟩:=pl.isList;have:=Heap.lt_size ho;rw [←z] at this;exact Nat.lt_irrefl _ this
 ·obtain ⟨o,ho,hcl⟩:=pl.isList
  exact ⟨o,Heap.get?_push_of_some _ ho,hcl⟩
 ·intro i v s1 Q1 E1 hP hQ
  rw [e,List.getElem?_map] at hP;cases r:bs[i]? with
  | none=>rw [r] at hP;cases hP
  | some b=>
    rw [r] at hP;cases hP;simp only [r,Option.getD_some] at hQ;exact wpAny_truthy_bool hQ
 ·intro h' tk k
  rw [hlen,uF];have f:=I.nY (H':=H) (b:=s.heap.objs.size) (Nat.le_refl _) (I.hok.fresh (Nat.le_refl _));have I2:Inv X pins σ H {s with heap:=h',toks:=tk}:=I.turned (h':=h') (t':=tk) (it:=s.heap.objs.size) (fun b o hb e=>k b o (by simpa using hb) (Heap.get?_push_of_some _ e)) f.1 f.2.1 f.2.2.2.1 f.2.2.2.2.1 f.2.2.2.2.2;exact ⟨.bl _,H,I2,rfl,q⟩
end
end L2
set_option Elab.async false
set_option linter.all false
set_option maxRecDepth 100000
set_option maxHeartbeats 4000000
namespace L2
open PySem PySem.Spec PyProof.Rows
def FnAt (P:Program) (w:World) (K:PySem.W.Frag) (mg:Str->Option Value) (base:Heap) (k:Nat) (x:Str) (ps:List Str) (sp:Sp):Prop:=
 ∃f fd,cX P w K mg base jx k f fd ps sp/\mg x=some (.ref f)/\PySem.W.keepIn K (.ref f)=true/\Binds K fd ps []
section
variable {X:Cx} {k j:Nat} {x:Str} {ps:List Str} {sp:Sp} {e:Expr} {es:List Expr} {t:TA} {p pos:Pos}
theorem aU (F:FnAt X.prog X.w X.K X.mg X.base k x ps sp) (hr:eZ k X.A) (hg:Gl X x) (ha:PA X (e::es) t) (hd:(x==("__debug__" :Str))=false:=by decide)
 (he:starEach (e::es) X.env=(false,eval e X.env)::starEach es X.env:=by rfl) (hpl:(backTo pos (starEach es X.env)).any (·.1)=false:=by rfl):
 PE X (.Call (.Name x p) (e::es) [] pos) (xZ sp [] E0 t):=by
 obtain ⟨f,fd,G,hm,hk,hb⟩:=F;exact Mw G hr hg hm hk hb .nil U7 ha (hdb:=hd) (he:=he) (hpl:=hpl)
end
theorem KH:bootBuiltins "abs" = some (.builtin "abs"):=by kernel_rfl
theorem KD:bootBuiltins "all" = some (.builtin "all"):=by kernel_rfl
theorem KC:bootBuiltins "any" = some (.builtin "any"):=by kernel_rfl
theorem jf:bootBuiltins "len" = some (.builtin "len"):=by kernel_rfl
theorem B_:bootBuiltins "min" = some (.builtin "min"):=by kernel_rfl
theorem Kz:bootBuiltins "max" = some (.builtin "max"):=by kernel_rfl
theorem pO:bootBuiltins "sorted" = some (.builtin "sorted"):=by kernel_rfl
theorem jy:bootBuiltins "isinstance" = some (.builtin "isinstance"):=by kernel_rfl
theorem Ca:bootBuiltins "int" = some (.type "int"):=by kernel_rfl
theorem Oe:bootBuiltins "bool" = some (.type "bool"):=by kernel_rfl
theorem Em:bootBuiltins "list" = some (.type "list"):=by kernel_rfl
theorem Ky:bootBuiltins "tuple" = some (.type "tuple"):=by kernel_rfl
section
variable {X:Cx}
theorem Mx:pQ X (binaryOp .Mult) (rI IntMulOk fun i j=> .int (i*j)):=Va fun _ _ _ _ _ _ _ hc q=>mul_int q hc
end
def Kp (r:Addr) (H H':Hp):Prop:=∀b o,H b=some o->b≠r->H' b=some o
theorem Kp.of_same {r:Addr} {H H':Hp} (h:Same H H'):Kp r H H':=fun b o e _=>h b o e
theorem Kp.trans {r:Addr} {H H1 H2:Hp} (a:Kp r H H1) (b:Kp r H1 H2):Kp r H H2:=fun c o h n=>b c o (a c o h n) n
theorem Kp.refl (r:Addr) (H:Hp):Kp r H H:=fun _ _ h _=>h
theorem Kp.set {r:Addr} {H:Hp} {o:HO}:Kp r H (upd H r o):=fun b u e n=>by rw [aJ n];exact e
theorem aC {H:Hp} {p:Addr} {o:HO} (h:H p=none):Same H (upd H p o):=fun b u e=>by rw [aJ (au e h)];exact e
theorem Same.tups {H H':Hp} (e:Same H H'):∀a xs,H a=some (HO.tup xs)->H' a=some (HO.tup xs):=fun a xs h=>e _ _ h
theorem Same.sqL {K:PySem.W.Frag} {H H':Hp} (e:Same H H'):∀a xs,bh K H a xs->bh K H' a xs:=fun a xs h=>e.seq h
theorem Kp.tups {H H':Hp} {r:Addr} {ys:List V} (e:Kp r H H') (hr:H r=some (.lst ys)):∀a xs,H a=some (HO.tup xs)->H' a=some (HO.tup xs):=fun a xs h=>e _ _ h (dB h hr (by intro z;cases z))
theorem Kp.tups' {H H':Hp} {r:Addr} {kvs:List (Key×V)} (e:Kp r H H') (hr:H r=some (.dK kvs)):∀a xs,H a=some (HO.tup xs)->H' a=some (HO.tup xs):=fun a xs h=>e _ _ h (dB h hr (by intro z;cases z))
end L2
namespace L2
open PySem PySem.Spec PyProof.Rows
section
variable {X:Cx} {K:PySem.W.Frag}
theorem aP (h:X.K=K):Xk X (QS K):=by subst h;exact Ni
theorem aM (h:X.K=K):Xk X (yu K):=by subst h;exact RN
theorem gO (h:X.K=K):Xf X (UL K):=by subst h;exact LR
theorem gG (h:X.K=K):Xf X (UJ K):=by subst h;exact QC
def U3 (K:PySem.W.Frag):List V->Hp->VK->Prop:=fun xs H Q=>∃(p:Addr) (ys:List V),xs=[.ref p]/\(bh K H p ys\/cJ K H p ys)/\Q (.int ys.length) H
theorem bJ (h:X.K=K):fZ X (.builtin "len") (U3 K):=by subst h;exact wV
def Mf (K:PySem.W.Frag):List V->Hp->VK->Prop:=fun xs H Q=>∃(p:Addr) (ys:List V),xs=[.ref p]/\(bh K H p ys\/cJ K H p ys) /\ ∀l,H l=none->Q (.ref l) (upd H l (.lst ys))
theorem mQ (h:X.K=K):fZ X (.type "list") (Mf K):=by subst h;exact wU
def U5 (K:PySem.W.Frag):List V->Hp->VK->Prop:=fun xs H Q=>∃(p:Addr) (bs:List Bool),xs=[.ref p]/\bh K H p (bs.map V.bl)/\Q (.bl (bs.all id)) H
def U4 (K:PySem.W.Frag):List V->Hp->VK->Prop:=fun xs H Q=>∃(p:Addr) (bs:List Bool),xs=[.ref p]/\bh K H p (bs.map V.bl)/\Q (.bl (bs.any id)) H
theorem kh (h:X.K=K) (hc:X.calm=true):fZ X (.builtin "all") (U5 K):=by subst h;exact uc hc
theorem j_ (h:X.K=K) (hc:X.calm=true):fZ X (.builtin "any") (U4 K):=by subst h;exact t_ hc
theorem Dn (h:X.K=K) (hu:X.A.units+64<cLine):pQ X (compareOp .Eq) (Mi false):=by subst h;exact Q6 hu
theorem wC (h:X.K=K) (hu:X.A.units+64<cLine):pQ X (compareOp .NotEq) (Mi true):=by subst h;exact Q5 hu
theorem bU {tg l:Expr} {tl:TE} (h:X.K=K) (hl:PE X l tl):PI X tg l (Pg K tl):=by subst h;exact Mt hl
theorem Ms {tg l:Expr} {tl:TE} (h:X.K=K) (hl:PE X l tl):PI X tg l (VG K tl):=by subst h;exact QV hl
def Z1 (K:PySem.W.Frag) (c:Value) (cv:V):List V->Hp->VK->Prop:=fun xs H Q=>∃x t b,xs=[x,cv]/\oG K H x t/\PySem.W.kitOne K t c=some b/\Q (.bl b) H
theorem pN {c:Value} {cv:V} (h:X.K=K) (rc:RelV cv c):fZ X (.builtin "isinstance") (Z1 K c cv):=by subst h;exact Kw rc
theorem d_ {o e:Expr} {to:TE} {t:TA} {apos cpos:Pos} (h:X.K=K) (ho:PE X o to) (ha:PA X [e] t)
 (hbase:attributeBase o "append" X.env (eval o X.env)=eval o X.env:=by rfl)
 (hfew:((backTo cpos (starEach [e] X.env)).all (fun x=> !x.1)&&(backToKw cpos (keywordEach [] X.env)).all (fun x=>x.1.isSome)
   && decide (([e]:List Expr).length+([]:List Keyword).length+(if ([]:List Keyword).isEmpty then 0 else 1)<30))=true:=by rfl)
 (hline:(apos.endLine==cpos.line)=true:=by rfl) (hs:starEach [e] X.env=(false,eval e X.env)::starEach [] X.env:=by rfl) (hplain:(backTo cpos (starEach [] X.env)).any (·.1)=false:=by rfl):
 PE X (.Call (.Attribute o "append" apos) [e] [] cpos) (Ur K "list" wj to t):=by
 subst h;exact O6 PySem.F.plainAttrs_list PySem.F.slot_list_append PySem.F.type_list_append pA ho ha hbase hfew hline hs hplain
end
end L2
namespace L2
open PySem
section
variable {K:PySem.W.Frag} {a D:Addr} {xs:List V} {g:TG} {tc:TT} {te:TE} {Q:VK} {σ0:St} {H1:Hp}
theorem lZ (Pv:Nat->St->Hp->Prop) (h0:Pv 0 σ0 (upd H1 D (.lst []))) (hl:∀i σ H,i<=xs.length->Pv i σ H->bh K H a xs)
 (hs:∀i x σ H,xs[i]? = some x->Pv i σ H->g x σ H fun σ2 H2=>tc σ2 H2 fun b H3=>
   if b=true then te σ2 H3 fun y H4=>∃acc,H4 D=some (.lst acc)/\acc.length<sizeLine/\Pv (i+1) σ2 (upd H4 D (.lst (acc++[y]))) else Pv (i+1) σ2 H3)
 (hd:∀σ H,Pv xs.length σ H->Q (.ref D) H):mV (Oq K a) g tc te Q D σ0 H1:=by
 refine ⟨fun i m σ H=>m=xs.length - i/\i<=xs.length/\Pv i σ H,⟨xs.length,by simp,Nat.zero_le _,h0⟩, ?_⟩;rintro i m σ H ⟨rfl,hi,p⟩;have q:=hl i σ H hi p
 by_cases hlt:i<xs.length
 ·refine .inr ⟨⟨xs,xs[i],q,by simp [hlt]⟩,Pv (i+1),fun σ' H' p'=>⟨xs.length - (i+1),by omega,rfl,hlt,p'⟩,fun x H' y=> ?_⟩
  obtain ⟨e,y⟩:=y;subst e;exact hs i x σ _ (y xs q) p
 ·have e:i=xs.length:=by omega
  subst e;exact .inl ⟨⟨xs,q,Nat.le_refl _⟩,hd σ H p⟩
theorem Ku (Pv:Nat->St->Hp->Prop) (h0:Pv 0 σ0 (upd H1 D (.lst []))) (hl:∀i σ H,i<=xs.length->Pv i σ H->cJ K H a xs)
 (hs:∀i x σ H,xs[i]? = some x->Pv i σ H->g x σ H fun σ2 H2=>tc σ2 H2 fun b H3=>
   if b=true then te σ2 H3 fun y H4=>∃acc,H4 D=some (.lst acc)/\acc.length<sizeLine/\Pv (i+1) σ2 (upd H4 D (.lst (acc++[y]))) else Pv (i+1) σ2 H3)
 (hd:∀σ H,Pv xs.length σ H->Q (.ref D) H):mV (YW K a) g tc te Q D σ0 H1:=by
 refine ⟨fun i m σ H=>m=xs.length - i/\i<=xs.length/\Pv i σ H,⟨xs.length,by simp,Nat.zero_le _,h0⟩, ?_⟩;rintro i m σ H ⟨rfl,hi,p⟩;have q:=hl i σ H hi p
 by_cases hlt:i<xs.length
 ·refine .inr ⟨⟨xs,xs[i],q,by simp [hlt]⟩,Pv (i+1),fun σ' H' p'=>⟨xs.length - (i+1),by omega,rfl,hlt,p'⟩,fun x H' y=> ?_⟩
  obtain ⟨e,y⟩:=y;subst e;exact hs i x σ _ (y xs q) p
 ·have e:i=xs.length:=by omega
  subst e;exact .inl ⟨⟨xs,q,Nat.le_refl _⟩,hd σ H p⟩
theorem BW {lo:Int} {n:Nat} (Pv:Nat->St->Hp->Prop) (h0:Pv 0 σ0 (upd H1 D (.lst [])))
 (hs:∀i σ H,i<n->Pv i σ H->g (.int (lo+i)) σ H fun σ2 H2=>tc σ2 H2 fun b H3=>
   if b=true then te σ2 H3 fun y H4=>∃acc,H4 D=some (.lst acc)/\acc.length<sizeLine/\Pv (i+1) σ2 (upd H4 D (.lst (acc++[y]))) else Pv (i+1) σ2 H3)
 (hd:∀σ H,Pv n σ H->Q (.ref D) H):mV (Qc lo n) g tc te Q D σ0 H1:=by
 refine ⟨fun i m σ H=>m=n - i/\i<=n/\Pv i σ H,⟨n,by simp,Nat.zero_le _,h0⟩, ?_⟩;rintro i m σ H ⟨rfl,hi,p⟩
 by_cases hlt:i<n
 ·refine .inr ⟨hlt,Pv (i+1),fun σ' H' p'=>⟨n - (i+1),by omega,rfl,hlt,p'⟩,fun x H' y=> ?_⟩
  obtain ⟨e,y⟩:=y;subst e y;exact hs i σ _ hlt p
 ·have e:i=n:=by omega
  subst e;exact .inl ⟨Nat.le_refl _,hd σ H p⟩
end
end L2
set_option Elab.async false
set_option linter.all false
set_option maxRecDepth 100000
set_option maxHeartbeats 4000000
namespace L2
open PySem PySem.Spec PyProof.Rows
section
variable {α:Type} (f:α->PyData)
theorem tZ:∀(l:List α),(∀x∈l,(f x).canLay0=true)->PyData.canLayAll0 (l.map f)=true
 | [],_=>rfl
 | a::l,h=>by
   show (PyData.canLay0 (f a)&&PyData.canLayAll0 (l.map f))=true;rw [h a List.mem_cons_self,tZ l fun x hx=>h x (List.mem_cons_of_mem _ hx)];rfl
theorem oh (k:Nat):∀(l:List α),(∀x∈l,(f x).depth<=k)->PyData.depthAll (l.map f)<=k
 | [],_=>Nat.zero_le _
 | a::l,h=>by
   show max (PyData.depth (f a)) (PyData.depthAll (l.map f))<=k;exact Nat.max_le.mpr ⟨h a List.mem_cons_self,oh k l fun x hx=>h x (List.mem_cons_of_mem _ hx)⟩
theorem pX {l:List α} (k:Nat) (hk:k<64) (h1:∀x∈l,(f x).canLay0=true) (h2:∀x∈l,(f x).depth<=k):SeqAt.shaped (.list (l.map f))=true:=by
 unfold SeqAt.shaped;have e1:PyData.canLay0 (.list (l.map f))=true:=tZ f l h1
 have e2:PyData.depth (.list (l.map f))<=64:=by
  show PyData.depthAll (l.map f)+1<=64;have:=oh f k l h2;omega
 rw [e1,decide_eq_true e2];rfl
theorem tO [DecidableEq α] (h:∀x y,PyData.eqv (f x) (f y)=decide (x=y)):∀(l m:List α),PyData.eqvAll (l.map f) (m.map f)=decide (l=m)
 | [],[]=>rfl
 | [],_::_=>by simp only [List.map_nil,List.map_cons,PyData.eqvAll];exact (decide_eq_false (by intro z;cases z)).symm
 | _::_,[]=>by simp only [List.map_nil,List.map_cons,PyData.eqvAll];exact (decide_eq_false (by intro z;cases z)).symm
 | a::l,b::m=>by
   simp only [List.map_cons,PyData.eqvAll];rw [h a b,tO h l m]
   by_cases e1:a=b
   ·subst e1
    by_cases e2:l=m
    ·subst e2;simp
    ·simp [e2]
   ·simp [e1]
theorem n_ [DecidableEq α] (h:∀x y,PyData.eqv (f x) (f y)=decide (x=y)) (l m:List α):PyData.eqv (.list (l.map f)) (.list (m.map f))=decide (l=m):=by
 simp only [PyData.eqv];exact tO f h l m
end
theorem gR {H:Hp} {a:Addr} {vs:List V} {ds:List PyData} (h:H a=some (.lst vs)) (d:aD H vs ds):Dat H (.ref a) (.list ds):=by
 simp only [Dat];exact ⟨a,vs,rfl,h,d⟩
theorem yV (K:PySem.W.Frag):PySem.W.kitOne K (.type "int") (.type "int")=some true:=rfl
theorem wI (K:PySem.W.Frag):PySem.W.kitOne K (.type "int") (.type "bool")=some false:=by kernel_rfl
theorem qC (K:PySem.W.Frag):PySem.W.kitOne K (.type "tuple") (.type "tuple")=some true:=rfl
end L2
namespace L2
open PySem
theorem jK (xs:List V) (k:Nat):fD xs none (some (k:Int))=xs.take k:=by
 unfold fD;rw [HT.rO,HT.v9,List.drop_zero,Nat.sub_zero]
 by_cases h:k<=xs.length
 ·rw [Nat.min_eq_left h]
 ·rw [Nat.min_eq_right (by omega),List.take_of_length_le (Nat.le_refl _),List.take_of_length_le (by omega)]
theorem zA (xs:List V) (k:Nat):fD xs (some (k:Int)) none=xs.drop k:=by
 unfold fD;rw [HT.rO,HT.v9]
 by_cases h:k<=xs.length
 ·rw [Nat.min_eq_left h,List.take_of_length_le (by rw [List.length_drop];exact Nat.le_refl _)]
 ·rw [Nat.min_eq_right (by omega),Nat.sub_self,List.take_zero,List.drop_of_length_le (by omega)]
end L2
set_option Elab.async false
set_option linter.all false
set_option maxRecDepth 100000
set_option maxHeartbeats 4000000
namespace PySem.W
open PySem PySem.Spec PySem.Calls PyProof.Rows
section
variable {prog:Program} {w:World} {A:Around} {E:Value->Shared->Prop} {s:Shared} {K:Frag} {x D:Addr} {ox:Obj} {odo:Option Obj} {name:Str}
end
end PySem.W
set_option Elab.async false
set_option linter.all false
set_option maxRecDepth 100000
set_option maxHeartbeats 4000000
namespace L2
open PySem PySem.Spec PyProof.Rows
section
variable {M:Model} {A:Around} {E:Value->Shared->Prop} {s:Shared} {base:Heap} {env:Env} {outer:List Env} {L e:Addr}
end
section
variable {X:Cx} {pins:List (Addr×Obj)} {σ:St} {H:Hp} {s:Shared} {e:Addr}
end
end L2
set_option Elab.async false
set_option linter.all false
set_option maxRecDepth 100000
set_option maxHeartbeats 4000000
namespace L2
open PySem PySem.Spec PyProof.Rows
section
variable {X:Cx} {k:Nat} {x:Str} {ps:List Str} {sp:Sp} {e:Expr} {es:List Expr} {t:TA} {p pos:Pos} {E:St->XK}
end
section
variable {P:Program} {w:World} {K:PySem.W.Frag} {mg:Str->Option Value} {base:Heap}
end
section
variable {X:Cx} {E:St->XK} {x:Str} {C:Addr} {B newId initId:String} {bmB:List Value} {e0:Expr} {rest:List Expr} {ta:TA} {np cpos pos:Pos}
end
section
variable {X:Cx} {pins:List (Addr×Obj)} {σ:St} {H:Hp} {s:Shared}
end
section
variable {M:Model} {A:Around} {Er:Value->Shared->Prop} {s:Shared} {K:PySem.W.Frag} {e C D:Addr}
end
end L2
set_option Elab.async false
set_option linter.all false
set_option maxRecDepth 100000
set_option maxHeartbeats 4000000
namespace L2
open PySem PySem.Spec PyProof.Rows
section
variable {X:Cx} {pins:List (Addr×Obj)} {σ:St} {H:Hp} {s:Shared}
end
section
variable {X:Cx} {body suite:List Stmt} {b0:Stmt} {n cn:Str} {i:Nat} {Dc:Addr} {tb:(St->XK)->TS} {th:TS} {cp hpos pos:Pos}
end
section
variable {X:Cx} {K:PySem.W.Frag}
end
end L2
set_option Elab.async false
set_option linter.all false
set_option maxRecDepth 100000
set_option maxHeartbeats 4000000
namespace L2
open PySem PySem.Spec PyProof.Rows
section
variable {X:Cx} {K:PySem.W.Frag}
end
end L2
namespace L2
open PySem
end L2
set_option Elab.async false
set_option linter.all false
set_option maxRecDepth 100000
set_option maxHeartbeats 4000000
namespace L2
open PySem PySem.Spec PyProof.Rows
section
variable {X:Cx} {pins:List (Addr×Obj)} {σ:St} {H:Hp} {s:Shared} {h':Heap}
theorem Inv.CK {t':Nat} {fp:List Addr} (I:Inv X pins σ H s) (hf:∀b∈fp,fO X pins H b) (k:∀b o,b∉fp->s.heap.get? b=some o->h'.get? b=some o):Inv X pins σ H {s with heap:=h',toks:=t'}:=by
 have M5:∀b u,H b=some u->b∉fp:=fun b u e z=>by rw [(hf b z).1] at e;cases e
 refine I.step (g':=s.gens) (d':=s.drawn) (ch:=fp) (fun b hb=> ?_) (fun b o _ _ hc e _=>k b o hc e) (fun b o _ _ hc e _=>⟨o.slots,k b o hc e⟩) (fun _ _ _ _ n=>n)
  (fun b o hc e=>⟨o,k b o hc e⟩) (fun _ _ e=>e) (fun _ _ _ e=>e) (fun b ps e=>⟨#[],by rw [e];simp⟩) (fun m hm=> ?_) (fun b u e=> ?_) I.bare
 ·obtain ⟨f0,f1,f2,f3,f4,f5⟩:=hf b hb
  exact ⟨f3,f1,f4,f5⟩
 ·obtain ⟨o,es,ep,ho,r⟩:=hm
  exact ⟨o,es,ep,k _ o (fun z=>(hf _ z).2.1 rfl) ho,r⟩
 ·refine (I.hok b u e).stay (fun c v hc q=>k c v ?_ q) (fun _ q=>q) fun _ _ q=>q
  rcases hc with z|z
  ·rw [z];exact M5 b u e
  ·exact M5 c _ z
theorem fO.upd {b p:Addr} {o:HO} (h:fO X pins H b) (n:b≠p):fO X pins (upd H p o) b:=by
 obtain ⟨f0,r⟩:=h;exact ⟨by rw [aJ n];exact f0,r⟩
theorem JW {h:Heap} {o u:Obj} {b:Addr} (ho:o.isFreed=false) (e:(h.push o).get? b=some u):(b=h.objs.size/\u=o)\/h.get? b=some u:=by
 by_cases hb:b=h.objs.size
 ·subst hb
  rw [Heap.get?_push_size _ ho] at e;exact .inl ⟨rfl,(Option.some.inj e).symm⟩
 ·refine .inr ?_
  have lt:=Heap.lt_size e
  have XS:b<h.objs.size:=by
   have:(h.push o).objs.size=h.objs.size+1:=by simp [Heap.push]
   rw [this] at lt;exact Nat.lt_of_le_of_ne (Nat.le_of_lt_succ lt) hb
  have:(h.push o).get? b=h.get? b:=by
   simp only [Heap.get?,Heap.push];rw [Array.getElem?_push_lt XS,Array.getElem?_eq_getElem XS]
  rw [←this];exact e
end
def Ite (K:PySem.W.Frag) (l:Addr):It:=
 ⟨fun i H=>∃xs x,bh K H l xs/\xs[i]? = some x,fun i H x H'=>∃(p:Addr) (y:V),x = .ref p/\H p=none/\(∀xs,bh K H l xs->xs[i]? = some y)/\H'=upd H p (.tup [.int i,y]),fun i H=>∃xs,bh K H l xs/\xs.length<=i⟩
theorem EY {P:Program} {w:World} {K:PySem.W.Frag} {elts:List Expr} {x1:Nat} {pos:Pos} (l e it:Addr) (hne:e≠it):Turn P w K (.Tuple elts x1 pos) (Ite K l) [e,it] e (fun i h=>(∃old,IsEnum h e it i old)/\h.IsListIter it l i) where
 mem:=by simp
 obj:=fun i h st b hb=>by
  obtain ⟨⟨old,he⟩,o,ho,c,d⟩:=st;have hb':b=e\/b=it:=by simpa using hb
  rcases hb' with rfl|rfl
  ·exact ⟨_,he,fun v z=>by cases z⟩
  ·exact ⟨o,ho,fun v z=>by rw [d] at z;cases z⟩
 keep:=fun i h h' st k=>by
  obtain ⟨⟨old,he⟩,o,ho,c,d⟩:=st;exact ⟨⟨old,k e (by simp) _ he⟩,o,k it (by simp) _ ho,c,d⟩
 item:=by
  intro X hP hw hK hc i pins s σ H E I hf st hg;subst hP hw hK;obtain ⟨xs,x,hq,hx⟩:=hg;obtain ⟨its,rv,p,hz⟩:=I.list hq;obtain ⟨u,hu,ru⟩:=rv.get hx;obtain ⟨⟨old,he⟩,hi⟩:=st;have elt:=Heap.lt_size he;have ilt:it<s.heap.objs.size:=by obtain ⟨o,ho,_⟩:=id hi;exact Heap.lt_size ho
  refine wpAny_pyNext_enum_item he hi p.isList (x:=u) (by simpa using hu) hne fun h' hout hit htup hsz hk=> ?_;refine ⟨_,rfl, ?_⟩;refine wpAny_letOwnedTupleGo_enum hout fun h2 he2 sb=> ?_;have hfr:H s.heap.objs.size=none:=I.hok.fresh (Nat.le_refl _)
  have I0:Inv X pins σ (upd H s.heap.objs.size (.tup [.int i,x])) {s with heap:=s.heap.push {cls:= .type "tuple",data:= .seq #[.int i s.toks,u]}}:=
   I.laid (t':=s.toks) (fun b u e=>Heap.get?_push_of_some _ e) (Nat.le_refl _) ⟨by show 2<=sizeLine;decide,[.int i s.toks,u],.cons ⟨_,rfl⟩ (.cons ru .nil),⟨_,Heap.get?_push_size _ rfl,rfl,_,rfl⟩⟩
  have ne1:e≠s.heap.objs.size:=Nat.ne_of_lt elt;have ne2:it≠s.heap.objs.size:=Nat.ne_of_lt ilt
  have V9:∀b∈[e,it],fO X pins (upd H s.heap.objs.size (.tup [.int i,x])) b:=fun b hb=>by
   have hb':b=e\/b=it:=by simpa using hb
   rcases hb' with rfl|rfl
   ·exact (hf _ (by simp)).upd ne1
   ·exact (hf _ (by simp)).upd ne2
  have I1:=I0.CK (h':=h2) (t':=s.toks+1) V9 (fun b o hb eb=>by
   have b1:b≠e:=fun z=>hb (by simp [z]);have b2:b≠it:=fun z=>hb (by simp [z]);rw [sb.2 b b1];rcases JW rfl eb with ⟨rfl,rfl⟩|eb
   ·exact htup
   ·exact hk b o b1 b2 eb)
  refine ⟨.ref s.heap.objs.size,_,I1,rfl,⟨s.heap.objs.size,x,rfl,hfr,fun ys hy=>by rw [I.yP hy hq];exact hx,rfl⟩,⟨⟨u,he2⟩, ?_⟩,fun b hb=>(V9 b hb).1⟩;obtain ⟨o,ho,c,d⟩:=hit;exact ⟨o,(sb.2 it (Ne.symm hne)).trans ho,c,d⟩
 done:=by
  intro X hP hw hK hc i pins s σ H E I hf st hg;subst hP hw hK;obtain ⟨xs,hq,hx⟩:=hg;obtain ⟨its,rv,p,hz⟩:=I.list hq;obtain ⟨⟨old,he⟩,hi⟩:=st;have hl:=rv.length;exact wpAny_pyNext_enum_end (I.ok.hd hc) he hi p.isList (by simp;omega) fun h' eb=>⟨rfl,I.CK (t':=s.toks) hf (fun b o hb e=>eb b o (fun z=>hb (by simp [z])) e)⟩
 self:=fun _ _ _ _ _ st h=>by
  obtain ⟨⟨old,he⟩,_⟩:=st;exact wpAny_pyIter_enum he h
section
variable {X:Cx}
def VJ (K:PySem.W.Frag) (ta:TA):TI:=fun σ H R=>ta σ H fun vs H1=>∃l xs,vs=[.ref l]/\bh K H1 l xs/\R (Ite K l) H1
theorem wW:bootBuiltins "enumerate" = some (.type "enumerate"):=by kernel_rfl
theorem nJ {K:PySem.W.Frag} {a:Expr} {ta:TA} {p pos:Pos} {elts:List Expr} {x1:Nat} {tpos:Pos} (hK:X.K=K) (hg:Gl X "enumerate") (hm:X.mg "enumerate" = none) (ha:PA X [a] ta) (hs:starEach [a] X.env=[(false,eval a X.env)]:=by rfl):PI X (.Tuple elts x1 tpos) (.Call (.Name "enumerate" p) [a] [] pos) (VJ K ta):=by
 subst hK;intro pins s σ H R I h;refine Call_ (m6 I hg hm wW (PyProof.Rows.callWith_type1 (cM (ha pos pins s σ H _ I h) fun us s1 ⟨vs,H1,I1,r1,q1⟩=> ?_) hs rfl));obtain ⟨l,xs,e,hq,q⟩:=q1;subst e;cases r1 with
 | cons r rr=>
   cases rr;cases r;obtain ⟨its,rv,pl,hz⟩:=I1.list hq;refine call_enumerate_list pl.isList fun h' hE hI hsz hk=> ?_;refine wpAny_pyIter_enum hE ?_;have I2:Inv X pins σ H1 {s1 with heap:=h'}:=I1.kept (t':=s1.toks) hk;refine ⟨s1.heap.objs.size+1,[s1.heap.objs.size+1,s1.heap.objs.size],_,_,H1,rfl,I2,EY l _ _ (by simp),⟨⟨_,hE⟩,hI⟩,fun b hb=> ?_,q⟩;have hb':b=s1.heap.objs.size+1\/b=s1.heap.objs.size:=by simpa using hb
   rcases hb' with rfl|rfl
   ·exact I1.nY (Nat.le_succ _) (I1.hok.fresh (Nat.le_succ _))
   ·exact I1.nY (Nat.le_refl _) (I1.hok.fresh (Nat.le_refl _))
end
section
variable {X:Cx}
end
end L2
set_option Elab.async false
set_option linter.all false
set_option maxRecDepth 100000
set_option maxHeartbeats 4000000
namespace L2
open PySem PySem.Spec PyProof.Rows
section
variable {K:PySem.W.Frag} {a l1 l2 D:Addr} {xs ys:List V} {g:TG} {tc:TT} {te:TE} {Q:VK} {σ0:St} {H1:Hp}
end
section
variable {K:PySem.W.Frag} {a l1 l2:Addr} {xs ys:List V} {g:TG} {tb:TS} {D:Ends} {σ:St} {H:Hp}
theorem nZ (Pv:Nat->St->Hp->Prop) (h0:Pv 0 σ H) (hl:∀i σ H,i<=xs.length->Pv i σ H->bh K H a xs)
 (hs:∀i x σ H p,xs[i]? = some x->Pv i σ H->H p=none->g (.ref p) σ (upd H p (.tup [.int i,x])) fun σ2 H2=>tb {D with nx:=Pv (i+1),ct:=Pv (i+1),bk:=D.nx} σ2 H2) (hd:∀σ H,Pv xs.length σ H->D.nx σ H):
 ∃W:Nat->Nat->St->Hp->Prop,(∃m,W 0 m σ H) /\ ∀i m σ H,W i m σ H ->
  ((Ite K a).stop i H/\D.nx σ H)\/((Ite K a).go i H /\ ∃N:St->Hp->Prop,(∀σ' H',N σ' H' -> ∃m',m'<m/\W (i+1) m' σ' H') /\ ∀x H',(Ite K a).Ox i H x H'->g x σ H' fun σ2 H2=>tb {D with nx:=N,ct:=N,bk:=D.nx} σ2 H2):=by
 refine ⟨fun i m σ H=>m=xs.length - i/\i<=xs.length/\Pv i σ H,⟨xs.length,by simp,Nat.zero_le _,h0⟩, ?_⟩;rintro i m σ H ⟨rfl,hi,p⟩;have q:=hl i σ H hi p
 by_cases hlt:i<xs.length
 ·refine .inr ⟨⟨xs,xs[i],q,by simp [hlt]⟩,Pv (i+1),fun σ' H' p'=>⟨xs.length - (i+1),by omega,rfl,hlt,p'⟩,fun x H' y=> ?_⟩
  obtain ⟨t,z,rfl,ht,hz,rfl⟩:=y;exact hs i z σ _ t (hz xs q) p ht
 ·have e:i=xs.length:=by omega
  subst e;exact .inl ⟨⟨xs,q,Nat.le_refl _⟩,hd σ H p⟩
end
section
variable {X:Cx}
theorem IK {K:PySem.W.Frag} {T name id:String} {r:V->List V->Hp->VK->Prop} {o e:Expr} {es:List Expr} {to:TE} {t:TA} {apos cpos:Pos} (h:X.K=K) (pa:PlainAttrs T) (slot:Slot T name id) (hty:typeOf (.builtin id)=pure (.type "method_descriptor")) (hm:MtR X id r) (ho:PE X o to) (ha:PA X (e::es) t)
 (hbase:attributeBase o name X.env (eval o X.env)=eval o X.env:=by rfl)
 (hfew:((backTo cpos (starEach (e::es) X.env)).all (fun x=> !x.1)&&(backToKw cpos (keywordEach [] X.env)).all (fun x=>x.1.isSome)
   && decide ((e::es).length+([]:List Keyword).length+(if ([]:List Keyword).isEmpty then 0 else 1)<30))=true:=by rfl)
 (hline:(apos.endLine==cpos.line)=true:=by rfl) (hs:starEach (e::es) X.env=(false,eval e X.env)::starEach es X.env:=by rfl) (hplain:(backTo cpos (starEach es X.env)).any (·.1)=false:=by rfl):
 PE X (.Call (.Attribute o name apos) (e::es) [] cpos) (Ur K T r to t):=by
 subst h;exact O6 pa slot hty hm ho ha hbase hfew hline hs hplain
theorem nO {K:PySem.W.Frag} {es:List Expr} {k:Nat} {t:P_} {n:Nat} {pos:Pos} (hK:X.K=K) (hc:X.calm=true) (h:Xh X es t)
 (hn:(assignEach es X.env).length=n:=by rfl) (hst:(assignEach es X.env).findIdx? (·.1)=none:=by rfl):PG X (.Tuple es k pos) (R_ K n t):=by subst hK;exact QW hc h hn hst
end
end L2
set_option Elab.async false
set_option linter.all false
set_option maxRecDepth 100000
set_option maxHeartbeats 4000000
namespace L2
open PySem
section
variable {K:PySem.W.Frag} {a D:Addr} {xs:List V} {tc:TT} {te:TE} {Q:VK} {rest:St} {H1:Hp}
theorem dg {α:Type} (f:Nat->Option α) (n:Nat):(List.range (n+1)).filterMap f=(List.range n).filterMap f++(f n).toList:=by
 rw [List.range_succ,List.filterMap_append];cases h:f n<;>simp [h]
theorem nj {α:Type} (f:Nat->Option α) (n:Nat):((List.range n).filterMap f).length<=n:=by
 have:=List.length_filterMap_le f (List.range n);simpa using this
theorem Same.newly {H H1:Hp} {D:Addr} {o:HO} (h:Same H H1) (n:H D=none):Same H (upd H1 D o):=fun b u e=>by rw [aJ (au e n)];exact h b u e
theorem oA (f:Nat->Option V) (hD:H1 D=none) (hq:bh K H1 a xs) (hx:xs.length<=100000)
 (hs:∀i x H (G:Hp->Prop) (F:VK),xs[i]? = some x->Same H1 H->(∀H',Same H H'->f i=none->G H')->(∀y H',Same H H'->f i=some y->F y H')->tc (some x::rest) H fun b H3=>if b=true then te (some x::rest) H3 F else G H3)
 (hd:∀H,Same H1 H->H D=some (.lst ((List.range xs.length).filterMap f))->Q (.ref D) H):mV (Oq K a) (iz 0) tc te Q D (none::rest) H1:=by
 refine lZ (K:=K) (xs:=xs) (fun i σ H=>(∃v,σ=v::rest)/\Same H1 H/\H D=some (.lst ((List.range i).filterMap f))) ⟨⟨none,rfl⟩,aC hD,ak⟩ (fun i σ H _ ⟨_,sm,_⟩=>sm.sqL _ _ hq) ?_ (fun σ H ⟨_,sm,e⟩=>hd H sm e);rintro i x σ H hi ⟨⟨v,rfl⟩,sm,e⟩;have hil:i<xs.length:=(List.getElem?_eq_some_iff.mp hi).1;refine hs i x H _ _ hi sm (fun H3 s3 ef=>⟨⟨_,rfl⟩,sm.trans s3,by rw [s3 _ _ e,dg,ef];simp⟩) (fun y H4 s4 ef=> ?_);refine ⟨_,s4 _ _ e, ?_,⟨_,rfl⟩,(sm.trans s4).newly hD, ?_⟩
 ·have:=nj f i
  rw [sizeLine_eq];omega
 ·rw [ak,dg,ef];rfl
theorem Gv (f:Nat->Option V) (hD:H1 D=none) (hq:H1 a=some (.tup xs)) (hx:xs.length<=100000)
 (hs:∀i x H (G:Hp->Prop) (F:VK),xs[i]? = some x->Same H1 H->(∀H',Same H H'->f i=none->G H')->(∀y H',Same H H'->f i=some y->F y H')->tc (some x::rest) H fun b H3=>if b=true then te (some x::rest) H3 F else G H3)
 (hd:∀H,Same H1 H->H D=some (.lst ((List.range xs.length).filterMap f))->Q (.ref D) H):mV (YW K a) (iz 0) tc te Q D (none::rest) H1:=by
 refine Ku (K:=K) (xs:=xs) (fun i σ H=>(∃v,σ=v::rest)/\Same H1 H/\H D=some (.lst ((List.range i).filterMap f))) ⟨⟨none,rfl⟩,aC hD,ak⟩ (fun i σ H _ ⟨_,sm,_⟩=>cJ.of (sm.tups _ _ hq)) ?_ (fun σ H ⟨_,sm,e⟩=>hd H sm e);rintro i x σ H hi ⟨⟨v,rfl⟩,sm,e⟩;have hil:i<xs.length:=(List.getElem?_eq_some_iff.mp hi).1;refine hs i x H _ _ hi sm (fun H3 s3 ef=>⟨⟨_,rfl⟩,sm.trans s3,by rw [s3 _ _ e,dg,ef];simp⟩) (fun y H4 s4 ef=> ?_);refine ⟨_,s4 _ _ e, ?_,⟨_,rfl⟩,(sm.trans s4).newly hD, ?_⟩
 ·have:=nj f i
  rw [sizeLine_eq];omega
 ·rw [ak,dg,ef];rfl
theorem vq {n:Nat} (f:Nat->Option V) (hD:H1 D=none) (hx:n<=100000)
 (hs:∀i H (G:Hp->Prop) (F:VK),i<n->Same H1 H->(∀H',Same H H'->f i=none->G H')->(∀y H',Same H H'->f i=some y->F y H')->tc (some (.int (0+i))::rest) H fun b H3=>if b=true then te (some (.int (0+i))::rest) H3 F else G H3)
 (hd:∀H,Same H1 H->H D=some (.lst ((List.range n).filterMap f))->Q (.ref D) H):mV (Qc 0 n) (iz 0) tc te Q D (none::rest) H1:=by
 refine BW (lo:=0) (n:=n) (fun i σ H=>(∃v,σ=v::rest)/\Same H1 H/\H D=some (.lst ((List.range i).filterMap f))) ⟨⟨none,rfl⟩,aC hD,ak⟩ ?_ (fun σ H ⟨_,sm,e⟩=>hd H sm e);rintro i σ H hi ⟨⟨v,rfl⟩,sm,e⟩;refine hs i H _ _ hi sm (fun H3 s3 ef=>⟨⟨_,rfl⟩,sm.trans s3,by rw [s3 _ _ e,dg,ef];simp⟩) (fun y H4 s4 ef=> ?_);refine ⟨_,s4 _ _ e, ?_,⟨_,rfl⟩,(sm.trans s4).newly hD, ?_⟩
 ·have:=nj f i
  rw [sizeLine_eq];omega
 ·rw [ak,dg,ef];rfl
theorem jJ {α β:Type} {f g:α->Option β}:∀(l:List α) (_:True) (h:∀x∈l,f x=g x),l.filterMap f=l.filterMap g
 | [],_,_=>rfl
 | x::l,_,h=>by
   rw [List.filterMap_cons,List.filterMap_cons,h x (by simp),jJ l trivial fun y hy=>h y (by simp [hy])]
theorem snocInd {α:Type} {P:List α->Prop} (h0:P []) (hs:∀xs x,P xs->P (xs++[x])) (xs:List α):P xs:=by
 rw [←List.reverse_reverse xs]
 induction xs.reverse with
 | nil=>exact h0
 | cons x l ih=>rw [List.reverse_cons];exact hs _ _ ih
theorem D_ {α β:Type} (xs:List α) (g:α->β):(List.range xs.length).filterMap (fun i=>(xs[i]?).map g)=xs.map g:=by
 refine snocInd (P:=fun xs=>(List.range xs.length).filterMap (fun i=>(xs[i]?).map g)=xs.map g) rfl (fun xs x ih=> ?_) xs
 ·show (List.range (xs++[x]).length).filterMap (fun i=>((xs++[x])[i]?).map g)=(xs++[x]).map g
  rw [List.length_append,List.length_singleton,dg,List.map_append];congr 1
  ·rw [←ih]
   refine jJ _ trivial fun i hi=> ?_;have:i<xs.length:=by simpa using hi
   rw [List.getElem?_append_left this]
  ·simp
end
end L2
namespace L2
open PySem
section
variable {X:Cx} {K:PySem.W.Frag}
theorem rY (h:X.K=K):pQ X (binaryOp .Add) (O4 K):=by subst h;exact Mz
end
end L2
namespace L2
open PySem
theorem jR {a b:TS} {D:Ends} {σ:St} {H:Hp} (h:∀R:St->Hp->Prop,(∀σ' H',b D σ' H'->R σ' H')->a {D with nx:=R} σ H):vP a b D σ H:=h _ (fun _ _ x=>x)
theorem CW {a b:TS} {D:Ends} {σ:St} {H:Hp} (P:St->Hp->Prop) (h1:∀D':Ends,(∀σ' H',P σ' H'->D'.nx σ' H')->D'.rt=D.rt->a D' σ H) (h2:∀σ' H',P σ' H'->b D σ' H'):vP a b D σ H:=h1 _ h2 rfl
end L2
namespace L2
open PySem PySem.Spec PyProof.Rows
section
variable {X:Cx} {K:PySem.W.Frag} {a:Expr} {ta:TE} {pos:Pos}
def Ze (K:PySem.W.Frag) (ta:TE):TT:=fun σ H Q=>ta σ H fun x H'=>∃k,Td K x H' k/\Q k H'
theorem Fv (h:X.K=K) (ha:PE X a ta) (he:∀whole,isTrue a X.env whole=(do let v ←whole;standAt a.pos;holding [v] (truthy v)):=by intro _;rfl):PT X a (Ze K ta):=by
 subst h;exact Ij ha he
end
end L2
set_option Elab.async false
set_option linter.all false
set_option maxRecDepth 100000
set_option maxHeartbeats 4000000
namespace L2
open PySem PySem.Spec PyProof.Rows
section
variable {X:Cx} {K:PySem.W.Frag}
def U0:R2:=fun x y H Q=>∃a b,x = .bl a/\y = .bl b/\Q (.bl (!(a==b))) H
theorem Dk:pQ X (compareOp .IsNot) U0:=by
 intro pins s σ H x y v u Q I rx ry h;obtain ⟨a,b,rfl,rfl,q⟩:=h;cases rx;cases ry;exact isnot_bool (bL I q rfl)
end
section
variable {K:PySem.W.Frag} {a D:Addr} {xs:List V} {te:TE} {Q:VK} {rest:St} {H1:Hp}
theorem pJ {H:Hp} {vs:List V} {ds:List PyData} {v:V} {d:PyData} (h:aD H vs ds) (hd:Dat H v d):aD H (vs++[v]) (ds++[d]):=aD.append h (by simp only [aD,and_true];exact hd)
end
end L2
set_option Elab.async false
set_option linter.all false
namespace L2
open PySem
end L2
set_option Elab.async false
set_option linter.all false
set_option maxRecDepth 100000
set_option maxHeartbeats 4000000
namespace L2
open PySem PySem.Spec PyProof.Rows
section
variable {prog:Program} {w:World} {K:Type} [DecidableEq K] {knd:HeapKind prog w K}
theorem Cq {xs:List (K×Addr×Value)} {k:K} (h:∀(j:Nat) (p:Addr×Value),xs[j]? ≠ some (k,p)):atKey xs k=none:=by
 unfold atKey;rw [Option.map_eq_none_iff,List.find?_eq_none];intro x hx e;obtain ⟨j,hj⟩:=List.getElem?_of_mem hx;have e':x.1=k:=of_decide_eq_true e;exact h j x.2 (by rw [hj,←e'])
theorem Cp {xs:List (K×Addr×Value)} {k:K} {j:Nat} {p:Addr×Value} (hn:(xs.map (·.1)).Nodup) (h:xs[j]? = some (k,p)):atKey xs k=some p:=by
 unfold atKey
 induction xs generalizing j with
 | nil=>cases h
 | cons x xs ih=>
   rw [List.find?_cons];cases j with
   | zero=>
     have:x=(k,p):=by simpa using h
     subst this;simp
   | succ j=>
     have hj:xs[j]? = some (k,p):=by simpa using h
     have hn':=List.nodup_cons.mp (by simpa using hn:(x.1::xs.map (·.1)).Nodup);have ne:¬x.1=k:=fun z=>hn'.1 (by rw [z];exact List.mem_map.mpr ⟨(k,p),List.mem_of_getElem? hj,rfl⟩);rw [decide_eq_false ne];exact ih hn'.2 hj
theorem mG {A:Around} {E:Value->Shared->Prop} {s:Shared} {d a:Addr} {xs:List (K×Addr×Value)} {k:K} {dflt:Value} {Q:Value->Shared->Prop}
 (hr:knd.room A) (hk:knd.is s.heap k a) (dd:Heap.DictOfH knd s.heap d xs) (hz:xs.length<=sizeLine)
 (h1:∀p,atKey xs k=some p->Q p.2 {s with toks:=s.toks+knd.draws k})
 (h2:atKey xs k=none -> ∀h',Heap.DictOfH knd h' d (xs++[(k,a,dflt)])->Heap.SameBut d s.heap h'->Q dflt {s with heap:=h',toks:=s.toks+knd.draws k}):
 wpAny (model prog w) A (dictSetDefault d (.ref a) dflt) Q E s:=by
 unfold dictSetDefault;refine wpAny_holding (wpAny_bind (knd.pyHash hr hk ?_));obtain ⟨o,es,ep,ho,hx,hd,he,hi,hn⟩:=id dd;have hl:es.size=xs.length:=by rw [←Array.length_toList,he,List.length_map]
 refine wpAny_bind (wpAny_dictFind_heap (s:={s with toks:=s.toks+knd.draws k}) hr hk ho hd he hi hn (fun hno=> ?_) (fun j p hj=> ?_))
 ·refine wpAny_bind (wpAny_rule ?_)
  have an:=Cq hno;refine wpAny_bind (wpAny_updateDictKeys (s:={s with toks:=s.toks+knd.draws k}) ho hd ?_ (by omega) (by simp));refine wpAny_pure ?_;have sb:=Heap.SameBut.update s.heap d (Obj.mapDictKeys fun x=>x.push {hash:=knd.hash k,key:= .ref a,val:=dflt});refine h2 an _ ?_ sb;obtain ⟨oc,od,agB,osl⟩:=o;simp only at hd;subst hd;refine ⟨_,es.push {hash:=knd.hash k,key:= .ref a,val:=dflt},ep+1,Heap.get?_update_self _ ho ?_,hx,rfl, ?_, ?_, ?_⟩
  ·obtain ⟨c1,c2,c3⟩:=hx
   simp only at c1;subst c1;rfl
  ·rw [Array.toList_push,he,List.map_append];rfl
  ·intro x VN
   rcases List.mem_append.mp VN with VN|VN
   ·exact knd.keeps (hi x VN) ho rfl sb
   ·have:x=(k,a,dflt):=by simpa using VN
    subst this;exact knd.keeps hk ho rfl sb
  ·rw [List.map_append]
   refine List.nodup_append.mpr ⟨hn,by simp, ?_⟩;intro y hy z hz' e;have:z=k:=by simpa using hz'
   subst this;subst e;obtain ⟨x,hx',rfl⟩:=List.mem_map.mp hy;obtain ⟨j,hj⟩:=List.getElem?_of_mem hx';exact hno j x.2 hj
 ·refine wpAny_bind (wpAny_dictEntries (s:={s with toks:=s.toks+knd.draws k}) ho hd ?_)
  have ej:es[j]? = some (entryOfKey knd (k,p)):=by
   rw [←Array.getElem?_toList,he,List.getElem?_map,hj];rfl
  rw [ej];exact wpAny_bind (wpAny_rule (wpAny_pure (h1 p (Cp hn hj))))
theorem nT (knd:HeapKind prog w K) (d a:Addr) (hd:(d==sysModules)=false) (dflt:Value):MeetsIn prog w (Builtin.«dict.setdefault» {pos:=[.ref d,.ref a,dflt]}) fun A R s=>
 knd.room A.in1 /\ ∃k xs,knd.is s.heap k a/\Heap.DictOfH knd s.heap d xs/\xs.length<=sizeLine/\(∀p,atKey xs k=some p->R (.ok (.ret p.2)) {s with toks:=s.toks+knd.draws k}) /\
  (atKey xs k=none -> ∀h',Heap.DictOfH knd h' d (xs++[(k,a,dflt)])->Heap.SameBut d s.heap h'->R (.ok (.ret dflt)) {s with heap:=h',toks:=s.toks+knd.draws k}):=by
 rintro A R s ⟨hr,k,xs,hk,dd,hz,h1,h2⟩;obtain ⟨o,es,ep,ho,hx,hdat,_⟩:=id dd;unfold Builtin.«dict.setdefault»;have ht:s.TypeIs (.ref d) "dict" :=⟨o,ho,hx.1⟩;refine wpAny_bind ?_;unfold Builtin.Dict.keyAndDefault;refine wpAny_bind ?_;unfold Builtin.Dict.notOrdered;rw [if_pos (by decide)];refine wpAny_bind (wpAny_typeOf ht ?_);rw [if_neg (by decide)];refine wpAny_pure ?_;refine wpAny_bind ?_;unfold Builtin.Dict.nameIsSure;rw [if_neg (by show ¬(false=true);decide)];refine wpAny_pure ?_;refine wpAny_bind ?_;unfold selfAndSome noKeywords;refine wpAny_bind ?_;rw [if_pos (by rfl)];refine wpAny_pure ?_;show wpAny (model prog w) A.in1 (checkCount "setdefault" 1 2 2 >>= fun _=>pure (Value.ref d,[Value.ref a,dflt])) _ _ s;refine wpAny_bind ?_;have ck:checkCount "setdefault" 1 2 2=pure ():=rfl;rw [ck];refine wpAny_pure (wpAny_pure ?_);show wpAny (model prog w) A.in1 (Builtin.Dict.addrOf (.ref d) >>= fun x=>pure (x,Value.ref a,some dflt)) _ _ s;refine wpAny_bind (wpAny_pure (wpAny_pure ?_));show wpAny (model prog w) A.in1 (if (d==sysModules)=true then _ else (dictSetDefault d (.ref a) dflt >>= fun v=>ret v)) _ _ s;rw [if_neg (by rw [hd];decide)];refine wpAny_bind (mG hr hk dd hz (fun p hp=>wpAny_pure (h1 p hp)) (fun hn h' Ko sb=>wpAny_pure (h2 hn h' Ko sb)))
end
section
variable {X:Cx} {o e f:Expr} {td ty tx:TE} {apos cpos:Pos}
def Ql (td ty tx:TE):TE:=fun σ H Q=>td σ H fun x H1=>∃a,x = .ref a/\IsD H1 a/\ty σ H1 fun y H2=>tx σ H2 fun z H3=>∃kvs k b,H3 a=some (.dT kvs)/\y = .ref b/\H3 b=some (.tup (k.map kV))/\kvs.length<sizeLine /\
 (∀v,cZ kvs k=some v->Q v H3)/\(cZ kvs k=none->Q z (upd H3 a (.dT (putK kvs k z))))
theorem Iw (hu:X.A.units+1<cLine) (ho:PE X o td) (he:PE X e ty) (hf:PE X f tx) (m:M2 X o "setdefault" apos e f cpos):PE X (.Call (.Attribute o "setdefault" apos) [e,f] [] cpos) (Ql td ty tx):=by
 intro pins s σ H Q I h;refine wpAny_Call_method m.base m.few m.line PySem.F.plainAttrs_dict PySem.F.slot_dict_setdefault PySem.F.type_dict_setdefault (cM (ho pins s σ H _ I h) fun u s1 ⟨x,H1,I1,rx,a,ex,d,q1⟩=> ?_);subst ex;obtain rfl:u=Value.ref a:=rx;obtain ⟨t1,t2,_⟩:=JQ I1 d;refine ⟨t1,t2, ?_⟩;rw [m.trees]
 refine Calls.callWith_builtin rfl (Calls.evalArgs_plain (Calls.spliced_cons (cM (he pins s1 σ H1 _ I1 q1) fun iv s2 ⟨y,H2,I2,ry,q2⟩=>
  Calls.spliced_cons (cM (hf pins s2 σ H2 _ I2 q2) fun fv s3 ⟨z,H3,I3,rz,kvs,k,b,ea,ey,eb,hl,q3,q4⟩=>Calls.spliced_nil ?_))))
 subst ey;cases (show iv=Value.ref b from ry);obtain ⟨hz,hd,xs,rel,dd⟩:=Py I3.hok ea;have hz':xs.length<=sizeLine:=by rw [←Paired.length rel];exact hz
 have rv:=rel.val k;refine call_meetsIn PySem.F.slot_dict_setdefault dd.typeIs PySem.F.entry_dict_setdefault (PySem.F.args_dict_setdefault_3 _ _ _) (nT (tupleKind (bV X.prog X.w)) a b hd fv) ⟨tupleKind_room_in1 hu,k,xs,pB I3.hok eb,dd,hz',fun p hp=> ?_,fun hn h' Ko sb=> ?_⟩
 ·rw [hp] at rv
  cases lv:cZ kvs k with
  | none=>rw [lv] at rv;exact absurd rv (by simp [nA])
  | some v=>
    rw [lv] at rv;exact ⟨v,H3,I3.tok _,rv,q3 v lv⟩
 ·rw [hn] at rv
  have lv:cZ kvs k=none:=by
   cases lv:cZ kvs k with
   | none=>rfl
   | some v=>rw [lv] at rv;exact absurd rv (by simp [nA])
  have hl':(putK kvs k z).length<=sizeLine:=by have:=eE kvs k z;omega
  obtain ⟨q,es,ep,hq,h2,h3,h4,_,h5⟩:=Ko;have est:storedH xs k b fv=xs++[(k,b,fv)]:=by unfold storedH;rw [hn];rfl
  have rp:=rel.put k eb rz;rw [est] at rp;refine ⟨z,upd H3 a (.dT (putK kvs k z)),q_ (ob:= .dT (putK kvs k z)) I3 (by rw [ea];exact True.intro) sb ⟨q,hq⟩ ⟨hl',hd,_,rp.keeps fun c ys ec=> ?_,q,es,ep,hq,h2,h3,h4,h5⟩,rz,q4 lv⟩;rw [aJ (dB ec ea (fun z=>nomatch z))];exact ec
end
end L2
namespace L2
open PySem PySem.Spec PyProof.Rows
section
variable {X:Cx} {K:PySem.W.Frag}
end
end L2
namespace L2
open PySem
theorem zq {K:PySem.W.Frag} {T:String} {r:V->List V->Hp->VK->Prop} {to:TE} {t:TA} {D:Ends} {σ:St} {H:Hp} (P:V->Hp->Prop) (h1:∀Q':VK,(∀v H',P v H'->Q' v H')->to σ H Q') (h2:∀v H',P v H'->Zb K T v H'/\t σ H' fun xs H2=>r v xs H2 fun _ H3=>D.nx σ H3):Hw (Ur K T r to t) D σ H:=h1 _ h2
end L2
set_option Elab.async false
set_option linter.all false
set_option maxRecDepth 100000
set_option maxHeartbeats 4000000
namespace L2
open PySem PySem.Spec PyProof.Rows
section
variable {X:Cx} {K:PySem.W.Frag}
end
def cat:List Str->Str
 | []=>Str.empty
 | x::xs=>x++cat xs
end L2
set_option Elab.async false
set_option linter.all false
set_option maxRecDepth 100000
set_option maxHeartbeats 4000000
namespace L2
open PySem PySem.Spec PyProof.Rows
section
variable {X:Cx} {body suite:List Stmt} {b0:Stmt} {cn:Str} {Dc:Addr} {tb:(St->XK)->TS} {th:TS} {cp hpos pos:Pos}
end
end L2
namespace L2
open PySem PySem.Spec PyProof.Rows
section
variable {X:Cx}
end
end L2
set_option Elab.async false
set_option linter.all false
set_option maxRecDepth 100000
set_option maxHeartbeats 4000000
namespace L2
open PySem PySem.Spec PyProof.Rows
section
variable {X:Cx} {pins:List (Addr×Obj)} {σ:St} {H:Hp} {s:Shared} {d:Addr} {u u':HO}
theorem Inv.CZ (I:Inv X pins σ H s) (e:H d=some u) (h1:∀xs,u ≠ .tup xs) (h2:∀a,u ≠ .own a) (h3:∀ps,u ≠ .kE ps) (hz:∀o v,X.H₀ d≠some (.gM o v)) (ok:bD X.prog X.w (upd H d u') s.heap d u'):Inv X pins σ (upd H d u') s:=by
 have nd:∀{b:Addr},H b=none->b≠d:=fun q z=>by rw [z,e] at q;cases q
 have ht:∀b xs,H b=some (HO.tup xs)->(upd H d u') b=some (HO.tup xs):=fun b xs q=>by
  have:b≠d:=fun z=>by rw [z,e] at q;exact h1 xs (Option.some.inj q)
  rw [aJ this];exact q
 refine ⟨I.ok,I.os,I.bare,⟨I.base.keep,I.base.slot,fun b o q n hx=> ?_,I.base.there,fun b xs q=>ht b xs (I.base.tups b xs q),fun b o v q=> ?_,fun b ps q=> ?_⟩,I.loc,I.cell, ?_,fun x c q=> ?_,fun p hp=> ?_,fun b v q=> ?_,I.len⟩
 ·have:=I.base.free b o q n hx
  rw [aJ (nd this)];exact this
 ·have:=I.base.ni b o v q
  have nb:b≠d:=fun z=>by rw [z] at q;exact hz o v q
  rw [aJ nb];exact this
 ·obtain ⟨more,r⟩:=I.base.qt b ps q
  have nb:b≠d:=fun z=>by rw [z,e] at r;exact h3 _ (Option.some.inj r)
  exact ⟨more,by rw [aJ nb];exact r⟩
 ·rw [aJ (nd I.free)];exact I.free
 ·rw [aJ (nd (I.jF x c q))];exact I.jF x c q
 ·obtain ⟨q1,q2,q3⟩:=I.pin p hp
  exact ⟨q1,by rw [aJ (nd q2)];exact q2,q3⟩
 ·by_cases hb:b=d
  ·subst hb
   rw [ak] at q;cases q;exact ok
  ·rw [aJ hb] at q
   refine (I.hok b v q).stay (fun _ _ _ r=>r) (fun c r=> ?_) ht;have:c≠d:=fun z=>by rw [z,e] at r;exact h2 _ (Option.some.inj r)
   rw [aJ this];exact r
theorem Inv.O7 {kvs:List (Key×V)} (I:Inv X pins σ H s) (e:H d=some (.dK kvs)):∀o v,X.H₀ d≠some (.gM o v):=fun o v q=>by
 have:=I.base.ni d o v q;rw [e] at this;cases this
theorem Inv.freeze {kvs:List (Key×V)} {o:Obj} (I:Inv X pins σ H s) (e:H d=some (.dK kvs)) (ho:s.heap.get? d=some o):Inv X pins σ (upd H d (.gM o (.dK kvs))) s:=by
 refine I.CZ e (fun _ z=>by cases z) (fun _ z=>by cases z) (fun _ z=>by cases z) (I.O7 e) ⟨ho, ?_⟩;obtain ⟨z,y,vs,r,dd⟩:=(show bD X.prog X.w H s.heap d (.dK kvs) from I.hok d _ e);exact ⟨z,y,vs,r,dd⟩
theorem Inv.Zd {kvs:List (Key×V)} {o:Obj} (I:Inv X pins σ H s) (e:H d=some (.gM o (.dK kvs))) (hz:∀o v,X.H₀ d≠some (.gM o v)):Inv X pins σ (upd H d (.dK kvs)) s:=by
 refine I.CZ e (fun _ z=>by cases z) (fun _ z=>by cases z) (fun _ z=>by cases z) hz ?_;obtain ⟨_,z,y,vs,r,dd⟩:=(show bD X.prog X.w H s.heap d (.gM o (.dK kvs)) from I.hok d _ e);exact ⟨z,y,vs,r,dd⟩
end
def Xl (d:Addr) (o:Obj) (kvs:List (Key×V)):It:=
 ⟨fun i H=>i<kvs.length/\H d=some (.gM o (.dK kvs)),fun i H x H'=>H'=H /\ ∃k v,kvs[i]? = some (k,v)/\x=kV k,fun i H=>kvs.length<=i/\H d=some (.gM o (.dK kvs))⟩
theorem Rw {kvs:List (Key×V)} {vs:List (Key×Value)} (r:KV kvs vs):∀(i:Nat) (k:Key) (v:V),kvs[i]? = some (k,v) -> ∃u,vs[i]? = some (k,u):=by
 induction r with
 | nil=>intro i k v h;cases h
 | cons h r ih=>
   intro i k v e;cases i with
   | zero=>
     have e':=Option.some.inj e;rename_i p q _ _;obtain ⟨h1,h2⟩:=h;obtain ⟨q1,q2⟩:=q;refine ⟨q2, ?_⟩;have:q1=k:=by rw [e'] at h1;exact h1.symm
     subst this;rfl
   | succ i=>exact ih i k v (by simpa using e)
theorem E_ {P:Program} {w:World} {K:PySem.W.Frag} {tg:Expr} (d it:Addr) (o:Obj) (kvs:List (Key×V)) (es:Array DictEntry) (ep:Nat) (hd:o.data = .dict es ep):Turn P w K tg (Xl d o kvs) [it] it (fun i h=>h.IsKeyIter it d i kvs.length ep) where
 mem:=by simp
 obj:=fun i h st b hb=>by
  have e:b=it:=by simpa using hb
  subst e;obtain ⟨o,e,c,d⟩:=st;exact ⟨o,e,fun v z=>by rw [d] at z;cases z⟩
 keep:=fun i h h' st k=>by
  obtain ⟨o,e,c,d⟩:=st;exact ⟨o,k it (by simp) o e,c,d⟩
 item:=by
  intro X hP hw hK hc i pins s σ H E I hf st hg;subst hP hw hK;obtain ⟨hi,hH⟩:=hg;obtain ⟨ho,z,y,vs,r,o',es',ep',q1,q2,q3,q4,q5,q6⟩:=(show bD X.prog X.w H s.heap d (.gM o (.dK kvs)) from I.hok d _ hH);rw [ho] at q1;cases q1;rw [hd] at q3;cases q3;have hl:kvs.length=vs.length:=r.length;obtain ⟨k,v,Sy⟩:∃k v,kvs[i]? = some (k,v):=⟨kvs[i].1,kvs[i].2,by simp [hi]⟩;obtain ⟨u,eu⟩:=Rw r i k v Sy;obtain ⟨f0,f1,f2,f3,f4,f5⟩:=hf it (by simp);refine wpAny_pyNext_dict_item (knd:=bV X.prog X.w) (by rw [←hl];exact st) ⟨o,es,ho,q2,hd,q4,q5,q6⟩ eu fun key h' hk st' sb=> ?_;have I1:Inv X pins σ H {s with heap:=h'}:=I.turned (t':=s.toks) (fun b o hb e=>(sb.2 b hb).trans e) f0 f1 f3 f4 f5;obtain ⟨ob,e,c,dd⟩:=id st'
  have rk:RelV (kV k) key:=by
   rw [Bo] at hk;rcases cL hk with ⟨j,t,e1,e2⟩|⟨x,t,e1,e2⟩
   ·subst e1;subst e2;exact ⟨t,rfl⟩
   ·subst e1;subst e2;exact ⟨t,rfl⟩
  exact ⟨key,rfl,vd (s:={s with heap:=h'}) e c dd (by decide) ⟨kV k,H,I1,rk,⟨rfl,k,v,Sy,rfl⟩,by rw [hl];exact st',fun b hb=>(hf b hb).1⟩⟩
 done:=by
  intro X hP hw hK hc i pins s σ H E I hf st hg;subst hP hw hK;obtain ⟨hi,hH⟩:=hg;obtain ⟨ho,z,y,vs,r,o',es',ep',q1,q2,q3,q4,q5,q6⟩:=(show bD X.prog X.w H s.heap d (.gM o (.dK kvs)) from I.hok d _ hH);rw [ho] at q1;cases q1;rw [hd] at q3;cases q3;have hl:kvs.length=vs.length:=r.length;obtain ⟨f0,f1,f2,f3,f4,f5⟩:=hf it (by simp);exact wpAny_pyNext_dict_end (knd:=bV X.prog X.w) (I.ok.hd hc) (by rw [←hl];exact st) ⟨o,es,ho,q2,hd,q4,q5,q6⟩ (by simp;omega) fun h' eb=>⟨rfl,I.turned (t':=s.toks) (fun b o hb e=>eb b o hb e) f0 f1 f3 f4 f5⟩
 self:=fun _ _ _ _ _ st h=>wpAny_pyIter_keyiter st h
section
variable {X:Cx} {tg:Expr}
def VL (tl:TE):TI:=fun σ H R=>tl σ H fun x H1=>∃d kvs,x = .ref d/\H1 d=some (.dK kvs) /\ ∀o,R (Xl d o kvs) (upd H1 d (.gM o (.dK kvs)))
theorem Mu {l:Expr} {tl:TE} (hl:PE X l tl):PI X tg l (VL tl):=by
 intro pins s σ H R I h;refine cM (hl pins s σ H _ I h) fun v s1 ⟨x,H1,I1,r1,q1⟩=> ?_;obtain ⟨d,kvs,e,hH,q⟩:=q1;subst e;cases r1;obtain ⟨z,hd,vs,r,o,es,ep,ho,q2,q3,q4,q5,q6⟩:=Kh I1.hok hH;refine wpAny_pyIter_dict (knd:=bV X.prog X.w) hd ⟨o,es,ho,q2,q3,q4,q5,q6⟩ ?_;have If:=I1.freeze hH ho;have hl:kvs.length=vs.length:=r.length
 have M5:(upd H1 d (HO.gM o (.dK kvs))) s1.heap.objs.size=none:=by
  rw [aJ (Ne.symm (Nat.ne_of_lt (Heap.lt_size ho)))];exact I1.hok.fresh (Nat.le_refl _)
 refine ⟨s1.heap.objs.size,[s1.heap.objs.size],_,_,upd H1 d (.gM o (.dK kvs)),rfl,If.kept (t':=s1.toks) fun b o e=>Heap.get?_push_of_some _ e,E_ d _ o kvs es ep q3,⟨_,Heap.get?_push_size _ rfl,rfl,by rw [hl];rfl⟩,fun b hb=> ?_,q o⟩;have e:b=s1.heap.objs.size:=by simpa using hb
 subst e;exact If.nY (Nat.le_refl _) M5
end
section
variable {d D:Addr} {o:Obj} {kvs:List (Key×V)} {tc:TT} {te:TE} {Q:VK} {rest:St} {H1:Hp}
end
def aen (H H' Ou:Hp):Prop:=∃d JC o kvs,H d=some (.dK JC)/\H' d=some (.gM o (.dK kvs))/\Ou=upd H' d (.dK kvs)
def Ux (t:TS):TS:=fun D σ H=>t {D with nx:=fun σ' H'=>∃Ou,aen H H' Ou/\D.nx σ' Ou} σ H
theorem Mp {X:Cx} {st:Stmt} {t:TS} (h:PS X st t):PS X st (Ux t):=by
 intro pins s σ H D I q;refine wpAny_mono (h pins s σ H _ I q) (fun f s1 q1=> ?_) fun _ _ z=>z;cases f with
 | next=>
   obtain ⟨σ1,H1,I1,H2,⟨d,JC,o,kvs,e1,e2,rfl⟩,q2⟩:=q1;exact ⟨σ1,_,I1.Zd e2 (I.O7 e1),q2⟩
 | brk=>exact q1
 | cont=>exact q1
 | ret u=>exact q1
end L2
set_option Elab.async false
set_option linter.all false
set_option maxRecDepth 100000
set_option maxHeartbeats 4000000
namespace L2
open PySem PySem.Spec PyProof.Rows
theorem J_ {d:Addr} {o:Obj} {kvs:List (Key×V)} {g:TG} {tb:TS} {D:Ends} {σ:St} {H:Hp} (Pv:Nat->St->Hp->Prop) (h0:Pv 0 σ H) (hl:∀i σ H,i<=kvs.length->Pv i σ H->H d=some (.gM o (.dK kvs)))
 (hs:∀i k v σ H,kvs[i]? = some (k,v)->Pv i σ H->g (kV k) σ H fun σ2 H2=>tb {D with nx:=Pv (i+1),ct:=Pv (i+1),bk:=D.nx} σ2 H2) (hd:∀σ H,Pv kvs.length σ H->D.nx σ H):
 ∃W:Nat->Nat->St->Hp->Prop,(∃m,W 0 m σ H) /\ ∀i m σ H,W i m σ H ->
  ((Xl d o kvs).stop i H/\D.nx σ H)\/((Xl d o kvs).go i H /\ ∃N:St->Hp->Prop,(∀σ' H',N σ' H' -> ∃m',m'<m/\W (i+1) m' σ' H') /\ ∀x H',(Xl d o kvs).Ox i H x H'->g x σ H' fun σ2 H2=>tb {D with nx:=N,ct:=N,bk:=D.nx} σ2 H2):=by
 refine ⟨fun i m σ H=>m=kvs.length - i/\i<=kvs.length/\Pv i σ H,⟨kvs.length,by simp,Nat.zero_le _,h0⟩, ?_⟩;rintro i m σ H ⟨rfl,hi,p⟩;have q:=hl i σ H hi p
 by_cases hlt:i<kvs.length
 ·refine .inr ⟨⟨hlt,q⟩,Pv (i+1),fun σ' H' p'=>⟨kvs.length - (i+1),by omega,rfl,hlt,p'⟩,fun x H' y=> ?_⟩
  obtain ⟨rfl,k,v,e,rfl⟩:=y;exact hs i k v σ _ e p
 ·have e:i=kvs.length:=by omega
  subst e;exact .inl ⟨⟨Nat.le_refl _,q⟩,hd σ H p⟩
def qb (hs:List Int) (g:Int->Int):List (Key×V):=hs.map fun h=>(Sum.inl h,V.int (g h))
theorem wH {hs:List Int} {g:Int->Int}:∀(h:Int),cZ (qb hs g) (Sum.inl h)=if h∈hs then some (V.int (g h)) else none:=by
 intro h
 induction hs with
 | nil=>rfl
 | cons x hs ih=>
   show cZ ((Sum.inl x,V.int (g x))::qb hs g) _=_
   by_cases e:x=h
   ·subst e
    rw [dR rfl,if_pos (List.mem_cons_self ..)]
   ·rw [dU (fun z=>e (Sum.inl.inj z)),ih]
    by_cases m:h∈hs
    ·rw [if_pos m,if_pos (List.mem_cons_of_mem _ m)]
    ·rw [if_neg m,if_neg (fun z=>(List.mem_cons.mp z).elim (fun z=>e z.symm) m)]
def yZ (g:Int->Int) (h v:Int):Int->Int:=fun x=>if x=h then v else g x
def hAdd (hs:List Int) (h:Int):List Int:=if h∈hs then hs else hs++[h]
theorem Nf {hs:List Int} {g:Int->Int} (h v:Int):putK (qb hs g) (Sum.inl h) (V.int v)=qb (hAdd hs h) (yZ g h v):=by
 unfold putK hAdd;rw [iT,wH]
 by_cases m:h∈hs
 ·rw [if_pos m,Option.isSome_some,if_pos rfl,if_pos m]
  unfold qb;rw [List.map_map];refine List.map_congr_left fun x _=> ?_;simp only [Function.comp,yZ]
  by_cases e:x=h
  ·subst e;simp
  ·rw [if_neg (fun z=>e (Sum.inl.inj z)),if_neg e]
 ·rw [if_neg m,if_neg (by simp),if_neg m]
  unfold qb;rw [List.map_append];congr 1
  ·refine List.map_congr_left fun x hx=> ?_
   have:x≠h:=fun z=>m (z▸hx);simp only [yZ,if_neg this]
  ·simp [yZ]
theorem rZ:∀(n:Nat) (hs:List Int),hs.Nodup->(∀h∈hs,0<=h/\h<(n:Int))->hs.length<=n
 | 0,hs,_,hr=>by
   cases hs with
   | nil=>exact Nat.le_refl _
   | cons x hs=>have:=hr x (List.mem_cons_self ..);omega
 | n+1,hs,nd,hr=>by
   have ih:=rZ n (hs.erase (n:Int)) (nd.erase _) fun h hh=>by
    have h1:=(nd.mem_erase_iff).mp hh;have h2:=hr h h1.2;have:=h1.1;omega
   by_cases m:(n:Int)∈hs
   ·rw [List.length_erase_of_mem m] at ih;omega
   ·rw [List.erase_of_not_mem m] at ih;omega
theorem Nv {hs:List Int} {h:Int} (nd:hs.Nodup):(hAdd hs h).Nodup:=by
 unfold hAdd
 by_cases m:h∈hs
 ·rw [if_pos m];exact nd
 ·rw [if_neg m]
  rw [List.nodup_append];exact ⟨nd,by simp,fun a ha b hb e=>by simp at hb;subst hb;subst e;exact m ha⟩
theorem tG {hs:List Int} {h x:Int}:x∈hAdd hs h↔x∈hs\/x=h:=by
 unfold hAdd
 by_cases m:h∈hs
 ·rw [if_pos m]
  exact ⟨.inl,fun z=>z.elim id fun e=>e▸m⟩
 ·rw [if_neg m];simp
structure fY (H:Hp) (d:Addr) (g:Int->Int):Prop where
 ex:∃hs:List Int,H d=some (.dK (qb hs g))/\hs.Nodup/\(∀h∈hs,0<=h/\h<8) /\ ∀h,h∉hs->g h=0
 nn:∀h,0<=g h
theorem fY.get {H:Hp} {d:Addr} {g:Int->Int} (k:fY H d g):∃kvs,H d=some (.dK kvs)/\kvs.length<=8 /\ ∀h:Int,(cZ kvs (Sum.inl h)).getD (.int 0) = .int (g h):=by
 obtain ⟨hs,e,nd,r,z⟩:=k.ex;refine ⟨_,e,by rw [qb,List.length_map];exact rZ 8 hs nd r,fun h=> ?_⟩;rw [wH]
 by_cases m:h∈hs
 ·rw [if_pos m];rfl
 ·rw [if_neg m,z h m];rfl
theorem fY.put {H:Hp} {d:Addr} {g:Int->Int} {h v:Int} (k:fY H d g) (h0:0<=h) (h1:h<8) (v0:0<=v):∃kvs,H d=some (.dK kvs)/\kvs.length<sizeLine /\ ∀H',H' d=some (.dK (putK kvs (Sum.inl h) (.int v)))->fY H' d (yZ g h v):=by
 obtain ⟨hs,e,nd,r,z⟩:=k.ex;refine ⟨_,e, ?_,fun H' e'=>⟨⟨hAdd hs h,by rw [e',Nf],Nv nd,fun x hx=> ?_,fun x hx=> ?_⟩,fun x=> ?_⟩⟩
 ·have:=rZ 8 hs nd r
  rw [qb,List.length_map,sizeLine_eq];omega
 ·rcases tG.mp hx with hx|rfl
  ·exact r x hx
  ·exact ⟨h0,h1⟩
 ·have n1:x∉hs:=fun z=>hx (tG.mpr (.inl z))
  have n2:x≠h:=fun z=>hx (tG.mpr (.inr z));unfold yZ;rw [if_neg n2];exact z x n1
 ·unfold yZ
  split
  ·exact v0
  ·exact k.nn x
theorem fY.kp {H H':Hp} {d r:Addr} {g:Int->Int} (k:fY H d g) (kp:Kp r H H') (n:d≠r):fY H' d g:=by
 obtain ⟨hs,e,q⟩:=k.ex;exact ⟨⟨hs,kp _ _ e n,q⟩,k.nn⟩
theorem fY.same {H H':Hp} {d:Addr} {g:Int->Int} (k:fY H d g) (s:Same H H'):fY H' d g:=by
 obtain ⟨hs,e,q⟩:=k.ex;exact ⟨⟨hs,s _ _ e,q⟩,k.nn⟩
theorem fY.ext {H:Hp} {d:Addr} {g g':Int->Int} (k:fY H d g) (e:∀h,g h=g' h):fY H d g':=by
 have:g=g':=funext e;rw [←this];exact k
end L2
set_option Elab.async false
set_option linter.all false
set_option maxRecDepth 100000
set_option maxHeartbeats 4000000
namespace L2
open PySem PySem.Spec PyProof.Rows
def Ld (hi:Int) (n:Nat):It:=⟨fun i _=>i<n,fun i H x H'=>H'=H/\x = .int (hi - i),fun i _=>n<=i⟩
theorem xW {P:Program} {w:World} {K:PySem.W.Frag} {tg:Expr} (it:Addr) (hi:Int) (n:Nat):Turn P w K tg (Ld hi n) [it] it (fun i h=>IsRangeIter h it (hi+(i:Nat)*(-1)) ((n:Int) - (i:Nat)) (-1)) where
 mem:=by simp
 obj:=fun i h st b hb=>by
  have e:b=it:=by simpa using hb
  subst e
  exact ⟨_,st,fun v z=>by
   have z':Data.fields _=Data.cell v:=z;cases z'⟩
 keep:=fun i h h' st k=>k it (by simp) _ st
 item:=by
  intro X hP hw hK hc i pins s σ H E I hf st hg;subst hP hw hK;obtain ⟨f0,f1,f2,f3,f4,f5⟩:=hf it (by simp);have W:=Walks.range (prog:=X.prog) (w:=X.w) (I.ok.hd hc) it hi (-1) n;refine W.item i s _ _ hg st fun v h' tk hv st' kk=> ?_;obtain ⟨t,rfl⟩:=hv;have I1:Inv X pins σ H {s with heap:=h',toks:=tk}:=I.turned (fun b o hb e=>kk b o (by simpa using hb) e) f0 f1 f3 f4 f5;refine ⟨_,rfl,vd (s:={s with heap:=h',toks:=tk}) (n:= "range_iterator") st' rfl rfl (by decide) ⟨.int (hi - i),H,I1,⟨t, ?_⟩,⟨rfl,rfl⟩,st',fun b hb=>(hf b hb).1⟩⟩;congr 1;omega
 done:=by
  intro X hP hw hK hc i pins s σ H E I hf st hg;subst hP hw hK;obtain ⟨f0,f1,f2,f3,f4,f5⟩:=hf it (by simp);exact wpAny_pyNext_range_end (I.ok.hd hc) st (by have:n<=i:=hg;omega) fun h' eb=>⟨rfl,I.turned (t':=s.toks) (fun b o hb e=>eb b o hb e) f0 f1 f3 f4 f5⟩
 self:=fun _ _ _ _ _ st h=>wpAny_pyIter_rangeiter st h
section
variable {X:Cx} {tg:Expr}
theorem OD (a b:Int):Builtin.Range.rangeSize a b (-1)=if a>b then a - b else 0:=by
 unfold Builtin.Range.rangeSize;rw [if_neg (by decide)];split
 ·simp
 ·rfl
theorem Fj {a b:Int} (h1: -(2 ^ 61)<=a) (h2:a<2 ^ 61) (h3: -(2 ^ 61)<=b) (h4:b<2 ^ 61):Builtin.Range.small a b (-1)=true:=by
 unfold Builtin.Range.small;rw [OD]
 have fits:∀z:Int, -(2 ^ 63)<=z->z<2 ^ 63->Builtin.Range.rangeFitsLong z=true:=fun z l1 l2=>by
  unfold Builtin.Range.rangeFitsLong;rw [decide_eq_true l1,decide_eq_true l2];rfl
 have f1:=fits (if a>b then a - b else 0) (by split<;>omega) (by split<;>omega);have f2:=fits (b+(-1+1)) (by omega) (by omega);simp only [fits a (by omega) (by omega),fits b (by omega) (by omega),fits (-1) (by decide) (by decide),f1,f2,Bool.and_self,Bool.true_and,show ¬((-1:Int)>0) by decide,if_false,Bool.or_true]
def VH (ta:TA):TI:=fun σ H R=>ta σ H fun vs H1=>∃i j:Int,vs=[.int i,.int j,.int (-1)]/\(-(2 ^ 61)<=i/\i<2 ^ 61 /\ -(2 ^ 61)<=j/\j<2 ^ 61)/\R (Ld i (i - j).toNat) H1
theorem Fy {a b c:Expr} {ta:TA} {p pos:Pos} (hg:Gl X "range") (hm:X.mg "range" = none) (ha:PA X [a,b,c] ta) (hs:starEach [a,b,c] X.env=[(false,eval a X.env),(false,eval b X.env),(false,eval c X.env)]:=by rfl) (hs2:starEach [b,c] X.env=[(false,eval b X.env),(false,eval c X.env)]:=by rfl):
 PI X tg (.Call (.Name "range" p) [a,b,c] [] pos) (VH ta):=by
 intro pins s σ H R I h;refine Call_ (m6 I hg hm boot_range (PyProof.Rows.callWith_type1 (cM (ha pos pins s σ H _ I h) fun us s1 ⟨vs,H1,I1,r1,q1⟩=> ?_) (by rw [hs,hs2]) (by rw [hs2];rfl)));obtain ⟨i,j,e,⟨q1,q2,q3,q4⟩,q⟩:=q1;subst e;cases r1 with
 | cons r rr=>
   cases rr with
   | cons r' rr=>
     cases rr with
     | cons r'' rr=>
       cases rr;obtain ⟨t,rfl⟩:=r;obtain ⟨t',rfl⟩:=r';obtain ⟨t'',rfl⟩:=r'';refine call_range_3 (by decide) ?_ (.inl (PyProof.noPylong_small (by decide)));refine wpAny_pyIter_range (IsRange.new ..) (Fj q1 q2 q3 q4) ?_;have I2:Inv X pins σ H1 {s1 with heap:=s1.heap.push {cls:= .type "range",data:= .fields #[.int i t,.int j t',.int (-1) t'']}}:=I1.kept (t':=s1.toks) fun b o e=>Heap.get?_push_of_some _ e
       refine ⟨(s1.heap.push {cls:= .type "range",data:= .fields #[.int i t,.int j t',.int (-1) t'']}).objs.size,[(s1.heap.push {cls:= .type "range",data:= .fields #[.int i t,.int j t',.int (-1) t'']}).objs.size],_,_,H1,rfl,
        I2.kept (t':=s1.toks) fun b o e=>Heap.get?_push_of_some _ e,xW _ i (i - j).toNat, ?_,fun b hb=> ?_,q⟩
       ·have e1:i+((0:Nat):Int)*(-1)=i:=by simp
        have e2:(((i - j).toNat:Nat):Int) - ((0:Nat):Int)=Builtin.Range.rangeSize i j (-1):=by rw [OD];split<;>omega
        show IsRangeIter _ _ (i+((0:Nat):Int)*(-1)) ((((i - j).toNat:Nat):Int) - ((0:Nat):Int)) (-1);rw [e1,e2];exact Heap.get?_push_size _ rfl
       ·have e:b=(s1.heap.push {cls:= .type "range",data:= .fields #[.int i t,.int j t',.int (-1) t'']}).objs.size:=by simpa using hb
        subst e;exact I2.nY (Nat.le_refl _) (I2.hok.fresh (Nat.le_refl _))
theorem BL {hi:Int} {n:Nat} {g:TG} {tb:TS} {D:Ends} {σ:St} {H:Hp} (Pv:Nat->St->Hp->Prop) (h0:Pv 0 σ H)
 (hs:∀i σ H,i<n->Pv i σ H->g (.int (hi - i)) σ H fun σ2 H2=>tb {D with nx:=Pv (i+1),ct:=Pv (i+1),bk:=D.nx} σ2 H2) (hd:∀σ H,Pv n σ H->D.nx σ H):
 ∃W:Nat->Nat->St->Hp->Prop,(∃m,W 0 m σ H) /\ ∀i m σ H,W i m σ H ->
  ((Ld hi n).stop i H/\D.nx σ H)\/((Ld hi n).go i H /\ ∃N:St->Hp->Prop,(∀σ' H',N σ' H' -> ∃m',m'<m/\W (i+1) m' σ' H') /\ ∀x H',(Ld hi n).Ox i H x H'->g x σ H' fun σ2 H2=>tb {D with nx:=N,ct:=N,bk:=D.nx} σ2 H2):=by
 refine ⟨fun i m σ H=>m=n - i/\i<=n/\Pv i σ H,⟨n,by simp,Nat.zero_le _,h0⟩, ?_⟩;rintro i m σ H ⟨rfl,hi',p⟩
 by_cases hlt:i<n
 ·refine .inr ⟨hlt,Pv (i+1),fun σ' H' p'=>⟨n - (i+1),by omega,rfl,hlt,p'⟩,fun x H' y=> ?_⟩
  obtain ⟨e,y⟩:=y;subst e y;exact hs i σ _ hlt p
 ·have e:i=n:=by omega
  subst e;exact .inl ⟨Nat.le_refl _,hd σ H p⟩
end
end L2
set_option Elab.async false
set_option linter.all false
set_option maxRecDepth 100000
set_option maxHeartbeats 4000000
namespace L2
open PySem PySem.Spec PyProof.Rows
section
variable {X:Cx} {tg:Expr}
end
end L2
set_option Elab.async false
set_option linter.all false
set_option maxRecDepth 100000
set_option maxHeartbeats 4000000
namespace L2
open PySem PySem.Spec PyProof.Rows
section
variable {X:Cx}
end
end L2
set_option Elab.async false
set_option linter.all false
set_option maxRecDepth 100000
set_option maxHeartbeats 4000000
namespace L2
open PySem PySem.Spec PyProof.Rows
section
variable {H H':Hp}
mutual
theorem Dat.same (k:Same H H'):∀(d:PyData) {v:V},Dat H v d->Dat H' v d
 | .none,_,h=>by simp only [Dat] at h ⊢;exact h
 | .bool _,_,h=>by simp only [Dat] at h ⊢;exact h
 | .int _,_,h=>by simp only [Dat] at h ⊢;exact h
 | .str _,_,h=>by simp only [Dat] at h ⊢;exact h
 | .list ds,_,h=>by simp only [Dat] at h ⊢;obtain ⟨a,vs,e,q,r⟩:=h;exact ⟨a,vs,e,k _ _ q,aD.same k ds r⟩
 | .tuple ds,_,h=>by simp only [Dat] at h ⊢;obtain ⟨a,vs,e,q,r⟩:=h;exact ⟨a,vs,e,k _ _ q,aD.same k ds r⟩
 | .dict _,_,h=>by simp only [Dat] at h
theorem aD.same (k:Same H H'):∀(ds:List PyData) {vs:List V},aD H vs ds->aD H' vs ds
 | [],[],_=>by simp only [aD]
 | d::ds,v::vs,h=>by simp only [aD] at h ⊢;exact ⟨Dat.same k d h.1,aD.same k ds h.2⟩
 | _::_,[],h=>by simp only [aD] at h
 | [],_::_,h=>by simp only [aD] at h
end
end
section
variable {X:Cx} {K:PySem.W.Frag}
end
section
variable {K:PySem.W.Frag} {a D:Addr} {xs:List V} {tc:TT} {te:TE} {Q:VK} {rest:St} {H1:Hp}
theorem qY {f:Nat->Option PyData} (hf:∀i d,f i=some d->Bu d=true):∀l:List Nat,uJ (l.filterMap f)=true
 | []=>rfl
 | i::l=>by
   rw [List.filterMap_cons];cases e:f i with
   | none=>exact qY hf l
   | some d=>simp only [uJ,hf i d e,qY hf l,Bool.and_self]
theorem gC (f:Nat->Option PyData) (hf:∀i d,f i=some d->Bu d=true) (hD:H1 D=none) (hq:bh K H1 a xs) (hx:xs.length<=100000)
 (hs:∀i x H (G:Hp->Prop) (F:VK),xs[i]? = some x->Same H1 H->(∀H',Same H H'->f i=none->G H')->(∀y d H',Same H H'->f i=some d->Dat H' y d->F y H')->tc (some x::rest) H fun b H3=>if b=true then te (some x::rest) H3 F else G H3)
 (hd:∀H vs,Same H1 H->H D=some (.lst vs)->aD H vs ((List.range xs.length).filterMap f)->Q (.ref D) H):mV (Oq K a) (iz 0) tc te Q D (none::rest) H1:=by
 refine lZ (K:=K) (xs:=xs) (fun i σ H=>(∃v,σ=v::rest)/\Same H1 H /\ ∃vs,H D=some (.lst vs)/\aD H vs ((List.range i).filterMap f)) ⟨⟨none,rfl⟩,aC hD,[],ak,by simp [aD]⟩ (fun i σ H _ ⟨_,sm,_⟩=>sm.sqL _ _ hq) ?_ (fun σ H ⟨_,sm,vs,e,d⟩=>hd H vs sm e d);rintro i x σ H hi ⟨⟨v,rfl⟩,sm,vs,e,d⟩;have hil:i<xs.length:=(List.getElem?_eq_some_iff.mp hi).1;have im:=qY hf (List.range i);refine hs i x H _ _ hi sm (fun H3 s3 ef=>⟨⟨_,rfl⟩,sm.trans s3,vs,s3 _ _ e, ?_⟩) (fun y dd H4 s4 ef dy=> ?_)
 ·rw [dg,ef]
  simpa using aD.keep s3.tups _ im d
 ·have hl:vs.length<=i:=by rw [d.length];exact nj f i
  have kp:Kp D H4 (upd H4 D (.lst (vs++[y]))):=Kp.set;have tp:=kp.tups (s4 _ _ e);refine ⟨vs,s4 _ _ e, ?_,⟨_,rfl⟩,(sm.trans s4).newly hD,vs++[y],ak, ?_⟩
  ·rw [sizeLine_eq];omega
  ·rw [dg,ef]
   exact pJ (aD.keep (fun a xs h=>tp _ _ (s4.tups _ _ h)) _ im d) (Dat.keep tp _ (hf i dd ef) dy)
end
section
variable {X:Cx}
end
end L2
set_option Elab.async false
set_option linter.all false
set_option maxRecDepth 100000
set_option maxHeartbeats 4000000
namespace L2
open PySem
section
variable {K:PySem.W.Frag} {a D:Addr} {xs:List V} {tc:TT} {te:TE} {Q:VK} {rest:St} {H1:Hp}
end
end L2
set_option Elab.async false
set_option linter.all false
set_option maxRecDepth 100000
set_option maxHeartbeats 4000000
namespace L2
open PySem PySem.Spec PyProof.Rows
section
variable {X:Cx} {K:PySem.W.Frag} {e st:Expr} {te tk:TE} {pos p2:Pos}
end
end L2
set_option Elab.async false
set_option linter.all false
set_option maxRecDepth 100000
set_option maxHeartbeats 4000000
namespace L2
open PySem PySem.Spec PyProof.Rows
section
variable {H:Hp}
mutual
theorem Dat.fn:∀(d e:PyData) {v:V},Dat H v d->Dat H v e->d=e
 | .none,e,v,h,g=>by cases e<;>simp only [Dat] at h g<;>first |rfl|(subst h;first |(obtain ⟨_,_,z,_⟩:=g;cases z;done)|(cases g;done))
 | .bool _,e,v,h,g=>by cases e<;>simp only [Dat] at h g<;>first |(subst h;first |(injection g with g;rw [g];done)|(obtain ⟨_,_,z,_⟩:=g;cases z;done)|(cases g;done))
 | .int _,e,v,h,g=>by cases e<;>simp only [Dat] at h g<;>first |(subst h;first |(injection g with g;rw [g];done)|(obtain ⟨_,_,z,_⟩:=g;cases z;done)|(cases g;done))
 | .str _,e,v,h,g=>by cases e<;>simp only [Dat] at h g<;>first |(subst h;first |(injection g with g;rw [g];done)|(obtain ⟨_,_,z,_⟩:=g;cases z;done)|(cases g;done))
 | .list ds,.list es,v,h,g=>by
   simp only [Dat] at h g;obtain ⟨a,vs,rfl,ha,da⟩:=h;obtain ⟨b,ws,e,hb,db⟩:=g;injection e with e
   subst e;rw [ha] at hb;injection hb with hb
   injection hb with hb
   subst hb;rw [aD.fn ds es da db]
 | .tuple ds,.tuple es,v,h,g=>by
   simp only [Dat] at h g;obtain ⟨a,vs,rfl,ha,da⟩:=h;obtain ⟨b,ws,e,hb,db⟩:=g;injection e with e
   subst e;rw [ha] at hb;injection hb with hb
   injection hb with hb
   subst hb;rw [aD.fn ds es da db]
 | .list ds,.tuple es,v,h,g=>by
   simp only [Dat] at h g;obtain ⟨a,vs,rfl,ha,da⟩:=h;obtain ⟨b,ws,e,hb,db⟩:=g;injection e with e
   subst e;rw [ha] at hb;injection hb with hb
   cases hb
 | .tuple ds,.list es,v,h,g=>by
   simp only [Dat] at h g;obtain ⟨a,vs,rfl,ha,da⟩:=h;obtain ⟨b,ws,e,hb,db⟩:=g;injection e with e
   subst e;rw [ha] at hb;injection hb with hb
   cases hb
 | .list ds,.none,v,h,g=>by simp only [Dat] at h g;obtain ⟨a,vs,rfl,_⟩:=h;cases g
 | .list ds,.bool _,v,h,g=>by simp only [Dat] at h g;obtain ⟨a,vs,rfl,_⟩:=h;cases g
 | .list ds,.int _,v,h,g=>by simp only [Dat] at h g;obtain ⟨a,vs,rfl,_⟩:=h;cases g
 | .list ds,.str _,v,h,g=>by simp only [Dat] at h g;obtain ⟨a,vs,rfl,_⟩:=h;cases g
 | .tuple ds,.none,v,h,g=>by simp only [Dat] at h g;obtain ⟨a,vs,rfl,_⟩:=h;cases g
 | .tuple ds,.bool _,v,h,g=>by simp only [Dat] at h g;obtain ⟨a,vs,rfl,_⟩:=h;cases g
 | .tuple ds,.int _,v,h,g=>by simp only [Dat] at h g;obtain ⟨a,vs,rfl,_⟩:=h;cases g
 | .tuple ds,.str _,v,h,g=>by simp only [Dat] at h g;obtain ⟨a,vs,rfl,_⟩:=h;cases g
 | .list ds,.dict _,v,h,g=>by simp only [Dat] at g
 | .tuple ds,.dict _,v,h,g=>by simp only [Dat] at g
 | .dict _,_,v,h,g=>by simp only [Dat] at h
theorem aD.fn:∀(ds es:List PyData) {vs:List V},aD H vs ds->aD H vs es->ds=es
 | [],[],_,_,_=>rfl
 | d::ds,e::es,v::vs,h,g=>by
   simp only [aD] at h g;rw [Dat.fn d e h.1 g.1,aD.fn ds es h.2 g.2]
 | [],_::_,[],_,g=>by simp only [aD] at g
 | [],_::_,_::_,h,_=>by simp only [aD] at h
 | _::_,[],[],h,_=>by simp only [aD] at h
 | _::_,[],_::_,_,g=>by simp only [aD] at g
 | _::_,_::_,[],h,_=>by simp only [aD] at h
end
end
section
variable {X:Cx}
end
end L2
set_option Elab.async false
set_option linter.all false
set_option maxRecDepth 100000
set_option maxHeartbeats 4000000
namespace L2
open PySem PySem.Spec PyProof.Rows
section
variable {X:Cx} {K:PySem.W.Frag} {e e1 e2 l:Expr} {te t1 t2 tl:TE} {pos:Pos} {tg:Expr}
end
section
variable {X:Cx}
end
end L2
set_option Elab.async false
set_option linter.all false
set_option maxRecDepth 100000
set_option maxHeartbeats 4000000
namespace L2
open PySem PySem.Spec PyProof.Rows PySem.Builtin PySem.Builtin.Str
section
variable {X:Cx} {K:PySem.W.Frag}
end
section
variable {K:PySem.W.Frag} {D:Addr} {tc:TT} {te:TE} {Q:VK} {rest:St} {H1:Hp}
end
section
variable {X:Cx}
end
end L2
set_option Elab.async false
set_option linter.all false
set_option maxRecDepth 100000
set_option maxHeartbeats 4000000
namespace L2
open PySem PySem.Spec PyProof.Rows PySem.Builtin PySem.Builtin.Str
end L2
set_option Elab.async false
set_option linter.all false
set_option maxRecDepth 100000
set_option maxHeartbeats 4000000
namespace L2
open PySem PySem.Spec PyProof.Rows
section
variable (P:Program) (w:World) (K:PySem.W.Frag) (mg:Str->Option Value) (base:Heap)
end
section
variable {P:Program} {w:World} {K:PySem.W.Frag} {mg:Str->Option Value} {base:Heap} {k:Nat} {C:Addr} {m x:Str} {ps:List Str} {sp:Sp} {Ln:List V}
end
section
variable {X:Cx} {k:Nat} {C:Addr} {x m:Str} {ps:List Str} {sp:Sp} {Ln:List V} {e o:Expr} {es:List Expr} {ta:TE} {t:TA} {p pos apos:Pos} {E:St->XK}
end
end L2
namespace L2
open PySem PySem.Spec PyProof.Rows PySem.Builtin PySem.Builtin.Str
section
variable {X:Cx} {K:PySem.W.Frag} {o e value:Expr} {f:Str} {pos pos' tpos:Pos} {ta tv:TE}
end
section
variable {P:Program} {w:World} {K:PySem.W.Frag} {mg:Str->Option Value} {base:Heap}
end
section
variable {X:Cx} {k:Nat} {C:Addr} {x kn:Str} {ps:List Str} {sp:Sp} {e ke:Expr} {es:List Expr} {te:TE} {t:TA} {p pos kpos:Pos} {E:St->XK}
end
end L2
set_option Elab.async false
set_option linter.all false
set_option maxRecDepth 100000
set_option maxHeartbeats 4000000
namespace L2
open PySem PySem.Spec PyProof.Rows
theorem yG {xc:Str}:∀(pre post:List (Str×NameKind)) (n:Nat) (acc:List (Str×Addr)) (h:Heap),(∀y∈pre++post,y.2 ≠ .cell) ->
 cellsFrom n (pre++(xc,.cell)::post) acc=(xc,n)::acc/\pushCells h (pre++(xc,.cell)::post)=h.push {cls:= .type "cell",data:= .cell none}
 | (m,k)::pre,post,n,acc,h,hn=>by
   have hk:(k==NameKind.cell)=false:=by simpa using hn (m,k) (by simp)
   have ih:=yG (xc:=xc) pre post n acc h fun y hy=>hn y (by simp only [List.cons_append,List.mem_cons];exact .inr hy);rw [List.cons_append];unfold cellsFrom pushCells;simp only [hk,Bool.false_eq_true,if_false];exact ih
 | [],post,n,acc,h,hn=>by
   have Ga:∀(post:List (Str×NameKind)) (n:Nat) (acc:List (Str×Addr)) (h:Heap),(∀y∈post,y.2 ≠ .cell)->cellsFrom n post acc=acc/\pushCells h post=h:=by
    intro post
    induction post with
    | nil=>intro n acc h _;exact ⟨rfl,rfl⟩
    | cons y r ih=>
      intro n acc h hh;obtain ⟨m,k⟩:=y;have hk:(k==NameKind.cell)=false:=by simpa using hh (m,k) (by simp)
      unfold cellsFrom pushCells;simp only [hk,Bool.false_eq_true,if_false];exact ih n acc h fun y hy=>hh y (List.mem_cons_of_mem _ hy)
   rw [List.nil_append];unfold cellsFrom pushCells;simp only [beq_self_eq_true,if_true];exact Ga post (n+1) ((xc,n)::acc) _ fun y hy=>hn y (by simpa using hy)
structure bF (N own:List Str) (caps:List Nat) (XN:List Str) (outer scope:Scope) (xc:Str):Prop where
 kind:scope.kind = .function
 one:∃pre post,scope.names=pre++(xc,.cell)::post /\ ∀y∈pre++post,y.2 ≠ .cell
 xcl:scope.names.lookup xc=some .cell
 nof:(xc,NameKind.free)∉scope.names
 names:∀y∈scope.names,y.2 = .local->scope.names.lookup y.1=some .local
 free:∀y∈scope.names,y.2 = .free->outer.names.lookup y.1=some .cell\/outer.names.lookup y.1=some .free
 nd:N.Nodup
 len:N.length=own.length+caps.length
 cap:∀(j:Nat),j<caps.length->N[own.length+j]? = XN[caps.getD j 0]? /\ ∃x,N[own.length+j]? = some x/\(x,NameKind.free)∈scope.names/\scope.names.lookup x=some .free
def dh (X:Cx) (scope:Scope) (xc:Str) (C:Addr) (N:List Str) (s:Shared) (H:Hp) (fp:List Addr):Cx:=
 {X with N:=N,s₀:=s,H₀:=H,env:=compEnvC scope ((xc,Nat.succ C)::je X.env scope.names []) C X.env,outer:=X.stack,ex:=fp,fn:=fun y=>decide (y=xc),pn:=[],xe:=fun _ _=>False}
section
variable {X:Cx} {pins:List (Addr×Obj)} {σ:St} {H:Hp} {s:Shared} {scope:Scope} {N own:List Str} {caps:List Nat} {fp:List Addr} {C:Nat} {xc:Str}
theorem bF.tR (S:bF N own caps X.N X.env.scope scope xc) (ok:X.Ok):∀y∈scope.names,y.2 = .free->(X.env.cells.lookup y.1).isSome=true:=fun y hy hf=>by
 obtain ⟨c,e⟩:=ok.has y.1 (S.free y hy hf);rw [e];rfl
theorem bF.csub (S:bF N own caps X.N X.env.scope scope xc) (ok:X.Ok) {x:Str} {c:Addr} (h:(je X.env scope.names []).lookup x=some c):X.env.cells.lookup x=some c:=by
 rw [dD _ _ _ (S.tR ok)] at h;split at h
 ·exact h
 ·simp at h
theorem bF.look (S:bF N own caps X.N X.env.scope scope xc) (ok:X.Ok) {x:Str} {c:Addr} (h:((xc,Nat.succ C)::je X.env scope.names []).lookup x=some c):(x=xc/\c=Nat.succ C)\/(x≠xc/\X.env.cells.lookup x=some c):=by
 rw [List.lookup_cons] at h;cases q:x==xc with
 | true=>rw [q] at h;exact .inl ⟨by simpa using q,(Option.some.inj h).symm⟩
 | false=>rw [q] at h;exact .inr ⟨by simpa using q,S.csub ok h⟩
theorem bF.Ws (S:bF N own caps X.N X.env.scope scope xc) {x:Str} (h:(x,NameKind.cell)∈scope.names):x=xc:=by
 obtain ⟨pre,post,e,no⟩:=S.one;rw [e] at h;rcases List.mem_append.mp h with h|h
 ·exact absurd rfl (no _ (List.mem_append_left _ h))
 ·rcases List.mem_cons.mp h with h|h
  ·exact congrArg Prod.fst h
  ·exact absurd rfl (no _ (List.mem_append_right _ h))
theorem bF.sH {S:bF N own caps X.N X.env.scope scope xc} {x:Str} (h:(relabel scope X.env).names.lookup x=some .cell\/(relabel scope X.env).names.lookup x=some .free):x=xc\/(x,NameKind.free)∈scope.names:=by
 have e:=d7 X.env scope.names x;have e':(relabel scope X.env).names.lookup x=(scope.names.lookup x).map fun k=>if (k == .free&&X.env.scope.kind == .function&&X.env.kindOf x==some .cell)=true then NameKind.cell else k:=e;rw [e'] at h;cases q:scope.names.lookup x with
 | none=>rw [q] at h;simp at h
 | some k=>
   have hm:=PySem.mem_of_lookup q
   by_cases hk:k = .free
   ·subst hk;exact .inr hm
   ·rw [q] at h
    have hb:(k==NameKind.free)=false:=by simpa using hk
    simp only [Option.map_some,hb,Bool.false_and,Bool.false_eq_true,if_false] at h;rcases h with h|h
    ·have hc:=Option.some.inj h
     subst hc;exact .inl (S.Ws hm)
    ·exact absurd (Option.some.inj h) hk
theorem Inv.Wr {h1:Heap} {D:Nat} (I:Inv X pins σ H s) (S:bF N own caps X.N X.env.scope scope xc) (hfp:∀b∈fp,fO X pins H b) (hfo:∀b∈fp,∃o,s.heap.get? b=some o)
 (hD:D=s.heap.objs.size) (hC:C=s.heap.objs.size+1) (old:∀b o,s.heap.get? b=some o->h1.get? b=some o) (hns:h1.Ns C (fun _=>none)) (hl:h1.get? D=some {cls:= .type "list",data:= .seq #[]}) (hce:h1.IsCell (Nat.succ C) none) {t:Nat}:
 Inv (dh X scope xc C N s H fp) [] (st0 own caps σ) (upd H D (.lst [])) {s with heap:=h1,toks:=t}:=by
 have some':=S.tR I.ok;have look:∀{x c},((xc,Nat.succ C)::je X.env scope.names []).lookup x=some c->(x=xc/\c=Nat.succ C)\/(x≠xc/\X.env.cells.lookup x=some c):=fun h=>S.look I.ok h;have freshD:H D=none:=I.hok.fresh (by rw [hD];exact Nat.le_refl _);have BJ:H C=none:=I.hok.fresh (by rw [hC];exact Nat.le_succ _);have Sg:H (Nat.succ C)=none:=I.hok.fresh (by show s.heap.objs.size<=Nat.succ C;omega)
 have tW:∀x c,X.env.cells.lookup x=some c->c<s.heap.objs.size:=fun x c e=>by
  obtain ⟨v,z⟩:=I.cell x c e;exact z.lt
 have NQ:∀b∈fp,b<s.heap.objs.size:=fun b hb=>by
  obtain ⟨o,e⟩:=hfo b hb;exact Heap.lt_size e
 have DC:D≠C:=by omega
 refine ⟨⟨I.ok.mod,S.kind,I.ok.glob,I.ok.blt,by show s.heap.objs.size<=C;omega,fun x y c e1 e2=> ?inj,fun x h=> ?_,fun x c h e=> ?cab,I.ok.hd,I.ok.frames,Or.inl rfl,fun b hb=>⟨?_,fun x c e=> ?_⟩,I.bs,Nat.le_trans I.ok.KJ I.sz,fun b o e hb=> ?_,fun b hb z=> ?_,I.stack,I.vV⟩,
  rfl,I.bare,Un.laid old (by show s.heap.objs.size<=D;omega) freshD,⟨_,hns,fun j x v e1 e2 e3=> ?_⟩,fun x c e=> ?_, ?_,fun x c e=> ?_,fun p hp=> ?_,I.hok.laid old (by omega) ?_, ?_⟩
 case inj=>
  rcases look e1 with ⟨a1,a2⟩|⟨a1,a2⟩
  ·rcases look e2 with ⟨b1,b2⟩|⟨b1,b2⟩
   ·exact a1.trans b1.symm
   ·have:=jo (tW y c b2);omega
  ·rcases look e2 with ⟨b1,b2⟩|⟨b1,b2⟩
   ·have:=jo (tW x c a2);omega
   ·exact I.ok.inj x y c a2 b2
 case cab=>
  rcases look e with ⟨a1,a2⟩|⟨a1,a2⟩
  ·show s.heap.objs.size<=c;omega
  ·exact absurd (of_decide_eq_true h) a1
 ·show ∃c,((xc,Nat.succ C)::je X.env scope.names []).lookup x=some c
  by_cases ex:x=xc
  ·subst ex;exact ⟨Nat.succ C,by simp [List.lookup_cons]⟩
  ·have hm:=(bF.sH (S:=S) (X:=X) h).resolve_left ex
   obtain ⟨c,e⟩:=Option.isSome_iff_exists.mp (some' _ hm rfl);have q:(x==xc)=false:=by simpa using ex
   exact ⟨c,by rw [List.lookup_cons,q,dD _ _ _ some',if_pos hm];exact e⟩
 ·exact Nat.ne_of_lt (show @LT.lt Nat _ b C by have:=jo (NQ b hb);omega)
 ·rcases look e with ⟨a1,a2⟩|⟨a1,a2⟩
  ·have:=jo (NQ b hb)
   subst a2;exact Nat.ne_of_gt (show @LT.lt Nat _ b (Nat.succ C) by omega)
  ·exact (hfp b hb).2.2.2.2.1 x c a2
 ·rcases (hfp b hb).2.2.2.1 with z|z
  ·exact I.ok.Gb b o e z
  ·exact absurd (Nat.lt_of_lt_of_le (Heap.lt_size e) (Nat.le_trans I.ok.KJ z)) (Nat.lt_irrefl _)
 ·rcases List.mem_cons.mp (I.oK b z) with q|q
  ·exact (hfp b hb).2.1 q
  ·exact (hfp b hb).2.2.1 q
 ·have e1:N[j]? = some x:=e1
  have hj:own.length<=j:=by
   by_cases q:own.length<=j
   ·exact q
   ·exfalso
    unfold st0 at e2;rw [List.getElem?_append_left (by simp;omega),List.getElem?_map] at e2;cases r:own[j]? with
    | none=>rw [r] at e2;cases e2
    | some a=>rw [r] at e2;cases e2
  have hjl:j<N.length:=(List.getElem?_eq_some_iff.mp e1).1;have hjc:j - own.length<caps.length:=by have:=S.len;omega
  obtain ⟨c1,x',c2,c3,c4⟩:=S.cap (j - own.length) hjc;rw [show own.length+(j - own.length)=j by omega] at c1 c2;rw [e1] at c2;cases c2
  have e2':(σ[caps.getD (j - own.length) 0]?).join=some v:=by
   unfold st0 at e2;rw [List.getElem?_append_right (by simp;omega),List.getElem?_map,List.length_map] at e2;rw [List.getD_eq_getElem?_getD];cases r:caps[j - own.length]? with
   | none=>rw [r] at e2;cases e2
   | some a=>rw [r] at e2;exact Option.some.inj e2
  have SJ:σ[caps.getD (j - own.length) 0]? = some (some v):=by
   cases r:σ[caps.getD (j - own.length) 0]? with
   | none=>rw [r] at e2';cases e2'
   | some a=>rw [r] at e2';exact congrArg Option.some e2'
  have kx:X.env.kindOf x=some .cell\/X.env.kindOf x=some .free:=S.free _ c3 rfl;obtain ⟨m,hn,hl'⟩:=I.loc;obtain ⟨u,r,l⟩:=hl' _ x v (by rw [←c1];exact e1) SJ (by rcases kx with z|z;exact .inr (.inl z);exact .inr (.inr z));refine ⟨u,r,.inr ⟨?_, ?_⟩⟩
  ·show (relabel scope X.env).names.lookup x=some .cell\/(relabel scope X.env).names.lookup x=some .free
   have e:(relabel scope X.env).names.lookup x=(scope.names.lookup x).map fun k=>if (k == .free&&X.env.scope.kind == .function&&X.env.kindOf x==some .cell)=true then NameKind.cell else k:=d7 X.env scope.names x;rw [e,c4,Option.map_some];split
   ·exact .inl rfl
   ·exact .inr rfl
  ·rcases l with ⟨hk,_⟩|⟨_,c,hc,z⟩
   ·rcases kx with q|q<;>rw [hk] at q<;>cases q
   ·refine ⟨c, ?_, ?_⟩
    ·show ((xc,Nat.succ C)::je X.env scope.names []).lookup x=_
     have nx:x≠xc:=fun z=>S.nof (z▸c3);have q:(x==xc)=false:=by simpa using nx
     rw [List.lookup_cons,q,dD _ _ _ some',if_pos c3];exact hc
    ·obtain ⟨o,ho,hd⟩:=z
     exact ⟨o,old c o ho,hd⟩
 ·rcases look e with ⟨a1,a2⟩|⟨a1,a2⟩
  ·subst a2;exact ⟨none,hce⟩
  ·obtain ⟨v,o,ho,hd⟩:=I.cell x c a2
   exact ⟨v,o,old c o ho,hd⟩
 ·show upd H D (.lst []) C=none
  rw [aJ DC.symm];exact BJ
 ·show upd H D (.lst []) c=none
  rcases look e with ⟨a1,a2⟩|⟨a1,a2⟩
  ·subst a2
   rw [aJ (show Nat.succ C≠D by omega)];exact Sg
  ·rw [aJ (Nat.ne_of_lt (by have:=jo (tW x c a2);omega))];exact I.jF x c a2
 ·cases hp
 ·exact ⟨Nat.zero_le _,[],0,.nil,hl⟩
 ·show (own.map (fun _=>none)++caps.map _).length=N.length
  rw [List.length_append,List.length_map,List.length_map,S.len]
theorem Inv.CJ {jE:List (Addr×Obj)} {σ':St} {H':Hp} {s':Shared} {h':Heap} (I:Inv X pins σ H s) (hfp:∀b∈fp,fO X pins H b) (hC:s.heap.objs.size<=C) (J:Inv (dh X scope xc C N s H fp) jE σ' H' s') (hs:Heap.SameBut C s'.heap h'):
 Inv X pins σ H' {s' with heap:=h'}:=by
 have nC:∀b o,s.heap.get? b=some o->b≠C:=fun b o e=>Nat.ne_of_lt (by have:=jo (Heap.lt_size e);omega);have u:=J.base;have frC:H' C=none:=J.free;refine I.call' (ch:=fp) (s':={s' with heap:=h'}) J.os ⟨fun b o e n hb hx=> ?_,fun b o e n hb hx=> ?_,u.free,fun b o e hx=> ?_,u.tups,u.ni,u.qt⟩ (fun a o e=>(J.hok a o e).stay (fun b v hb q=> ?_) (fun _ q=>q) fun _ _ q=>q) J.bare fun b hb=> ?_
 ·exact (hs.2 b (nC b o e)).trans (u.keep b o e n hb hx)
 ·obtain ⟨sl,q⟩:=u.slot b o e n hb hx
  exact ⟨sl,(hs.2 b (nC b o e)).trans q⟩
 ·obtain ⟨o',q⟩:=u.there b o e hx
  exact ⟨o',(hs.2 b (nC b o e)).trans q⟩
 ·refine (hs.2 b ?_).trans q
  intro z;subst z;rcases hb with z|z
  ·subst z;rw [frC] at e;cases e
  ·rw [frC] at z;cases z
 ·exact ⟨(hfp b hb).2.2.2.1,(hfp b hb).2.1,(hfp b hb).2.2.2.2.1,(hfp b hb).2.2.2.2.2⟩
end
section
variable {M:Model} {A:Around} {E:Value->Shared->Prop} {s:Shared}
theorem Bl {scope:Scope} {globals:Addr} {cl:List (Str×Addr)} {qual:Str} {env:Env} {xc:Str} {Q:Env->Shared->Prop} (one:∃pre post,scope.names=pre++(xc,.cell)::post /\ ∀y∈pre++post,y.2 ≠ .cell)
 (h:Q (newEnv scope s.heap.objs.size globals ((xc,Nat.succ s.heap.objs.size)::cl) qual none .none (some env) builtinsNs) {s with heap:=(s.heap.push {cls:= .type "dict",data:= .dict #[]}).push {cls:= .type "cell",data:= .cell none}}):
 wpAny M A (newFunctionEnv scope globals cl [] qual none .none (some env)) Q E s:=by
 obtain ⟨pre,post,e,no⟩:=one;simp only [newFunctionEnv,Option.isSome_some,if_true];refine wpAny_bind (wpAny_alloc ?_);refine wpAny_bind (wpAny_layCells _ (fun name kind cells=>by cases hkc:kind==NameKind.cell<;>simp [hkc]) _ _ _ _ ?_);rw [e];have sz:(s.heap.push {cls:= .type "dict",data:= .dict #[]}).objs.size=Nat.succ s.heap.objs.size:=Heap.size_push ..;obtain ⟨e1,e2⟩:=yG (xc:=xc) pre post (s.heap.push {cls:= .type "dict",data:= .dict #[]}).objs.size cl (s.heap.push {cls:= .type "dict",data:= .dict #[]}) no;show wpAny M A _ Q E _;dsimp only;rw [e1,e2,sz];rw [List.forIn_nil];exact wpAny_bind (wpAny_pure (wpAny_pure h))
end
section
variable {X:Cx} {elt tg iter:Expr} {ifs:List Expr} {scope:Scope} {pos:Pos} {N own:List Str} {caps:List Nat} {wi:TI} {g:TG} {tc:TT} {te:TE} {xc:Str}
theorem Gw {use:Option (Value->Sem Unit)} {Qv:Value->Shared->Prop} {pins:List (Addr×Obj)} {σ:St} {H:Hp} {s:Shared} {Q:VK} (hc:X.calm=true) (S:bF N own caps X.N X.env.scope scope xc)
 (hg:∀C s H fp,PG (dh X scope xc C N s H fp) tg g) (hcs:∀C s H fp,Tf (dh X scope xc C N s H fp) ifs tc) (he:∀C s H fp,PE (dh X scope xc C N s H fp) elt te)
 (hi:PI X tg iter wi) (hs:∀x,foldedSetIterable iter X.env x=pure x)
 (I:Inv X pins σ H s) (h:xY own caps wi g tc te σ H Q)
 (fin:∀(D C:Addr) (H':Hp) (s':Shared),(∃m,s'.heap.Ns C m)->Inv X pins σ H' s'->(∀h',Heap.SameBut C s'.heap h'->Inv X pins σ H' {s' with heap:=h'})->fO X pins H' C->Q (.ref D) H' ->
   compPost (model X.prog X.w) X.A X.xe use Qv (.ref D) C (.ok .next) s'):
 wpAny (model X.prog X.w) X.A (comprehension (.ListComp elt [⟨tg,iter,ifs,0⟩] scope pos) scope X.env (firstIterPos [⟨tg,iter,ifs,0⟩] pos) (newList []) false (eval iter X.env) use) Qv X.xe s:=by
 refine wpAny_comprehension_free (use:=use) rfl hs (tV (S.tR I.ok)) S.kind S.names (cM (hi pins s σ H _ I h) fun xv s1 h1=>cM h1 fun itv s2 h2=> ?_);obtain ⟨it,fp,tn,J,H2,e,I2,T,st2,f2,q2⟩:=h2;subst e;refine wpAny_newList ?_;refine Bl S.one ?_;have hD:H2 s2.heap.objs.size=none:=I2.hok.fresh (Nat.le_refl _);have hsz:(s2.heap.push {cls:= .type "list",data:= .seq ([]:List Value).toArray}).objs.size=s2.heap.objs.size+1:=Heap.size_push ..;obtain ⟨h1,hh1⟩:∃h1,h1=((s2.heap.push {cls:= .type "list",data:= .seq ([]:List Value).toArray}).push {cls:= .type "dict",data:= .dict #[]}).push {cls:= .type "cell",data:= .cell none}:=⟨_,rfl⟩
 have old:∀b o,s2.heap.get? b=some o->h1.get? b=some o:=fun b o e=>by
  rw [hh1];exact Heap.get?_push_of_some _ (Heap.get?_push_of_some _ (Heap.get?_push_of_some _ e))
 have hl:h1.get? s2.heap.objs.size=some {cls:= .type "list",data:= .seq #[]}:=by
  rw [hh1];exact Heap.get?_push_of_some _ (Heap.get?_push_of_some _ (Heap.get?_push_size _ rfl))
 have Nr:h1.Ns (s2.heap.push {cls:= .type "list",data:= .seq ([]:List Value).toArray}).objs.size (fun _=>none):=by
  rw [hh1];exact (Heap.Ns.new _ (.type "dict")).keeps fun b o e=>Heap.get?_push_of_some _ e
 have hce:h1.IsCell (Nat.succ (s2.heap.push {cls:= .type "list",data:= .seq ([]:List Value).toArray}).objs.size) none:=by
  rw [hh1];refine ⟨{cls:= .type "cell",data:= .cell none}, ?_,rfl⟩;have e:Nat.succ (s2.heap.push {cls:= .type "list",data:= .seq ([]:List Value).toArray}).objs.size=((s2.heap.push {cls:= .type "list",data:= .seq ([]:List Value).toArray}).push {cls:= .type "dict",data:= .dict #[]}).objs.size:=(Heap.size_push ..).symm;rw [e];exact Heap.get?_push_size _ rfl
 rw [←hh1];have hfo:∀b∈fp,∃o,s2.heap.get? b=some o:=fun b hb=>let ⟨o,e,_⟩:=T.obj _ _ st2 b hb;⟨o,e⟩
 have I4:=Inv.Wr (C:=(s2.heap.push {cls:= .type "list",data:= .seq ([]:List Value).toArray}).objs.size) (t:=s2.toks) I2 S f2 hfo rfl hsz old Nr hl hce;obtain ⟨W,⟨m0,w0⟩,turn⟩:=q2 _ hD;generalize hCe:(s2.heap.push {cls:= .type "list",data:= .seq ([]:List Value).toArray}).objs.size=C at *;generalize hDe:s2.heap.objs.size=D at *;have hDC:D≠C:=by omega
 have loop:∀s3:Shared,s3={s2 with heap:=h1} ->
  codeAny (model X.prog X.w) X.A (.compLoop (.ListComp elt [⟨tg,iter,ifs,0⟩] scope pos) 0 (.ref it) (.ref D) (dh X scope xc C N s2 H2 fp).env) (compPost (model X.prog X.w) X.A X.xe use Qv (.ref D) C) s3:=by
  rintro s3 rfl
  have gM:∀b∈fp,(upd H2 D (.lst [])) b=none:=fun b hb=>by
   obtain ⟨o,e⟩:=hfo b hb;rw [aJ (Nat.ne_of_lt (by have:=jo (Heap.lt_size e);omega))];exact (f2 b hb).1
  have stat:∀{H':Hp},(∀b∈fp,H' b=none) -> ∀b∈fp,fO (dh X scope xc C N s2 H2 fp) [] H' b:=fun hn b hb=>by
   obtain ⟨o,e⟩:=hfo b hb;have hlt:=jo (Heap.lt_size e);refine ⟨hn b hb, ?_,fun z=> ?_,.inl hb,fun x c e'=> ?_,fun p hp=>(by cases hp)⟩
   ·exact Nat.ne_of_lt (show @LT.lt Nat _ b C by omega)
   ·rcases List.mem_cons.mp (I2.oK b z) with q|q
    ·exact (f2 b hb).2.1 q
    ·exact (f2 b hb).2.2.1 q
   ·rcases S.look (C:=C) I2.ok e' with ⟨_,a2⟩|⟨_,a2⟩
    ·subst a2
     exact Nat.ne_of_gt (show @LT.lt Nat _ b (Nat.succ C) by omega)
    ·exact (f2 b hb).2.2.2.2.1 x c a2
  refine oE (fun n s'=>∃i σ' H',Inv (dh X scope xc C N s2 H2 fp) [] σ' H' s'/\tn i s'.heap/\(∀b∈fp,H' b=none)/\W i n σ' H') ?_ m0
   ⟨0,_,_,I4,T.keep _ _ _ st2 fun b _ o e=>old b o e,gM,w0⟩
  rintro n s3 ⟨i,σ3,H3,I3,st3,Pk,w3⟩;rcases turn i n σ3 H3 w3 with ⟨stop,qn⟩|⟨go,Nx,hNx,step⟩
  ·refine cM (T.done (dh X scope xc C N s2 H2 fp) rfl rfl rfl hc i [] s3 σ3 H3 _ I3 (stat Pk) st3 stop) fun r s4 ⟨hr,J4⟩=> ?_
   subst hr;obtain ⟨m4,hn4,_⟩:=J4.loc;exact fin D C H3 s4 ⟨m4,hn4⟩ (I2.CJ f2 (by omega) J4 (Heap.SameBut.refl _ _)) (fun h' hs'=>I2.CJ f2 (by omega) J4 hs') (I2.nY (show s2.heap.objs.size<=C by omega) J4.free) qn
  ·refine cM (T.item (dh X scope xc C N s2 H2 fp) rfl rfl rfl hc i [] s3 σ3 H3 _ I3 (stat Pk) st3 go) fun r s4 ⟨u,hr,h4⟩=> ?_
   subst hr;refine cM h4 fun _ s5 ⟨x,H5,I5,r5,y5,ux,Lk⟩=> ?_;have Xm:=I5.pinned (stat Lk) (T.obj _ _ ux);refine cM (hg C s2 H2 fp _ s5 σ3 H5 x u _ Xm r5 (step x H5 y5)) fun _ s6 ⟨σ6,H6,I6,q6⟩=> ?_;refine cM (hcs C s2 H2 fp _ s6 σ6 H6 _ I6 q6) fun ok s7 ⟨H7,I7,q7⟩=> ?_
   have again:∀{σ8:St} {H8:Hp} {s8:Shared},Inv (dh X scope xc C N s2 H2 fp) ([]++o7 fp s5.heap) σ8 H8 s8->Nx σ8 H8 -> ∃m,m<n /\ ∃i σ' H',Inv (dh X scope xc C N s2 H2 fp) [] σ' H' s8/\tn i s8.heap/\(∀b∈fp,H' b=none)/\W i m σ' H':=fun {σ8 H8 s8} I8 n8=>by
    obtain ⟨m',hm,w8⟩:=hNx _ _ n8;refine ⟨m',hm,i+1,σ8,H8,I8.iU,T.keep _ _ _ ux fun b hb o e=>(I8.pin (b,o) (List.mem_append_right _ (List.mem_append_right _ (gB hb e)))).1,fun b hb=> ?_,w8⟩;obtain ⟨o,e,d⟩:=T.obj _ _ ux b hb;exact (I8.pin (b,o) (List.mem_append_right _ (List.mem_append_right _ (gB hb e)))).2.1
   cases ok with
   | false=>
     rw [if_neg (by decide)] at q7;exact again I7 q7
   | true=>
     rw [if_pos rfl] at q7;refine cM (he C s2 H2 fp _ s7 σ6 H7 _ I7 q7) fun y s8 ⟨yv,H8,I8,r8,acc,ha,hlen,q8⟩=> ?_;exact cM (pA _ s8 σ6 H8 (.ref D) [yv] (.ref D) [y] (fun v H9=>Nx σ6 H9) I8 rfl (.cons r8 .nil) ⟨D,acc,yv,rfl,rfl,ha,hlen,q8⟩) fun _ s9 ⟨_,H9,I9,_,q9⟩=>again I9 q9
 exact codeAny_compStart_list (loop _ rfl) (T.self _ 0 _ _ _ (T.keep _ _ _ st2 fun b _ o e=>old b o e) (loop _ rfl))
theorem Iz (hc:X.calm=true) (S:bF N own caps X.N X.env.scope scope xc) (hi:PI X tg iter wi)
 (hg:∀C s H fp,PG (dh X scope xc C N s H fp) tg g) (hcs:∀C s H fp,Tf (dh X scope xc C N s H fp) ifs tc) (he:∀C s H fp,PE (dh X scope xc C N s H fp) elt te)
 (hs:∀x,foldedSetIterable iter X.env x=pure x:=by intro _;rfl):PE X (.ListComp elt [⟨tg,iter,ifs,0⟩] scope pos) (xY own caps wi g tc te):=by
 intro pins s σ H Q I h;rw [eval_ListComp];refine Gw (use:=none) hc S hg hcs he hi hs I h ?_;intro D C H' s' hn I' hk _ q;obtain ⟨m,hn⟩:=hn;exact ⟨m,hn,fun h' hs'=>⟨.ref D,H',hk h' hs',rfl,q⟩⟩
end
def Ej (N own:List Str) (caps:List Nat) (XN:List Str) (outer scope:Scope) (xc:Str):Bool:=
 decide (scope.kind = .function)&&(scope.names.filter fun y=>decide (y.2 = .cell)).length==1&&decide (scope.names.lookup xc=some .cell)&&decide ((xc,NameKind.free)∉scope.names)&&scope.names.all (fun y=>decide (y.2 ≠ .local)||decide (scope.names.lookup y.1=some .local)) &&
 scope.names.all (fun y=>decide (y.2 ≠ .free)||decide (outer.names.lookup y.1=some .cell)||decide (outer.names.lookup y.1=some .free))&&decide N.Nodup&&decide (N.length=own.length+caps.length) &&
 (List.range caps.length).all (fun j=>match N[own.length+j]? with |some x=>decide (XN[caps.getD j 0]? = some x)&&decide ((x,NameKind.free)∈scope.names)&&decide (scope.names.lookup x=some .free)|none=>false)
theorem bF.of {N own:List Str} {caps:List Nat} {XN:List Str} {outer scope:Scope} {xc:Str} (h:Ej N own caps XN outer scope xc=true):bF N own caps XN outer scope xc:=by
 unfold Ej at h;simp only [Bool.and_eq_true,decide_eq_true_eq,List.all_eq_true,Bool.or_eq_true,beq_iff_eq] at h;obtain ⟨⟨⟨⟨⟨⟨⟨⟨h1,h2⟩,h2a⟩,h2b⟩,h3⟩,h4⟩,h5⟩,h6⟩,h7⟩:=h;refine ⟨h1, ?_,h2a,h2b,fun y hy e=> ?_,fun y hy e=> ?_,h5,h6,fun j hj=> ?_⟩
 ·have hm:(xc,NameKind.cell)∈scope.names:=mem_of_lookup h2a
  obtain ⟨pre,post,e⟩:=List.append_of_mem hm;refine ⟨pre,post,e,fun y hy z=> ?_⟩;rw [e,List.filter_append,List.length_append,List.filter_cons] at h2;simp only [decide_true,if_true,List.length_cons] at h2;have l1:(pre.filter fun y=>decide (y.2 = .cell)).length=0:=by omega
  have l2:(post.filter fun y=>decide (y.2 = .cell)).length=0:=by omega
  rcases List.mem_append.mp hy with q|q
  ·have:=List.filter_eq_nil_iff.mp (List.eq_nil_of_length_eq_zero l1) y q
   simp [z] at this
  ·have:=List.filter_eq_nil_iff.mp (List.eq_nil_of_length_eq_zero l2) y q
   simp [z] at this
 ·rcases h3 y hy with z|z
  ·exact absurd e z
  ·exact z
 ·rcases h4 y hy with (z|z)|z
  ·exact absurd e z
  ·exact .inl z
  ·exact .inr z
 ·have q:=h7 j (List.mem_range.mpr hj)
  cases e:N[own.length+j]? with
  | none=>rw [e] at q;cases q
  | some x=>
    rw [e] at q;simp only [Bool.and_eq_true,decide_eq_true_eq] at q;exact ⟨q.1.1.symm,x,rfl,q.1.2,q.2⟩
theorem BR {X:Cx} {scope:Scope} {xc:Str} {C:Addr} {N:List Str} {s:Shared} {H:Hp} {fp:List Addr}:(dh X scope xc C N s H fp).fn xc=true:=decide_eq_true (p:=xc=xc) rfl
end L2
set_option Elab.async false
set_option linter.all false
set_option maxRecDepth 100000
set_option maxHeartbeats 4000000
namespace Tim
open PySem PyProof.Rows
def jt:Bool->Keyed->Array Keyed->Nat->Nat->Nat->StateT SortSt Sem (Option Nat):=sortPriv% PySem.Builtin.gallop
def jZ (left:Bool) (key:Keyed) (arr:Array Keyed) (base i:Nat):StateT SortSt Sem (Option Bool):=do
 let x ←elem' arr (base+i)
 if left then lt' x key else return (←lt' key x).map (!·)
theorem Bw (left:Bool) (key:Keyed) (arr:Array Keyed) (base n hint:Nat):jt left key arr base n hint=(do
 let mut lastofs:=0
 let mut ofs:=1
 let mut lo:=0
 let mut hi:=0
 let some right ←jZ left key arr base hint|return none
 if right then
  let maxofs:=n - hint
  for _ in [0:n] do
   if ofs≥maxofs then break
   let some more ←jZ left key arr base (hint+ofs)|return none
   if !more then break
   lastofs:=ofs
   ofs:=2*ofs+1
  lo:=hint+lastofs+1
  hi:=hint+min ofs maxofs
 else
  let maxofs:=hint+1
  for _ in [0:n] do
   if ofs≥maxofs then break
   let some found ←jZ left key arr base (hint - ofs)|return none
   if found then break
   lastofs:=ofs
   ofs:=2*ofs+1
  lo:=hint+1 - min ofs maxofs
  hi:=hint - lastofs
 for _ in [0:n] do
  if lo≥hi then break
  let m:=lo+(hi - lo) / 2
  let some more ←jZ left key arr base m|return none
  if more then lo:=m+1 else hi:=m
 return some hi):=rfl
section
variable {prog:Program} {w:World} {A:Around} {E:Value->Shared->Prop} {s:Shared} {κ:SortKind} {a₀:Array Keyed} {rk:Value->Nat}
structure z7 (prog:Program) (w:World) (A:Around) (s:Shared) (κ:SortKind) (a₀:Array Keyed) (rk:Value->Nat):Prop where
 ask:∀p∈a₀.toList,∀q∈a₀.toList,∀(E:Value->Shared->Prop) (Q:Bool->Shared->Prop),Q (decide (rk p.1<rk q.1)) s->wpAny (model prog w) A (keyLt' κ p.1 q.1) Q E s
def R (rk:Value->Nat) (xs:Array Keyed) (i:Nat):Nat:=match xs[i]? with
 | some p=>rk p.1
 | none=>0
theorem uq {xs:Array Keyed} {i:Nat} {p:Keyed} (h:xs[i]? = some p):R rk xs i=rk p.1:=by unfold R;rw [h]
theorem fj {xs ys:Array Keyed} {i j:Nat} (h:xs[i]? = ys[j]?):R rk xs i=R rk ys j:=by unfold R;rw [h]
theorem rC {st:SortSt} {p q:Keyed} {Q:Option Bool->SortSt->Prop} (C:z7 prog w A s κ a₀ rk) (hk:kindOf st=κ) (hp:p∈a₀.toList) (hq:q∈a₀.toList) (h:Q (some (decide (rk p.1<rk q.1))) st):
 wpS (model prog w) A E s (lt' p q) Q st:=by
 rw [lt'_eq];refine wpS_bind (wpS_get ?_);rw [hk];refine wpS_bind (wpS_lift (wpAny_attempt (C.ask p hp q hq _ _ ⟨rfl, ?_⟩)));exact wpS_pure h
theorem bB {st:SortSt} {arr:Array Keyed} {i:Nat} {p:Keyed} {Q:Keyed->SortSt->Prop} (hi:arr[i]? = some p) (h:Q p st):wpS (model prog w) A E s (elem' arr i) Q st:=by
 rw [elem'_eq,hi];exact wpS_pure h
def By (left:Bool) (k r:Nat):Bool:=if left then decide (r<k) else !decide (k<r)
theorem jO {st:SortSt} {left:Bool} {key:Keyed} {arr:Array Keyed} {base i:Nat} {Q:Option Bool->SortSt->Prop} (C:z7 prog w A s κ a₀ rk) (hk:kindOf st=κ) (hkey:key∈a₀.toList) (nU:∀p∈arr.toList,p∈a₀.toList)
 (hi:base+i<arr.size) (h:Q (some (By left (rk key.1) (R rk arr (base+i)))) st):wpS (model prog w) A E s (jZ left key arr base i) Q st:=by
 unfold jZ;have e:arr[base+i]? = some arr[base+i]:=getElem?_pos arr (base+i) hi;have hm:arr[base+i]∈a₀.toList:=nU _ (by simp);rw [uq e] at h;refine wpS_bind (bB e ?_);cases left with
 | true=>exact rC C hk hm hkey h
 | false=>exact wpS_bind (rC C hk hkey hm (wpS_pure h))
theorem xH {left:Bool} {k r r':Nat} (h:By left k r=true) (le:r'<=r):By left k r'=true:=by
 unfold By at *;cases left<;>simp at * <;> omega
theorem uw {left:Bool} {k r r':Nat} (h:By left k r=false) (le:r<=r'):By left k r'=false:=by
 unfold By at *;cases left<;>simp at * <;> omega
def Seg (rk:Value->Nat) (xs:Array Keyed) (lo hi:Nat):Prop:=∀i j,lo<=i->i<=j->j<hi->R rk xs i<=R rk xs j
abbrev GSt:=Option (Option Nat)×Nat×Nat
theorem pU {st:SortSt} {left:Bool} {key:Keyed} {arr:Array Keyed} {base n lo hi:Nat} {Q:GSt->SortSt->Prop} (C:z7 prog w A s κ a₀ rk) (hk:kindOf st=κ) (hkey:key∈a₀.toList) (nU:∀p∈arr.toList,p∈a₀.toList)
 (hn:base+n<=arr.size) (hs:Seg rk arr base (base+n)) (hlh:lo<=hi) (hhn:hi<=n)
 (h1:∀i,i<lo->By left (rk key.1) (R rk arr (base+i))=true) (h2:∀i,hi<=i->i<n->By left (rk key.1) (R rk arr (base+i))=false)
 (h:∀k l,k<=n->(∀i,i<k->By left (rk key.1) (R rk arr (base+i))=true)->(∀i,k<=i->i<n->By left (rk key.1) (R rk arr (base+i))=false)->Q (none,l,k) st):
 wpS (model prog w) A E s (forIn [0:n] ((none,lo,hi):GSt) fun _ __s=>
       if __s.snd.fst≥__s.snd.snd then pure (ForInStep.done (none,__s.snd.fst,__s.snd.snd))
       else do
        let __x ←jZ left key arr base (__s.snd.fst+(__s.snd.snd - __s.snd.fst) / 2)
        match __x with
         | some more=>
           if more=true then
            pure (ForInStep.yield (none,__s.snd.fst+(__s.snd.snd - __s.snd.fst) / 2+1,__s.snd.snd))
           else pure (ForInStep.yield (none,__s.snd.fst,__s.snd.fst+(__s.snd.snd - __s.snd.fst) / 2))
         | _=>pure (ForInStep.done (some none,__s.snd.fst,__s.snd.snd))) Q st:=by
 refine wpS_forRange (I:=fun x c st'=>st'=st /\ ∃lo hi,c=(none,lo,hi)/\lo<=hi/\hi<=n/\hi - lo<=n - x/\(∀i,i<lo->By left (rk key.1) (R rk arr (base+i))=true)/\(∀i,hi<=i->i<n->By left (rk key.1) (R rk arr (base+i))=false)) ?step ?fin ⟨rfl,lo,hi,rfl,hlh,hhn,by omega,h1,h2⟩
 case fin=>
  rintro c st' ⟨rfl,lo,hi,rfl,a1,a2,a3,a4,a5⟩;have:lo=hi:=by omega
  subst this;exact h _ _ a2 a4 a5
 case step=>
  rintro x c st' _ hx ⟨rfl,lo,hi,rfl,a1,a2,a3,a4,a5⟩;dsimp only
  by_cases hge:lo≥hi
  ·rw [if_pos hge]
   have:lo=hi:=by omega
   subst this;exact wpS_pure (h _ _ a2 a4 a5)
  ·rw [if_neg hge]
   refine wpS_bind (jO C hk hkey nU (by omega) ?_);dsimp only;cases hb:By left (rk key.1) (R rk arr (base+(lo+(hi - lo) / 2))) with
   | true=>
     simp only [if_true];refine wpS_pure ⟨rfl,_,_,rfl,by omega,a2,by omega,fun i hi'=> ?_,a5⟩;exact xH hb (hs _ _ (by omega) (by omega) (by omega))
   | false=>
     simp only [Bool.false_eq_true,if_false];refine wpS_pure ⟨rfl,_,_,rfl,by omega,by omega,by omega,a4,fun i hi' hin=> ?_⟩;exact uw hb (hs _ _ (by omega) (by omega) (by omega))
theorem gk {st:SortSt} {left:Bool} {key:Keyed} {arr:Array Keyed} {base n hint:Nat} {Q:Option Nat->SortSt->Prop} (C:z7 prog w A s κ a₀ rk) (hk:kindOf st=κ) (hkey:key∈a₀.toList) (nU:∀p∈arr.toList,p∈a₀.toList)
 (hn:base+n<=arr.size) (hh:hint<n) (hs:Seg rk arr base (base+n))
 (h:∀k,k<=n->(∀i,i<k->By left (rk key.1) (R rk arr (base+i))=true)->(∀i,k<=i->i<n->By left (rk key.1) (R rk arr (base+i))=false)->Q (some k) st):
 wpS (model prog w) A E s (jt left key arr base n hint) Q st:=by
 rw [Bw];refine wpS_bind (jO C hk hkey nU (by omega) ?_);dsimp only;cases hr:By left (rk key.1) (R rk arr (base+hint)) with
 | true=>
   simp only [if_true]
   refine wpS_bind (wpS_mono (wpS_forRange (I:=fun x c st'=>st'=st /\ ∃l o,c=(none,l,o)/\l<o/\x<o/\hint+l<n/\By left (rk key.1) (R rk arr (base+(hint+l)))=true)
    (Q:=fun c st'=>st'=st /\ ∃l o,c=(none,l,o)/\l<o/\hint+l<n/\By left (rk key.1) (R rk arr (base+(hint+l)))=true/\(o<n - hint->By left (rk key.1) (R rk arr (base+(hint+o)))=false)) ?step ?fin ⟨rfl,0,1,rfl,by omega,by omega,by omega,hr⟩) ?post)
   case fin=>
    rintro c st' ⟨rfl,l,o,rfl,a1,a2,a3,a4⟩;exact ⟨rfl,l,o,rfl,a1,a3,a4,fun z=>by omega⟩
   case step=>
    rintro x c st' _ hx ⟨rfl,l,o,rfl,a1,a2,a3,a4⟩;dsimp only
    by_cases hge:o≥n - hint
    ·rw [if_pos hge]
     exact wpS_pure ⟨rfl,l,o,rfl,a1,a3,a4,fun z=>by omega⟩
    ·rw [if_neg hge]
     refine wpS_bind (jO C hk hkey nU (by omega) ?_);dsimp only;cases hb:By left (rk key.1) (R rk arr (base+(hint+o))) with
     | true=>
       simp only [Bool.not_true,Bool.false_eq_true,if_false];exact wpS_pure ⟨rfl,o,2*o+1,rfl,by omega,by omega,by omega,hb⟩
     | false=>
       simp only [Bool.not_false,if_true];exact wpS_pure ⟨rfl,l,o,rfl,a1,a3,a4,fun _=>hb⟩
   case post=>
    rintro c st' ⟨rfl,l,o,rfl,a1,a2,a3,a4⟩;dsimp only;refine wpS_bind (pU C hk hkey nU hn hs (by omega) (by omega) (fun i hi=> ?_) (fun i hi hin=> ?_) fun k l' b1 b2 b3=>wpS_pure (h k b1 b2 b3))
    ·exact xH a3 (hs _ _ (by omega) (by omega) (by omega))
    ·exact uw (a4 (by omega)) (hs _ _ (by omega) (by omega) (by omega))
 | false=>
   simp only [Bool.false_eq_true,if_false]
   refine wpS_bind (wpS_mono (wpS_forRange (I:=fun x c st'=>st'=st /\ ∃l o,c=(none,l,o)/\l<o/\x<o/\l<=hint/\By left (rk key.1) (R rk arr (base+(hint - l)))=false)
    (Q:=fun c st'=>st'=st /\ ∃l o,c=(none,l,o)/\l<o/\l<=hint/\By left (rk key.1) (R rk arr (base+(hint - l)))=false/\(o<hint+1->By left (rk key.1) (R rk arr (base+(hint - o)))=true)) ?step ?fin ⟨rfl,0,1,rfl,by omega,by omega,by omega,hr⟩) ?post)
   case fin=>
    rintro c st' ⟨rfl,l,o,rfl,a1,a2,a3,a4⟩;exact ⟨rfl,l,o,rfl,a1,a3,a4,fun z=>by omega⟩
   case step=>
    rintro x c st' _ hx ⟨rfl,l,o,rfl,a1,a2,a3,a4⟩;dsimp only
    by_cases hge:o≥hint+1
    ·rw [if_pos hge]
     exact wpS_pure ⟨rfl,l,o,rfl,a1,a3,a4,fun z=>by omega⟩
    ·rw [if_neg hge]
     refine wpS_bind (jO C hk hkey nU (by omega) ?_);dsimp only;cases hb:By left (rk key.1) (R rk arr (base+(hint - o))) with
     | true=>
       simp only [if_true];exact wpS_pure ⟨rfl,l,o,rfl,a1,a3,a4,fun _=>hb⟩
     | false=>
       simp only [Bool.false_eq_true,if_false];exact wpS_pure ⟨rfl,o,2*o+1,rfl,by omega,by omega,by omega,hb⟩
   case post=>
    rintro c st' ⟨rfl,l,o,rfl,a1,a2,a3,a4⟩;dsimp only;refine wpS_bind (pU C hk hkey nU hn hs (by omega) (by omega) (fun i hi=> ?_) (fun i hi hin=> ?_) fun k l' b1 b2 b3=>wpS_pure (h k b1 b2 b3))
    ·exact xH (a4 (by omega)) (hs _ _ (by omega) (by omega) (by omega))
    ·exact uw a3 (hs _ _ (by omega) (by omega) (by omega))
end
end Tim
set_option Elab.async false
set_option linter.all false
set_option maxRecDepth 100000
set_option maxHeartbeats 4000000
namespace Tim
open PySem PyProof.Rows
def dW:Nat->StateT SortSt Sem Unit:=sortPriv% PySem.Builtin.setMinGallop
theorem oX (g:Nat):dW g=modify fun s=>SortSt.mk' (kindOf s) (arrOf s) (pendingOf s) g (failedOf s):=rfl
def sE:Array Keyed->Array Keyed->StateT SortSt Sem (Array Keyed):=sortPriv% PySem.Builtin.mergeLo
def sG:Array Keyed->Array Keyed->StateT SortSt Sem (Array Keyed):=sortPriv% PySem.Builtin.mergeHi
abbrev fB (a b out:Array Keyed) (ia ib:Nat):Array Keyed:=out++a.extract ia a.size++b.extract ib b.size
abbrev mZ (a b out:Array Keyed) (ia ib:Nat):Array Keyed:=out++b.extract ib b.size++a.extract ia a.size
theorem yM (a b:Array Keyed):sE a b=(do
 rule "list.sort.merge-lo"
 let total:=a.size+b.size
 let mut out:Array Keyed:= #[←elem' b 0]
 let mut ia:=0
 let mut ib:=1
 if ib==b.size then return fB a b out ia ib
 if ia+1==a.size then return mZ a b out ia ib
 let mut minGallop:=gallopOf (←get)
 for _ in [0:total] do
  let mut acount:=0
  let mut bcount:=0
  for _ in [0:total] do
   let some bWins ←lt' (←elem' b ib) (←elem' a ia)|return fB a b out ia ib
   if bWins then
    out:=out.push (←elem' b ib);ib:=ib+1;bcount:=bcount+1;acount:=0
    if ib==b.size then return fB a b out ia ib
    if bcount≥minGallop then break
   else
    out:=out.push (←elem' a ia);ia:=ia+1;acount:=acount+1;bcount:=0
    if ia+1==a.size then return mZ a b out ia ib
    if acount≥minGallop then break
  rule "list.sort.gallop"
  minGallop:=minGallop+1
  for _ in [0:total] do
   if minGallop>1 then minGallop:=minGallop - 1
   dW minGallop
   let some k ←jt false (←elem' b ib) a ia (a.size - ia) 0|return fB a b out ia ib
   acount:=k
   if k>0 then
    out:=out++a.extract ia (ia+k);ia:=ia+k
    if ia+1==a.size then return mZ a b out ia ib
    if ia==a.size then return fB a b out ia ib
   out:=out.push (←elem' b ib);ib:=ib+1
   if ib==b.size then return fB a b out ia ib
   let some k ←jt true (←elem' a ia) b ib (b.size - ib) 0|return fB a b out ia ib
   bcount:=k
   if k>0 then
    out:=out++b.extract ib (ib+k);ib:=ib+k
    if ib==b.size then return fB a b out ia ib
   out:=out.push (←elem' a ia);ia:=ia+1
   if ia+1==a.size then return mZ a b out ia ib
   if acount<7&&bcount<7 then break
  minGallop:=minGallop+1
  dW minGallop
 unsupported "internal:list.sort.merge-bound"):=rfl
section
variable {rk:Value->Nat} {a b out:Array Keyed} {ia ib k:Nat}
def Le (rk:Value->Nat) (x y:Keyed):Prop:=rk x.1<=rk y.1
def G8 (rk:Value->Nat) (l:List Keyed):Prop:=l.Pairwise (Le rk)
structure MI (rk:Value->Nat) (a b out:Array Keyed) (ia ib:Nat):Prop where
 perm:(out.toList++(a.toList.drop ia++b.toList.drop ib)).Perm (a.toList++b.toList)
 sa:G8 rk (out.toList++a.toList.drop ia)
 sb:G8 rk (out.toList++b.toList.drop ib)
structure Mg (rk:Value->Nat) (a b r:Array Keyed):Prop where
 perm:r.toList.Perm (a.toList++b.toList)
 xJ:G8 rk r.toList
theorem cA (a:Array Keyed) (i j:Nat):(a.extract i j).toList=(a.toList.drop i).take (j - i):=by
 rw [Array.toList_extract,List.extract_eq_take_drop]
theorem tQ (l:List Keyed) (i k:Nat):l.drop i=(l.drop i).take k++l.drop (i+k):=by
 rw [←List.drop_drop,List.take_append_drop]
theorem fX {a:Array Keyed} {i:Nat} (h:i<a.size):R rk a i=rk (a[i]).1:=uq (getElem?_pos a i h)
theorem Jr {a:Array Keyed} {x:Keyed} (h:x∈a.toList.drop ia):∃j,ia<=j/\j<a.size/\R rk a j=rk x.1:=by
 obtain ⟨j,hj,e⟩:=List.getElem_of_mem h;rw [List.length_drop,Array.length_toList] at hj;rw [List.getElem_drop,Array.getElem_toList] at e;exact ⟨ia+j,by (clear e hj;omega),by (clear e;omega),by rw [fX (by (clear e;omega)),e]⟩
theorem gK {a:Array Keyed} {x:Keyed} (h:x∈(a.toList.drop ia).take k):∃j,j<k/\ia+j<a.size/\R rk a (ia+j)=rk x.1:=by
 obtain ⟨j,hj,e⟩:=List.getElem_of_mem h;rw [List.length_take,List.length_drop,Array.length_toList] at hj;rw [List.getElem_take,List.getElem_drop,Array.getElem_toList] at e;exact ⟨j,by (clear e;omega),by (clear e;omega),by rw [fX (by (clear e;omega)),e]⟩
theorem gF {x y:List Keyed}:G8 rk (x++y)↔G8 rk x/\G8 rk y /\ ∀p∈x,∀q∈y,rk p.1<=rk q.1:=List.pairwise_append
theorem MI.pK (m:MI rk a b out ia ib) (hle:∀i,i<k->ib+i<b.size -> ∀j,ia<=j->j<a.size->R rk b (ib+i)<=R rk a j):MI rk a b (out++b.extract ib (ib+k)) ia (ib+k):=by
 have e:(out++b.extract ib (ib+k)).toList=out.toList++(b.toList.drop ib).take k:=by rw [Array.toList_append,cA];congr 2;omega
 have sp:=tQ b.toList ib k;refine ⟨?_, ?_, ?_⟩
 ·rw [e]
  refine List.Perm.trans ?_ m.perm;rw [List.append_assoc];refine List.Perm.append_left _ ?_;refine List.Perm.trans ?_ (List.Perm.of_eq (congrArg (a.toList.drop ia ++ ·) sp.symm));rw [←List.append_assoc];refine List.Perm.trans (List.Perm.append_right _ (List.perm_append_comm)) (List.Perm.of_eq (List.append_assoc _ _ _))
 ·rw [e,List.append_assoc]
  have h1:=gF.mp m.sa;have h2:=m.sb;rw [sp] at h2;have h3:=gF.mp h2;have h4:=gF.mp h3.2.1;refine gF.mpr ⟨h1.1,gF.mpr ⟨h4.1,h1.2.1,fun p hp q hq=> ?_⟩,fun p hp q hq=> ?_⟩
  ·obtain ⟨i,i1,i2,i3⟩:=gK (rk:=rk) hp
   obtain ⟨j,j1,j2,j3⟩:=Jr (rk:=rk) hq;rw [←i3,←j3];exact hle i i1 i2 j j1 j2
  ·rcases List.mem_append.mp hq with hq|hq
   ·exact h3.2.2 p hp q (List.mem_append_left _ hq)
   ·exact h1.2.2 p hp q hq
 ·rw [e,List.append_assoc,←sp]
  exact m.sb
theorem MI.swap (m:MI rk a b out ia ib):MI rk b a out ib ia:=⟨(List.Perm.append_left _ List.perm_append_comm).trans (m.perm.trans List.perm_append_comm),m.sb,m.sa⟩
theorem MI.pL (m:MI rk a b out ia ib) (hle:∀i,i<k->ia+i<a.size -> ∀j,ib<=j->j<b.size->R rk a (ia+i)<=R rk b j):MI rk a b (out++a.extract ia (ia+k)) (ia+k) ib:=(m.swap.pK hle).swap
theorem yx (h:ib<b.size):out.push b[ib]=out++b.extract ib (ib+1):=by
 apply Array.toList_inj.mp;rw [Array.toList_push,Array.toList_append,cA];congr 1;rw [show ib+1 - ib=1 by (clear h;omega),List.drop_eq_getElem_cons (by rw [Array.length_toList];exact h)];rfl
theorem MI.rQ (m:MI rk a b out ia ib) (h:ib<b.size) (hle:∀j,ia<=j->j<a.size->R rk b ib<=R rk a j):MI rk a b (out.push b[ib]) ia (ib+1):=by
 rw [yx h];refine m.pK (k:=1) fun i hi hb j j1 j2=> ?_;have:i=0:=by (clear j2 j1 hb h;omega)
 subst this;exact hle j j1 j2
theorem MI.rR (m:MI rk a b out ia ib) (h:ia<a.size) (hle:∀j,ib<=j->j<b.size->R rk a ia<=R rk b j):MI rk a b (out.push a[ia]) (ia+1) ib:=(m.swap.rQ h hle).swap
theorem MI.done (m:MI rk a b out ia ib) (h:ia=a.size\/ib=b.size):Mg rk a b (fB a b out ia ib):=by
 have e:(fB a b out ia ib).toList=out.toList++(a.toList.drop ia++b.toList.drop ib):=by
  unfold fB;rw [Array.toList_append,Array.toList_append,cA,cA,List.append_assoc];congr 2
  ·rw [List.take_of_length_le];rw [List.length_drop,Array.length_toList];exact Nat.le_refl _
  ·rw [List.take_of_length_le];rw [List.length_drop,Array.length_toList];exact Nat.le_refl _
 refine ⟨by rw [e];exact m.perm, ?_⟩;rw [e];rcases h with h|h
 ·rw [h,show a.toList.drop a.size=[] by rw [List.drop_eq_nil_of_le];rw [Array.length_toList];exact Nat.le_refl _,List.nil_append]
  exact m.sb
 ·rw [h,show b.toList.drop b.size=[] by rw [List.drop_eq_nil_of_le];rw [Array.length_toList];exact Nat.le_refl _,List.append_nil]
  exact m.sa
theorem MI.last (m:MI rk a b out ia ib) (h:∀i j,ib<=i->i<b.size->ia<=j->j<a.size->R rk b i<=R rk a j):Mg rk a b (mZ a b out ia ib):=by
 have m2:=m.pK (k:=b.size - ib) fun i hi hb j j1 j2=>h _ _ (by (clear j2 j1 hb hi;omega)) hb j1 j2
 have e:(mZ a b out ia ib)=fB a b (out++b.extract ib (ib+(b.size - ib))) ia (ib+(b.size - ib)):=by
  unfold fB mZ;apply Array.toList_inj.mp;simp only [Array.toList_append,cA]
  have e1:(b.toList.drop (ib+(b.size - ib))).take (b.size - (ib+(b.size - ib)))=[]:=by
   rw [List.take_eq_nil_iff];left;omega
  rw [e1,List.append_nil];congr 3
  (clear e1;omega)
 rw [e]
 by_cases hb:ib<=b.size
 ·exact m2.done (.inr (by (clear e;omega)))
 ·refine ⟨?_, ?_⟩
  ·have:=m2.perm
   have e2:(fB a b (out++b.extract ib (ib+(b.size - ib))) ia (ib+(b.size - ib))).toList=(out++b.extract ib (ib+(b.size - ib))).toList++(a.toList.drop ia++b.toList.drop (ib+(b.size - ib))):=by
    unfold fB;rw [Array.toList_append,Array.toList_append,cA,cA,List.append_assoc];congr 2
    ·rw [List.take_of_length_le];rw [List.length_drop,Array.length_toList];exact Nat.le_refl _
    ·rw [List.take_of_length_le];rw [List.length_drop,Array.length_toList];exact Nat.le_refl _
   rw [e2];exact this
  ·unfold fB
   rw [Array.toList_append,Array.toList_append,cA (a:=b) (i:=ib+(b.size - ib)),show b.size - (ib+(b.size - ib))=0 by (clear hb e;omega),List.take_zero,List.append_nil,cA (a:=a)];rw [List.take_of_length_le (by rw [List.length_drop,Array.length_toList];exact Nat.le_refl _)];exact m2.sa
end
end Tim
set_option Elab.async false
set_option linter.all false
set_option maxRecDepth 100000
set_option maxHeartbeats 4000000
namespace Tim
open PySem PyProof.Rows
section
variable {prog:Program} {w:World} {A:Around} {E:Value->Shared->Prop} {s:Shared} {κ:SortKind} {a₀:Array Keyed} {rk:Value->Nat}
structure xP (st st':SortSt):Prop where
 k:kindOf st'=kindOf st
 a:arrOf st'=arrOf st
 p:pendingOf st'=pendingOf st
 f:failedOf st'=failedOf st
theorem xP.refl (st:SortSt):xP st st:=⟨rfl,rfl,rfl,rfl⟩
theorem xP.trans {a b c:SortSt} (h:xP a b) (g:xP b c):xP a c:=⟨g.k.trans h.k,g.a.trans h.a,g.p.trans h.p,g.f.trans h.f⟩
theorem lQ {st:SortSt} {g:Nat} {Q:Unit->SortSt->Prop} (h:∀st',xP st st'->Q () st'):wpS (model prog w) A E s (dW g) Q st:=by
 rw [oX];exact wpS_modify (h _ ⟨rfl,rfl,rfl,rfl⟩)
theorem aL {α:Type} {c:Prop} [Decidable c] {x y:StateT SortSt Sem α} {Q:α->SortSt->Prop} {st:SortSt} (h1:c->wpS (model prog w) A E s x Q st) (h2:¬c->wpS (model prog w) A E s y Q st):wpS (model prog w) A E s (if c then x else y) Q st:=by
 by_cases hc:c
 ·rw [if_pos hc];exact h1 hc
 ·rw [if_neg hc];exact h2 hc
theorem Tv {k r:Nat} (h:By true k r=true):r<k:=by simpa [By] using h
theorem Ow {k r:Nat} (h:By false k r=true):r<=k:=by simpa [By] using h
theorem zX {k r:Nat} (h:By true k r=false):k<=r:=by simpa [By] using h
theorem Lf {k r:Nat} (h:By false k r=false):k<r:=by simpa [By] using h
theorem xQ {st:SortSt} {a b:Array Keyed} {Q:Array Keyed->SortSt->Prop} (C:z7 prog w A s κ a₀ rk) (hk:kindOf st=κ) (ha:∀p∈a.toList,p∈a₀.toList) (hb:∀p∈b.toList,p∈a₀.toList)
 (ha1:1<=a.size) (hb1:1<=b.size) (sa:Seg rk a 0 a.size) (sb:Seg rk b 0 b.size) (h0:R rk b 0<=R rk a 0) (hl:R rk b (b.size - 1)<=R rk a (a.size - 1))
 (h:∀r st',xP st st'->Mg rk a b r->Q r st'):wpS (model prog w) A E s (sE a b) Q st:=by
 have VF:∀i,i<b.size -> ∃p,b[i]? = some p/\p∈a₀.toList/\R rk b i=rk p.1:=fun i hi=>⟨b[i],getElem?_pos b i hi,hb _ (by simp),fX hi⟩;have Pa:∀i,i<a.size -> ∃p,a[i]? = some p/\p∈a₀.toList/\R rk a i=rk p.1:=fun i hi=>⟨a[i],getElem?_pos a i hi,ha _ (by simp),fX hi⟩
 have mid:∀i j,i<b.size->j+1=a.size->R rk b i<=R rk a j:=fun i j hi hj=>by
  have:=sb i (b.size - 1) (by (clear hj hi hl h0 hb1 ha1 hk;lia)) (by (clear hj hl h0 hb1 ha1 hk;lia)) (by (clear hj hi hl h0 ha1 hk;lia));have e:a.size - 1=j:=by (clear this hi hl h0 hb1 ha1 hk;lia)
  rw [e] at hl
  (clear e hj hi h0 hb1 ha1 hk;lia)
 have m0:MI rk a b #[b[0]] 0 1:=by
  have m:MI rk a b #[] 0 0:=by
   refine ⟨by simp, ?_, ?_⟩
   ·show G8 rk ([]++a.toList.drop 0)
    rw [List.nil_append,List.drop_zero];refine List.pairwise_iff_getElem.mpr fun i j hi hj hij=> ?_;rw [Array.length_toList] at hi hj;have:=sa i j (by (clear hij hj hi hl h0 hb1 ha1 hk;lia)) (by (clear hj hi hl h0 hb1 ha1 hk;lia)) hj;rw [fX hi,fX hj] at this;simpa [Le] using this
   ·show G8 rk ([]++b.toList.drop 0)
    rw [List.nil_append,List.drop_zero];refine List.pairwise_iff_getElem.mpr fun i j hi hj hij=> ?_;rw [Array.length_toList] at hi hj;have:=sb i j (by (clear hij hj hi hl h0 hb1 ha1 hk;lia)) (by (clear hj hi hl h0 hb1 ha1 hk;lia)) hj;rw [fX hi,fX hj] at this;simpa [Le] using this
  exact m.rQ (by (clear hl h0 ha1 hk;lia)) fun j _ j2=>Nat.le_trans h0 (sa 0 j (by (clear j2 hl h0 hb1 ha1 hk;lia)) (by (clear j2 hl h0 hb1 ha1 hk;lia)) j2)
 rw [yM];refine wpS_bind (wpS_lift (wpAny_rule ⟨rfl, ?_⟩));refine wpS_bind (bB (p:=b[0]) (getElem?_pos b 0 (by (clear hl h0 ha1 hk;lia))) ?_);dsimp only;refine aL (fun e=> ?_) (fun e=> ?_)
 ·have e:1=b.size:=by simpa using e
  exact wpS_pure (h _ _ (.refl _) (m0.done (.inr e)))
 have eb:¬1=b.size:=by simpa using e
 refine aL (fun e=> ?_) (fun e=> ?_)
 ·have e:1=a.size:=by simpa using e
  exact wpS_pure (h _ _ (.refl _) (m0.last fun i j _ hi _ hj=>mid i j hi (by (clear hi eb hl h0 ha1 hk;lia))))
 have ea:¬1=a.size:=by simpa using e
 refine wpS_bind (wpS_get ?_)
 refine wpS_bind (wpS_mono (wpS_forRange (I:=fun x c st'=>xP st st' /\ ∃out ia ib mg,c=(none,out,ia,ib,mg)/\MI rk a b out ia ib/\ia+2<=a.size/\ib+1<=b.size/\(a.size - ia)+(b.size - ib)+x<=a.size+b.size)
  (Q:=fun c st'=>xP st st' /\ ∃r cc,c=(some r,cc)/\Mg rk a b r) ?step ?fin ⟨.refl _,_,_,_,_,rfl,m0,by (clear e eb hl h0 hk;lia),by (clear ea e hl h0 ha1 hk;lia),by (clear ea e eb hl h0 ha1 hk;lia)⟩) ?post)
 case post=>
  rintro c st' ⟨kp,r,cc,rfl,m⟩;exact wpS_pure (h _ _ kp m)
 case fin=>
  rintro c st' ⟨kp,out,ia,ib,mg,rfl,m,a1,b1,le⟩
  (clear b1 ea e eb hl h0 ha1 hk;lia)
 case step=>
  rintro x c st' _ hx ⟨kp,out,ia,ib,mg,rfl,m,a1,b1,le⟩;dsimp only
  refine wpS_bind (wpS_mono (wpS_forRange (I:=fun y c st2=>st2=st' /\ ∃out ia ib ac bc,c=(none,out,ia,ib,ac,bc)/\MI rk a b out ia ib/\ia+2<=a.size/\ib+1<=b.size/\(a.size - ia)+(b.size - ib)+x+y<=a.size+b.size)
   (Q:=fun c st2=>st2=st'/\((∃r cc,c=(some r,cc)/\Mg rk a b r) \/ ∃out ia ib ac bc,c=(none,out,ia,ib,ac,bc)/\MI rk a b out ia ib/\ia+2<=a.size/\ib+1<=b.size/\(a.size - ia)+(b.size - ib)+x+1<=a.size+b.size)) ?step1 ?Sv ⟨rfl,_,_,_,_,_,rfl,m,a1,b1,by (clear b1 a1 hx ea e eb hl h0 ha1 hk;lia)⟩) ?Io)
  case Sv=>
   rintro c st2 ⟨rfl,out,ia,ib,ac,bc,rfl,m,a1,b1,le⟩
   (clear b1 hx ea e eb hl h0 ha1 hk;lia)
  case step1=>
   rintro y c st2 _ hy ⟨rfl,out,ia,ib,ac,bc,rfl,m,a1,b1,le⟩;dsimp only;obtain ⟨p,ep,mp,rp⟩:=VF ib (by (clear le a1 hy hx ea e eb hl h0 ha1 hk;lia));obtain ⟨q,eq,mq,rq⟩:=Pa ia (by (clear rp ep le b1 hy hx ea e eb hl h0 ha1 hk;lia));refine wpS_bind (bB ep (wpS_bind (bB eq (wpS_bind (rC C (kp.k.trans hk) mp mq ?_)))));dsimp only;have bN:p=b[ib]:=by rw [getElem?_pos b ib (by (clear rq eq rp ep le a1 hy hx ea e eb hl h0 ha1 hk;lia))] at ep;exact (Option.some.inj ep).symm
   have fP:q=a[ia]:=by rw [getElem?_pos a ia (by (clear bN rq eq rp ep le b1 hy hx ea e eb hl h0 ha1 hk;lia))] at eq;exact (Option.some.inj eq).symm
   refine aL (fun lt=> ?_) (fun lt=> ?_)
   ·have lt:R rk b ib<R rk a ia:=by rw [rp,rq];simpa using lt
    have m2:MI rk a b (out.push p) ia (ib+1):=by
     rw [bN];exact m.rQ (by (clear lt fP bN rq eq rp ep le a1 hy hx ea e eb hl h0 ha1 hk;lia)) fun j j1 j2=>by have:=sa ia j (by (clear j2 j1 lt fP bN rq eq rp ep le b1 a1 hy hx ea e eb hl h0 ha1 hk;lia)) j1 j2;(clear j2 j1 fP bN rq eq rp ep le b1 a1 hy hx ea e eb hl h0 ha1 hk;lia)
    refine wpS_bind (bB ep ?_);refine aL (fun e=> ?_) (fun e=> ?_)
    ·exact wpS_pure ⟨rfl,.inl ⟨_,_,rfl,m2.done (.inr (by simpa using e))⟩⟩
    have e:¬ib+1=b.size:=by simpa using e
    refine aL (fun _=> ?_) (fun _=> ?_)
    ·exact wpS_pure ⟨rfl,.inr ⟨_,_,_,_,_,rfl,m2,a1,by (clear lt fP bN rq eq rp ep le a1 hy hx ea eb hl h0 ha1 hk;lia),by (clear e lt fP bN rq eq rp ep a1 hy hx ea eb hl h0 ha1 hk;lia)⟩⟩
    ·exact wpS_pure ⟨rfl,_,_,_,_,_,rfl,m2,a1,by (clear lt fP bN rq eq rp ep le a1 hy hx ea eb hl h0 ha1 hk;lia),by (clear e lt fP bN rq eq rp ep a1 hy hx ea eb hl h0 ha1 hk;lia)⟩
   ·have lt:R rk a ia<=R rk b ib:=by rw [rp,rq];simpa using lt
    have m2:MI rk a b (out.push q) (ia+1) ib:=by
     rw [fP];exact m.rR (by (clear lt fP bN rq eq rp ep le b1 hy hx ea e eb hl h0 ha1 hk;lia)) fun j j1 j2=>by have:=sb ib j (by (clear j2 j1 lt fP bN rq eq rp ep le b1 a1 hy hx ea e eb hl h0 ha1 hk;lia)) j1 j2;(clear j2 j1 fP bN rq eq rp ep le b1 a1 hy hx ea e eb hl h0 ha1 hk;lia)
    refine wpS_bind (bB eq ?_);refine aL (fun e=> ?_) (fun e=> ?_)
    ·have e:ia+1+1=a.size:=by simpa using e
     exact wpS_pure ⟨rfl,.inl ⟨_,_,rfl,m2.last fun i j _ hi _ hj=>mid i j hi (by (clear hi lt fP bN rq eq rp ep le b1 a1 hy hx ea eb hl h0 ha1 hk;lia))⟩⟩
    have e:¬ia+1+1=a.size:=by simpa using e
    refine aL (fun _=> ?_) (fun _=> ?_)
    ·exact wpS_pure ⟨rfl,.inr ⟨_,_,_,_,_,rfl,m2,by (clear lt fP bN rq eq rp ep le b1 hy hx ea eb hl h0 ha1 hk;lia),b1,by (clear e lt fP bN rq eq rp ep b1 hy hx ea eb hl h0 ha1 hk;lia)⟩⟩
    ·exact wpS_pure ⟨rfl,_,_,_,_,_,rfl,m2,by (clear lt fP bN rq eq rp ep le b1 hy hx ea eb hl h0 ha1 hk;lia),b1,by (clear e lt fP bN rq eq rp ep b1 hy hx ea eb hl h0 ha1 hk;lia)⟩
  case Io=>
   rintro c st2 ⟨rfl,(⟨r,cc,rfl,mr⟩|⟨out,ia,ib,ac,bc,rfl,m,a1,b1,le⟩)⟩
   ·exact wpS_pure ⟨kp,r,_,rfl,mr⟩
   dsimp only;refine wpS_bind (wpS_lift (wpAny_rule ⟨rfl, ?_⟩))
   refine wpS_bind (wpS_mono (wpS_forRange (I:=fun y c st3=>xP st st3 /\ ∃out ia ib mg ac bc,c=(none,out,ia,ib,mg,ac,bc)/\MI rk a b out ia ib/\ia+2<=a.size/\ib+1<=b.size/\(a.size - ia)+(b.size - ib)+x+1+y<=a.size+b.size)
    (Q:=fun c st3=>xP st st3/\((∃r cc,c=(some r,cc)/\Mg rk a b r) \/ ∃out ia ib mg ac bc,c=(none,out,ia,ib,mg,ac,bc)/\MI rk a b out ia ib/\ia+2<=a.size/\ib+1<=b.size/\(a.size - ia)+(b.size - ib)+x+1<=a.size+b.size)) ?Hx ?fin2 ⟨kp,_,_,_,_,_,_,rfl,m,a1,b1,by (clear b1 a1 hx ea e eb hl h0 ha1 hk;lia)⟩) ?post2)
   case fin2=>
    rintro c st3 ⟨DG,out,ia,ib,mg,ac,bc,rfl,m,a1,b1,le⟩
    (clear b1 a1 hx ea e eb hl h0 ha1 hk;lia)
   case post2=>
    rintro c st3 ⟨DG,(⟨r,cc,rfl,mr⟩|⟨out,ia,ib,mg,ac,bc,rfl,m,a1,b1,le⟩)⟩
    ·exact wpS_pure ⟨DG,r,_,rfl,mr⟩
    dsimp only;refine wpS_bind (lQ fun kZ k4=>wpS_pure ⟨DG.trans k4,_,_,_,_,rfl,m,a1,b1,by (clear b1 a1 hx ea e eb hl h0 ha1 hk;lia)⟩)
   case Hx=>
    rintro y c st3 _ hy ⟨DG,out,ia,ib,mg,ac,bc,rfl,m,a1,b1,le⟩;dsimp only;refine aL (fun _=> ?_) (fun _=> ?_)
    all_goals
     refine wpS_bind (lQ fun kZ k4=> ?_);have uz:=DG.trans k4;obtain ⟨p,ep,mp,rp⟩:=VF ib (by (clear le a1 hy hx ea e eb hl h0 ha1 hk;lia));have bN:p=b[ib]:=by rw [getElem?_pos b ib (by (clear rp ep le a1 hy hx ea e eb hl h0 ha1 hk;lia))] at ep;exact (Option.some.inj ep).symm
     refine wpS_bind (bB ep (wpS_bind (gk C (uz.k.trans hk) mp ha (by (clear bN rp ep le b1 hy hx ea e eb hl h0 ha1 hk;lia)) (by (clear bN rp ep le b1 hy hx ea e eb hl h0 ha1 hk;lia)) (fun i j h1 h2 h3=>sa i j (by (clear h3 h2 h1 bN rp ep le b1 a1 hy hx ea e eb hl h0 ha1 hk;lia)) h2 (by (clear h2 h1 bN rp ep le b1 hy hx ea e eb hl h0 ha1 hk;lia))) fun k k1 k2 k3=> ?_)));dsimp only
     have mA:MI rk a b (out++a.extract ia (ia+k)) (ia+k) ib:=m.pL (k:=k) fun i hi hs j j1 j2=>by
      have e1:=Ow (k2 i hi);have e2:=sb ib j (by (clear e1 j2 j1 hs hi k1 bN rp ep le b1 a1 hy hx ea e eb hl h0 ha1 hk;lia)) j1 j2;rw [rp] at e2
      (clear j2 j1 hs hi k1 bN rp ep le b1 a1 hy hx ea e eb hl h0 ha1 hk;lia)
     have nxt:∀j,ia+k<=j->j<a.size->R rk b ib<=R rk a j:=fun j j1 j2=>by
      have:=Lf (k3 (j - ia) (by (clear j2 k1 bN rp ep le b1 a1 hy hx ea e eb hl h0 ha1 hk;lia)) (by (clear j1 k1 bN rp ep le b1 hy hx ea e eb hl h0 ha1 hk;lia)));rw [show ia+(j - ia)=j by (clear this j2 k1 bN rp ep le b1 a1 hy hx ea e eb hl h0 ha1 hk;lia)] at this;rw [rp];(clear j2 j1 k1 bN rp ep le b1 a1 hy hx ea e eb hl h0 ha1 hk;lia)
     apply aL
     case' h1=>
      intro kpos;refine aL (fun e=> ?_) (fun e=> ?_)
      ·have e:ia+k+1=a.size:=by simpa using e
       exact wpS_pure ⟨uz,.inl ⟨_,_,rfl,mA.last fun i j _ hi _ hj=>mid i j hi (by (clear hi kpos k1 bN rp ep le b1 a1 hy hx ea eb hl h0 ha1 hk;lia))⟩⟩
      have e1:¬ia+k+1=a.size:=by simpa using e
      refine aL (fun e=> ?_) (fun e=> ?_)
      ·exact wpS_pure ⟨uz,.inl ⟨_,_,rfl,mA.done (.inl (by simpa using e))⟩⟩
      have e2:¬ia+k=a.size:=by simpa using e
      have a3:ia+k+2<=a.size:=by (clear e kpos bN rp ep le b1 hy hx ea eb hl h0 ha1 hk;lia)
      have fK:(a.size - (ia+k))+(b.size - ib)+x+1+y<=a.size+b.size:=by (clear a3 e2 e e1 kpos k1 bN rp ep b1 a1 hy hx ea eb hl h0 ha1 hk;lia)
      generalize out++a.extract ia (ia+k)=agA at mA ⊢;generalize ia+k=ia3 at mA nxt a3 fK ⊢
     case' h2=>
      intro kpos;have k0:k=0:=by (clear k1 bN rp ep le b1 a1 hy hx ea e eb hl h0 ha1 hk;lia)
      have a3:ia+2<=a.size:=by (clear k0 kpos k1 bN rp ep le b1 hy hx ea e eb hl h0 ha1 hk;lia)
      have fK:(a.size - ia)+(b.size - ib)+x+1+y<=a.size+b.size:=by (clear a3 k0 kpos k1 bN rp ep b1 a1 hy hx ea e eb hl h0 ha1 hk;lia)
      subst k0
      replace nxt:∀j,ia<=j->j<a.size->R rk b ib<=R rk a j:=nxt
      replace mA:=m
     all_goals
      have mB:=mA.rQ (by (clear kpos k1 fK a3 bN rp ep le a1 hy hx ea e eb hl h0 ha1 hk;lia)) nxt;rw [←bN] at mB;refine wpS_bind (bB ep ?_);refine aL (fun e=> ?_) (fun e=> ?_)
      ·exact wpS_pure ⟨uz,.inl ⟨_,_,rfl,mB.done (.inr (by simpa using e))⟩⟩
      have e3:¬ib+1=b.size:=by simpa using e
      obtain ⟨q,eq,mq,rq⟩:=Pa _ (show _<a.size from Nat.lt_of_lt_of_le (Nat.lt_succ_of_lt (Nat.lt_succ_self _)) a3);refine wpS_bind (bB eq (wpS_bind (gk C (uz.k.trans hk) mq hb (by (clear rq eq e3 e kpos k1 fK a3 bN rp ep le a1 hy hx ea eb hl h0 ha1 hk;lia)) (by (clear rq eq e kpos k1 fK a3 bN rp ep le a1 hy hx ea eb hl h0 ha1 hk;lia)) (fun i j h1 h2 h3=>sb i j (by (clear h3 h2 h1 rq eq e3 e kpos k1 fK a3 bN rp ep le b1 a1 hy hx ea eb hl h0 ha1 hk;lia)) h2 (by (clear h2 h1 rq eq e3 e kpos k1 fK a3 bN rp ep le a1 hy hx ea eb hl h0 ha1 hk;lia))) fun k' l1 l2 l3=> ?_)));dsimp only
      have mC:=mB.pK (k:=k') fun i hi hs j j1 j2=>by
       have e1:=Tv (l2 i hi);have e2:=sa _ j (by (clear e1 j2 j1 hs hi l1 rq eq e3 e kpos k1 fK a3 bN rp ep le b1 a1 hy hx ea eb hl h0 ha1 hk;lia)) j1 j2;rw [rq] at e2
       (clear j2 j1 hs hi l1 rq eq e3 e kpos k1 fK a3 bN rp ep le b1 a1 hy hx ea eb hl h0 ha1 hk;lia)
      apply aL
      case' h1=>
       intro kpos;refine aL (fun e=> ?_) (fun e=> ?_)
       ·exact wpS_pure ⟨uz,.inl ⟨_,_,rfl,mC.done (.inr (by simpa using e))⟩⟩
       have e5:¬ib+1+k'=b.size:=by simpa using e
       have nx:∀j,ib+1+k'<=j->j<b.size->rk q.1<=R rk b j:=fun j j1 j2=>by
        have:=zX (l3 (j - (ib+1)) (by (clear j2 e5 e kpos l1 rq eq e3 k1 fK a3 bN rp ep le b1 a1 hy hx ea eb hl h0 ha1 hk;lia)) (by (clear j1 e5 e kpos l1 rq eq k1 fK a3 bN rp ep le a1 hy hx ea eb hl h0 ha1 hk;lia)));rw [show ib+1+(j - (ib+1))=j by (clear this j2 e5 e kpos l1 rq eq e3 k1 fK a3 bN rp ep le b1 a1 hy hx ea eb hl h0 ha1 hk;lia)] at this
        (clear j2 j1 e5 e kpos l1 rq eq e3 k1 fK a3 bN rp ep le b1 a1 hy hx ea eb hl h0 ha1 hk;lia)
       have b3:ib+1+k'+1<=b.size:=by (clear e kpos rq eq e3 k1 fK a3 bN rp ep le a1 hy hx ea eb hl h0 ha1 hk;lia)
      case' h2=>
       intro kpos;have k0:k'=0:=by (clear l1 rq eq e3 e k1 fK a3 bN rp ep le b1 a1 hy hx ea eb hl h0 ha1 hk;lia)
       have nx:∀j,ib+1<=j->j<b.size->rk q.1<=R rk b j:=fun j j1 j2=>by
        have:=zX (l3 (j - (ib+1)) (by (clear j2 j1 k0 l1 rq eq e3 e k1 fK a3 bN rp ep le b1 a1 hy hx ea eb hl h0 ha1 hk;lia)) (by (clear j1 k0 kpos l1 rq eq e k1 fK a3 bN rp ep le a1 hy hx ea eb hl h0 ha1 hk;lia)));rw [show ib+1+(j - (ib+1))=j by (clear this j2 k0 kpos l1 rq eq e3 e k1 fK a3 bN rp ep le b1 a1 hy hx ea eb hl h0 ha1 hk;lia)] at this
        (clear j2 j1 k0 kpos l1 rq eq e3 e k1 fK a3 bN rp ep le b1 a1 hy hx ea eb hl h0 ha1 hk;lia)
       have b3:ib+1+1<=b.size:=by (clear k0 kpos l1 rq eq e k1 fK a3 bN rp ep le a1 hy hx ea eb hl h0 ha1 hk;lia)
       replace mC:=mB
      all_goals
       have mD:=mC.rR (by (clear b3 kpos l1 rq eq e3 e k1 fK bN rp ep le b1 hy hx ea eb hl h0 ha1 hk;lia)) (fun j j1 j2=>by rw [rq];exact nx j j1 j2);have fP:=Option.some.inj ((getElem?_pos a _ (by (clear b3 kpos l1 rq eq e3 e k1 fK bN rp ep le b1 hy hx ea eb hl h0 ha1 hk;lia))).symm.trans eq);rw [fP] at mD;refine wpS_bind (bB eq ?_);refine aL (fun e=> ?_) (fun e=> ?_)
       ·exact wpS_pure ⟨uz,.inl ⟨_,_,rfl,mD.last fun i j _ hi _ hj=>mid i j hi (by have e:=eq_of_beq e;(clear hi fP b3 kpos l1 rq eq e3 k1 fK a3 bN rp ep le b1 a1 hy hx ea eb hl h0 ha1 hk;lia))⟩⟩
       have e6:¬_=a.size:=fun z=>e (beq_iff_eq.mpr z);refine aL (fun _=> ?_) (fun _=> ?_)
       ·exact wpS_pure ⟨uz,.inr ⟨_,_,_,_,_,_,rfl,mD,by (clear e fP b3 kpos l1 rq eq e3 k1 fK bN rp ep le b1 hy hx ea eb hl h0 ha1 hk;lia),by (clear e6 e fP b3 kpos rq eq k1 fK a3 bN rp ep le a1 hy hx ea eb hl h0 ha1 hk;lia),by (clear e6 e fP b3 kpos l1 rq eq e3 k1 a3 bN rp ep b1 a1 hy hx ea eb hl h0 ha1 hk;lia)⟩⟩
       ·exact wpS_pure ⟨uz,_,_,_,_,_,_,rfl,mD,by (clear e fP b3 kpos l1 rq eq e3 k1 fK bN rp ep le b1 hy hx ea eb hl h0 ha1 hk;lia),by (clear e6 e fP b3 kpos rq eq k1 fK a3 bN rp ep le a1 hy hx ea eb hl h0 ha1 hk;lia),by (clear e6 e fP b3 kpos l1 rq eq e3 k1 a3 bN rp ep hy hx ea eb hl h0 ha1 hk;lia)⟩
end
end Tim
set_option Elab.async false
set_option linter.all false
set_option maxRecDepth 100000
set_option maxHeartbeats 4000000
namespace Tim
open PySem PyProof.Rows
abbrev ig (a b out:Array Keyed) (na nb:Nat):Array Keyed:=a.extract 0 na++b.extract 0 nb++out.reverse
abbrev lY (a b out:Array Keyed) (na nb:Nat):Array Keyed:=b.extract 0 nb++a.extract 0 na++out.reverse
theorem yN (a b:Array Keyed):sG a b=(do
 rule "list.sort.merge-hi"
 let total:=a.size+b.size
 let mut na:=a.size - 1
 let mut nb:=b.size
 let mut out:Array Keyed:= #[←elem' a na]
 if na==0 then return ig a b out na nb
 if nb==1 then return lY a b out na nb
 let mut minGallop:=gallopOf (←get)
 for _ in [0:total] do
  let mut acount:=0
  let mut bcount:=0
  for _ in [0:total] do
   let some aWins ←lt' (←elem' b (nb - 1)) (←elem' a (na - 1))|return ig a b out na nb
   if aWins then
    na:=na - 1;out:=out.push (←elem' a na);acount:=acount+1;bcount:=0
    if na==0 then return ig a b out na nb
    if acount≥minGallop then break
   else
    nb:=nb - 1;out:=out.push (←elem' b nb);bcount:=bcount+1;acount:=0
    if nb==1 then return lY a b out na nb
    if bcount≥minGallop then break
  rule "list.sort.gallop"
  minGallop:=minGallop+1
  for _ in [0:total] do
   if minGallop>1 then minGallop:=minGallop - 1
   dW minGallop
   let some at_ ←jt false (←elem' b (nb - 1)) a 0 na (na - 1)|return ig a b out na nb
   let k:=na - at_
   acount:=k
   if k>0 then
    out:=out++(a.extract at_ na).reverse;na:=at_
    if na==0 then return ig a b out na nb
   nb:=nb - 1;out:=out.push (←elem' b nb)
   if nb==1 then return lY a b out na nb
   let some at_ ←jt true (←elem' a (na - 1)) b 0 nb (nb - 1)|return ig a b out na nb
   let k:=nb - at_
   bcount:=k
   if k>0 then
    out:=out++(b.extract at_ nb).reverse;nb:=at_
    if nb==1 then return lY a b out na nb
    if nb==0 then return ig a b out na nb
   na:=na - 1;out:=out.push (←elem' a na)
   if na==0 then return ig a b out na nb
   if acount<7&&bcount<7 then break
  minGallop:=minGallop+1
  dW minGallop
 unsupported "internal:list.sort.merge-bound"):=rfl
section
variable {rk:Value->Nat} {a b out:Array Keyed} {na nb k:Nat}
structure MH (rk:Value->Nat) (a b out:Array Keyed) (na nb:Nat):Prop where
 perm:(a.toList.take na++(b.toList.take nb++out.toList.reverse)).Perm (a.toList++b.toList)
 sa:G8 rk (a.toList.take na++out.toList.reverse)
 sb:G8 rk (b.toList.take nb++out.toList.reverse)
theorem Ad (l:List Keyed) {i j:Nat} (h:i<=j):l.take j=l.take i++(l.drop i).take (j - i):=by
 rw [List.take_drop,show i+(j - i)=j by lia];have:=(List.take_append_drop i (l.take j)).symm;rwa [List.take_take,Nat.min_eq_left h] at this
theorem Gg {a:Array Keyed} {x:Keyed} (h:x∈a.toList.take na):∃j,j<na/\j<a.size/\R rk a j=rk x.1:=by
 have h':x∈(a.toList.drop 0).take na:=by rw [List.drop_zero];exact h
 obtain ⟨j,j1,j2,j3⟩:=gK (rk:=rk) h';rw [Nat.zero_add] at j2 j3;exact ⟨j,j1,j2,j3⟩
theorem MH.pL (m:MH rk a b out na nb) {at_:Nat} (hat:at_<=na) (hle:∀i,at_<=i->i<na->i<a.size -> ∀j,j<nb->j<b.size->R rk b j<=R rk a i):MH rk a b (out++(a.extract at_ na).reverse) at_ nb:=by
 have e:(out++(a.extract at_ na).reverse).toList.reverse=(a.toList.drop at_).take (na - at_)++out.toList.reverse:=by
  rw [Array.toList_append,List.reverse_append,Array.toList_reverse,List.reverse_reverse,cA]
 have sp:=Ad a.toList hat;refine ⟨?_, ?_, ?_⟩
 ·rw [e]
  refine List.Perm.trans ?_ m.perm;rw [sp,List.append_assoc];refine List.Perm.append_left _ ?_;rw [←List.append_assoc,←List.append_assoc];exact List.Perm.append_right _ List.perm_append_comm
 ·rw [e,←List.append_assoc,←sp]
  exact m.sa
 ·rw [e]
  have h1:=m.sa;rw [sp,List.append_assoc] at h1;have h2:=gF.mp (gF.mp h1).2.1;have h3:=gF.mp m.sb;refine gF.mpr ⟨h3.1,gF.mpr ⟨h2.1,h3.2.1,h2.2.2⟩,fun p hp q hq=> ?_⟩;rcases List.mem_append.mp hq with hq|hq
  ·obtain ⟨i,i1,i2,i3⟩:=Gg (rk:=rk) hp
   obtain ⟨j,j1,j2,j3⟩:=gK (rk:=rk) hq;rw [←i3,←j3];exact hle _ (by (clear j3 j2 j1 i3 i2 i1 h3 h2 sp e hat;lia)) (by (clear j3 j2 i3 i2 i1 h3 h2 sp e hat;lia)) j2 i i1 i2
  ·exact h3.2.2 p hp q hq
theorem MH.swap (m:MH rk a b out na nb):MH rk b a out nb na:=by
 refine ⟨?_,m.sb,m.sa⟩;refine List.Perm.trans ?_ (m.perm.trans List.perm_append_comm);rw [←List.append_assoc,←List.append_assoc];exact List.Perm.append_right _ List.perm_append_comm
theorem MH.pK (m:MH rk a b out na nb) {at_:Nat} (hat:at_<=nb) (hle:∀i,at_<=i->i<nb->i<b.size -> ∀j,j<na->j<a.size->R rk a j<=R rk b i):MH rk a b (out++(b.extract at_ nb).reverse) na at_:=(m.swap.pL hat hle).swap
theorem Ii (h1:1<=na) (h:na<=a.size):out.push (a[na - 1]'(by lia))=out++(a.extract (na - 1) na).reverse:=by
 have e:=yx (out:= #[]) (b:=a) (ib:=na - 1) (by lia);rw [show na - 1+1=na by (clear e h;lia)] at e
 have e2:a.extract (na - 1) na = #[a[na - 1]'(by (clear e;lia))]:=by
  apply Array.toList_inj.mp;have:=congrArg Array.toList e;rw [Array.toList_append] at this;simpa using this.symm
 rw [e2];apply Array.toList_inj.mp;simp
theorem MH.rR (m:MH rk a b out na nb) (h1:1<=na) (h:na<=a.size) (hle:∀j,j<nb->j<b.size->R rk b j<=R rk a (na - 1)):MH rk a b (out.push (a[na - 1]'(by lia))) (na - 1) nb:=by
 rw [Ii h1 h];refine m.pL (by (clear h h1;lia)) fun i i1 i2 i3 j j1 j2=> ?_;have:i=na - 1:=by (clear j2 j1 i3 h h1;lia)
 subst this;exact hle j j1 j2
theorem MH.rQ (m:MH rk a b out na nb) (h1:1<=nb) (h:nb<=b.size) (hle:∀j,j<na->j<a.size->R rk a j<=R rk b (nb - 1)):MH rk a b (out.push (b[nb - 1]'(by lia))) na (nb - 1):=(m.swap.rR h1 h hle).swap
theorem qZ:(ig a b out na nb).toList=a.toList.take na++(b.toList.take nb++out.toList.reverse):=by
 unfold ig;rw [Array.toList_append,Array.toList_append,cA,cA,Array.toList_reverse,List.append_assoc];rfl
theorem MH.done (m:MH rk a b out na nb) (h:na=0\/nb=0):Mg rk a b (ig a b out na nb):=by
 refine ⟨by rw [qZ];exact m.perm, ?_⟩;rw [qZ];rcases h with h|h
 ·subst h
  exact m.sb
 ·subst h
  exact m.sa
theorem MH.first (m:MH rk a b out na nb) (h:∀i j,i<nb->i<b.size->j<na->j<a.size->R rk b i<=R rk a j):Mg rk a b (lY a b out na nb):=by
 have m2:=m.pL (at_:=0) (by lia) fun i _ i2 i3 j j1 j2=>h j i j1 j2 i2 i3
 have e:lY a b out na nb=ig a b (out++(a.extract 0 na).reverse) 0 nb:=by
  apply Array.toList_inj.mp;rw [qZ,qZ,Array.toList_append,List.reverse_append,Array.toList_reverse,List.reverse_reverse,cA];simp
 rw [e];exact m2.done (.inl rfl)
end
section
variable {prog:Program} {w:World} {A:Around} {E:Value->Shared->Prop} {s:Shared} {κ:SortKind} {a₀:Array Keyed} {rk:Value->Nat}
theorem xR {st:SortSt} {a b:Array Keyed} {Q:Array Keyed->SortSt->Prop} (C:z7 prog w A s κ a₀ rk) (hk:kindOf st=κ) (ha:∀p∈a.toList,p∈a₀.toList) (hb:∀p∈b.toList,p∈a₀.toList)
 (ha1:1<=a.size) (hb1:1<=b.size) (sa:Seg rk a 0 a.size) (sb:Seg rk b 0 b.size) (h0:R rk b 0<=R rk a 0) (hl:R rk b (b.size - 1)<=R rk a (a.size - 1))
 (h:∀r st',xP st st'->Mg rk a b r->Q r st'):wpS (model prog w) A E s (sG a b) Q st:=by
 have VF:∀i,i<b.size -> ∃p,b[i]? = some p/\p∈a₀.toList/\R rk b i=rk p.1:=fun i hi=>⟨b[i],getElem?_pos b i hi,hb _ (by simp),fX hi⟩;have Pa:∀i,i<a.size -> ∃p,a[i]? = some p/\p∈a₀.toList/\R rk a i=rk p.1:=fun i hi=>⟨a[i],getElem?_pos a i hi,ha _ (by simp),fX hi⟩
 have mid:∀i j nb,i<nb->nb=1->j<a.size->R rk b i<=R rk a j:=fun i j nb hi hn hj=>by
  have:=sa 0 j (by (clear hj hn hi hl h0 hb1 ha1 hk;lia)) (by (clear hj hn hi hl h0 hb1 ha1 hk;lia)) hj;have e:i=0:=by (clear this hj hl h0 hb1 ha1 hk;lia)
  subst e
  (clear hi hj hn hl hb1 ha1 hk;lia)
 have m0:MH rk a b #[a[a.size - 1]] (a.size - 1) b.size:=by
  have m:MH rk a b #[] a.size b.size:=by
   refine ⟨?_, ?_, ?_⟩
   ·rw [←Array.length_toList,←Array.length_toList,List.take_length,List.take_length];simp
   ·rw [←Array.length_toList,List.take_length]
    show G8 rk (a.toList++[]);rw [List.append_nil];refine List.pairwise_iff_getElem.mpr fun i j hi hj hij=> ?_;rw [Array.length_toList] at hi hj;have:=sa i j (by (clear hij hj hi hl h0 hb1 ha1 hk;lia)) (by (clear hj hi hl h0 hb1 ha1 hk;lia)) hj;rw [fX hi,fX hj] at this;simpa [Le] using this
   ·rw [←Array.length_toList,List.take_length]
    show G8 rk (b.toList++[]);rw [List.append_nil];refine List.pairwise_iff_getElem.mpr fun i j hi hj hij=> ?_;rw [Array.length_toList] at hi hj;have:=sb i j (by (clear hij hj hi hl h0 hb1 ha1 hk;lia)) (by (clear hj hi hl h0 hb1 ha1 hk;lia)) hj;rw [fX hi,fX hj] at this;simpa [Le] using this
  exact m.rR ha1 (Nat.le_refl _) fun j j1 j2=>Nat.le_trans (sb j (b.size - 1) (by (clear j2 j1 hl h0 hb1 ha1 hk;lia)) (by (clear j2 hl h0 hb1 ha1 hk;lia)) (by (clear j2 j1 hl h0 ha1 hk;lia))) hl
 rw [yN];refine wpS_bind (wpS_lift (wpAny_rule ⟨rfl, ?_⟩));refine wpS_bind (bB (p:=a[a.size - 1]) (getElem?_pos a _ (by (clear hl h0 hb1 hk;lia))) ?_);dsimp only;refine aL (fun e=> ?_) (fun e=> ?_)
 ·exact wpS_pure (h _ _ (.refl _) (m0.done (.inl (by simpa using e))))
 have ea:¬a.size - 1=0:=fun z=>e (beq_iff_eq.mpr z);refine aL (fun e=> ?_) (fun e=> ?_)
 ·exact wpS_pure (h _ _ (.refl _) (m0.first fun i j i1 i2 j1 j2=>mid i j _ i1 (by simpa using e) j2))
 have eb:¬b.size=1:=by simpa using e
 refine wpS_bind (wpS_get ?_)
 refine wpS_bind (wpS_mono (wpS_forRange (I:=fun x c st'=>xP st st' /\ ∃na nb out mg,c=(none,na,nb,out,mg)/\MH rk a b out na nb/\1<=na/\2<=nb/\na<=a.size/\nb<=b.size/\na+nb+x<=a.size+b.size)
  (Q:=fun c st'=>xP st st' /\ ∃r cc,c=(some r,cc)/\Mg rk a b r) ?step ?fin ⟨.refl _,_,_,_,_,rfl,m0,by (clear eb e hl h0 hb1 hk;lia),by (clear e ea hl h0 hk;lia),by (clear eb e ea hl h0 hb1 hk;lia),by (clear eb e ea hl h0 hb1 hk;lia),by (clear eb e ea hl h0 hb1 hk;lia)⟩) ?post)
 case post=>
  rintro c st' ⟨kp,r,cc,rfl,m⟩;exact wpS_pure (h _ _ kp m)
 case fin=>
  rintro c st' ⟨kp,na,nb,out,mg,rfl,m,a1,b1,a2,b2,le⟩
  (clear b2 a2 b1 eb e ea hl h0 hb1 hk;lia)
 case step=>
  rintro x c st' _ hx ⟨kp,na,nb,out,mg,rfl,m,a1,b1,a2,b2,le⟩;dsimp only
  refine wpS_bind (wpS_mono (wpS_forRange (I:=fun y c st2=>st2=st' /\ ∃na nb out ac bc,c=(none,na,nb,out,ac,bc)/\MH rk a b out na nb/\1<=na/\2<=nb/\na<=a.size/\nb<=b.size/\na+nb+x+y<=a.size+b.size)
   (Q:=fun c st2=>st2=st'/\((∃r cc,c=(some r,cc)/\Mg rk a b r) \/ ∃na nb out ac bc,c=(none,na,nb,out,ac,bc)/\MH rk a b out na nb/\1<=na/\2<=nb/\na<=a.size/\nb<=b.size/\na+nb+x+1<=a.size+b.size)) ?step1 ?Sv ⟨rfl,_,_,_,_,_,rfl,m,a1,b1,a2,b2,by (clear b2 a2 b1 a1 hx eb e ea hl h0 hb1 hk;lia)⟩) ?Io)
  case Sv=>
   rintro c st2 ⟨rfl,na,nb,out,ac,bc,rfl,m,a1,b1,a2,b2,le⟩
   (clear b2 a2 b1 hx eb e ea hl h0 hb1 hk;lia)
  case step1=>
   rintro y c st2 _ hy ⟨rfl,na,nb,out,ac,bc,rfl,m,a1,b1,a2,b2,le⟩;dsimp only;obtain ⟨p,ep,mp,rp⟩:=VF (nb - 1) (by (clear le a2 b1 a1 hy hx eb e ea hl h0 hb1 hk;lia));obtain ⟨q,eq,mq,rq⟩:=Pa (na - 1) (by (clear rp ep le b2 b1 a1 hy hx eb e ea hl h0 hb1 hk;lia));refine wpS_bind (bB ep (wpS_bind (bB eq (wpS_bind (rC C (kp.k.trans hk) mp mq ?_)))));dsimp only;have bN:b[nb - 1]=p:=Option.some.inj ((getElem?_pos b _ (by (clear rq eq rp ep le a2 b1 a1 hy hx eb e ea hl h0 hb1 hk;lia))).symm.trans ep);have fP:a[na - 1]=q:=Option.some.inj ((getElem?_pos a _ (by (clear bN rq eq rp ep le b2 b1 a1 hy hx eb e ea hl h0 hb1 hk;lia))).symm.trans eq);refine aL (fun lt=> ?_) (fun lt=> ?_)
   ·have lt:R rk b (nb - 1)<R rk a (na - 1):=by rw [rp,rq];simpa using lt
    have m2:=m.rR a1 a2 fun j j1 j2=>by have:=sb j (nb - 1) (by (clear j2 j1 lt fP bN rq eq rp ep le b2 a2 b1 a1 hy hx eb e ea hl h0 hb1 hk;lia)) (by (clear j2 lt fP bN rq eq rp ep le b2 a2 b1 a1 hy hx eb e ea hl h0 hb1 hk;lia)) (by (clear j2 j1 lt fP bN rq eq rp ep le a2 b1 a1 hy hx eb e ea hl h0 hb1 hk;lia));(clear j2 j1 fP bN rq eq rp ep le b2 a2 b1 a1 hy hx eb e ea hl h0 hb1 hk;lia)
    rw [fP] at m2;refine wpS_bind (bB eq ?_);refine aL (fun e=> ?_) (fun e=> ?_)
    ·exact wpS_pure ⟨rfl,.inl ⟨_,_,rfl,m2.done (.inl (by simpa using e))⟩⟩
    have e:¬na - 1=0:=fun z=>e (beq_iff_eq.mpr z);refine aL (fun _=> ?_) (fun _=> ?_)
    ·exact wpS_pure ⟨rfl,.inr ⟨_,_,_,_,_,rfl,m2,by (clear lt fP bN rq eq rp ep le b2 a2 b1 a1 hy hx eb ea hl h0 hb1 hk;lia),b1,by (clear e lt fP bN rq eq rp ep le b2 b1 a1 hy hx eb ea hl h0 hb1 hk;lia),b2,by (clear e lt fP bN rq eq rp ep b2 a2 b1 hy hx eb ea hl h0 hb1 hk;lia)⟩⟩
    ·exact wpS_pure ⟨rfl,_,_,_,_,_,rfl,m2,by (clear lt fP bN rq eq rp ep le b2 a2 b1 a1 hy hx eb ea hl h0 hb1 hk;lia),b1,by (clear e lt fP bN rq eq rp ep le b2 b1 a1 hy hx eb ea hl h0 hb1 hk;lia),b2,by (clear e lt fP bN rq eq rp ep b2 a2 b1 hy hx eb ea hl h0 hb1 hk;lia)⟩
   ·have lt:R rk a (na - 1)<=R rk b (nb - 1):=by rw [rp,rq];simpa using lt
    have m2:=m.rQ (by (clear lt fP bN rq eq rp ep le b2 a2 a1 hy hx eb e ea hl h0 hb1 hk;lia)) b2 fun j j1 j2=>by have:=sa j (na - 1) (by (clear j2 j1 lt fP bN rq eq rp ep le b2 a2 b1 a1 hy hx eb e ea hl h0 hb1 hk;lia)) (by (clear j2 lt fP bN rq eq rp ep le b2 a2 b1 a1 hy hx eb e ea hl h0 hb1 hk;lia)) (by (clear j2 j1 lt fP bN rq eq rp ep le b2 b1 a1 hy hx eb e ea hl h0 hb1 hk;lia));(clear j2 j1 fP bN rq eq rp ep le b2 a2 b1 a1 hy hx eb e ea hl h0 hb1 hk;lia)
    rw [bN] at m2;refine wpS_bind (bB ep ?_);refine aL (fun e=> ?_) (fun e=> ?_)
    ·exact wpS_pure ⟨rfl,.inl ⟨_,_,rfl,m2.first fun i j i1 i2 j1 j2=>mid i j _ i1 (eq_of_beq e) j2⟩⟩
    have e:¬nb - 1=1:=fun z=>e (beq_iff_eq.mpr z);refine aL (fun _=> ?_) (fun _=> ?_)
    ·exact wpS_pure ⟨rfl,.inr ⟨_,_,_,_,_,rfl,m2,a1,by (clear lt fP bN rq eq rp ep le b2 a2 a1 hy hx eb ea hl h0 hb1 hk;lia),a2,by (clear e lt fP bN rq eq rp ep le a2 b1 a1 hy hx eb ea hl h0 hb1 hk;lia),by (clear e lt fP bN rq eq rp ep b2 a2 a1 hy hx eb ea hl h0 hb1 hk;lia)⟩⟩
    ·exact wpS_pure ⟨rfl,_,_,_,_,_,rfl,m2,a1,by (clear lt fP bN rq eq rp ep le b2 a2 a1 hy hx eb ea hl h0 hb1 hk;lia),a2,by (clear e lt fP bN rq eq rp ep le a2 b1 a1 hy hx eb ea hl h0 hb1 hk;lia),by (clear e lt fP bN rq eq rp ep b2 a2 a1 hy hx eb ea hl h0 hb1 hk;lia)⟩
  case Io=>
   rintro c st2 ⟨rfl,(⟨r,cc,rfl,mr⟩|⟨na,nb,out,ac,bc,rfl,m,a1,b1,a2,b2,le⟩)⟩
   ·exact wpS_pure ⟨kp,r,_,rfl,mr⟩
   dsimp only;refine wpS_bind (wpS_lift (wpAny_rule ⟨rfl, ?_⟩))
   refine wpS_bind (wpS_mono (wpS_forRange (I:=fun y c st3=>xP st st3 /\ ∃na nb out mg ac bc,c=(none,na,nb,out,mg,ac,bc)/\MH rk a b out na nb/\1<=na/\2<=nb/\na<=a.size/\nb<=b.size/\na+nb+x+1+y<=a.size+b.size)
    (Q:=fun c st3=>xP st st3/\((∃r cc,c=(some r,cc)/\Mg rk a b r) \/ ∃na nb out mg ac bc,c=(none,na,nb,out,mg,ac,bc)/\MH rk a b out na nb/\1<=na/\2<=nb/\na<=a.size/\nb<=b.size/\na+nb+x+1<=a.size+b.size)) ?Hx ?fin2 ⟨kp,_,_,_,_,_,_,rfl,m,a1,b1,a2,b2,by (clear b2 a2 b1 a1 hx eb e ea hl h0 hb1 hk;lia)⟩) ?post2)
   case fin2=>
    rintro c st3 ⟨DG,na,nb,out,mg,ac,bc,rfl,m,a1,b1,a2,b2,le⟩
    (clear b2 a2 b1 a1 hx eb e ea hl h0 hb1 hk;lia)
   case post2=>
    rintro c st3 ⟨DG,(⟨r,cc,rfl,mr⟩|⟨na,nb,out,mg,ac,bc,rfl,m,a1,b1,a2,b2,le⟩)⟩
    ·exact wpS_pure ⟨DG,r,_,rfl,mr⟩
    dsimp only;refine wpS_bind (lQ fun kZ k4=>wpS_pure ⟨DG.trans k4,_,_,_,_,rfl,m,a1,b1,a2,b2,by (clear b2 a2 b1 a1 hx eb e ea hl h0 hb1 hk;lia)⟩)
   case Hx=>
    rintro y c st3 _ hy ⟨DG,na,nb,out,mg,ac,bc,rfl,m,a1,b1,a2,b2,le⟩;dsimp only;refine aL (fun _=> ?_) (fun _=> ?_)
    all_goals
     refine wpS_bind (lQ fun kZ k4=> ?_);have uz:=DG.trans k4;obtain ⟨p,ep,mp,rp⟩:=VF (nb - 1) (by (clear le a2 b1 a1 hy hx eb e ea hl h0 hb1 hk;lia));have bN:b[nb - 1]=p:=Option.some.inj ((getElem?_pos b _ (by (clear rp ep le a2 b1 a1 hy hx eb e ea hl h0 hb1 hk;lia))).symm.trans ep);refine wpS_bind (bB ep (wpS_bind (gk C (uz.k.trans hk) mp ha (by (clear bN rp ep le b2 b1 a1 hy hx eb e ea hl h0 hb1 hk;lia)) (by (clear bN rp ep le b2 a2 b1 hy hx eb e ea hl h0 hb1 hk;lia)) (fun i j h1 h2 h3=>sa i j (by (clear h3 h2 h1 bN rp ep le b2 a2 b1 a1 hy hx eb e ea hl h0 hb1 hk;lia)) h2 (by (clear h2 h1 bN rp ep le b2 b1 a1 hy hx eb e ea hl h0 hb1 hk;lia))) fun k k1 k2 k3=> ?_)));dsimp only;simp only [Nat.zero_add] at k2 k3
     have mA:=m.pL k1 fun i i1 i2 i3 j j1 j2=>by
      have e1:=Lf (k3 i i1 i2);have e2:=sb j (nb - 1) (by (clear e1 j2 j1 i3 i2 i1 k1 bN rp ep le b2 a2 b1 a1 hy hx eb e ea hl h0 hb1 hk;lia)) (by (clear e1 j2 i3 i2 i1 k1 bN rp ep le b2 a2 b1 a1 hy hx eb e ea hl h0 hb1 hk;lia)) (by (clear e1 j2 j1 i3 i2 i1 k1 bN rp ep le a2 b1 a1 hy hx eb e ea hl h0 hb1 hk;lia))
      (clear j2 j1 i3 i2 i1 k1 bN ep le b2 a2 b1 a1 hy hx eb e ea hl h0 hb1 hk;lia)
     have nxt:∀j,j<k->j<a.size->R rk a j<=R rk b (nb - 1):=fun j j1 j2=>by
      have:=Ow (k2 j j1)
      (clear j2 j1 k1 bN ep le b2 a2 b1 a1 hy hx eb e ea hl h0 hb1 hk;lia)
     apply aL
     case' h1=>
      intro kpos;refine aL (fun e=> ?_) (fun e=> ?_)
      ·exact wpS_pure ⟨uz,.inl ⟨_,_,rfl,mA.done (.inl (by simpa using e))⟩⟩
      have e1:¬k=0:=fun z=>e (beq_iff_eq.mpr z);have a3:1<=k:=by (clear e kpos k1 bN rp ep le b2 a2 b1 a1 hy hx eb ea hl h0 hb1 hk;lia)
      have a4:k<=a.size:=by (clear a3 e1 e kpos bN rp ep le b2 b1 a1 hy hx eb ea hl h0 hb1 hk;lia)
      have fK:k+nb+x+1+y<=a.size+b.size:=by (clear a4 a3 e1 e kpos bN rp ep b2 a2 b1 a1 hy hx eb ea hl h0 hb1 hk;lia)
     case' h2=>
      intro kpos;have k0:k=na:=by (clear bN rp ep le b2 a2 b1 a1 hy hx eb e ea hl h0 hb1 hk;lia)
      have a3:1<=na:=a1;have a4:na<=a.size:=a2;have fK:na+nb+x+1+y<=a.size+b.size:=by (clear a4 a3 k0 kpos k1 bN rp ep b2 a2 b1 a1 hy hx eb e ea hl h0 hb1 hk;lia)
      rw [k0] at nxt
      replace mA:=m
     all_goals
      have mB:=mA.rQ (by (clear fK a4 a3 kpos k1 bN rp ep le b2 a2 a1 hy hx eb e ea hl h0 hb1 hk;lia)) b2 nxt;rw [bN] at mB;refine wpS_bind (bB ep ?_);refine aL (fun e=> ?_) (fun e=> ?_)
      ·exact wpS_pure ⟨uz,.inl ⟨_,_,rfl,mB.first fun i j i1 i2 j1 j2=>mid i j _ i1 (eq_of_beq e) j2⟩⟩
      have e3:¬nb - 1=1:=fun z=>e (beq_iff_eq.mpr z);obtain ⟨q,eq,mq,rq⟩:=Pa _ (Nat.lt_of_lt_of_le (Nat.sub_lt a3 Nat.one_pos) a4);refine wpS_bind (bB eq (wpS_bind (gk C (uz.k.trans hk) mq hb (by (clear rq eq e3 e fK a4 a3 kpos k1 bN rp ep le a2 b1 a1 hy hx eb ea hl h0 hb1 hk;lia)) (by (clear rq eq e3 e fK a4 a3 kpos k1 bN rp ep le b2 a2 a1 hy hx eb ea hl h0 hb1 hk;lia)) (fun i j h1 h2 h3=>sb i j (by (clear h3 h2 h1 rq eq e3 e fK a4 a3 kpos k1 bN rp ep le b2 a2 b1 a1 hy hx eb ea hl h0 hb1 hk;lia)) h2 (by (clear h2 h1 rq eq e3 e fK a4 a3 kpos k1 bN rp ep le a2 b1 a1 hy hx eb ea hl h0 hb1 hk;lia))) fun k' l1 l2 l3=> ?_)));dsimp only;simp only [Nat.zero_add] at l2 l3
      have mC:=mB.pK l1 fun i i1 i2 i3 j j1 j2=>by
       have e1:=zX (l3 i i1 i2);have e2:=sa j _ (by (clear e1 j2 j1 i3 i2 i1 l1 rq eq e3 e fK a4 a3 kpos k1 bN rp ep le b2 a2 b1 a1 hy hx eb ea hl h0 hb1 hk;lia)) (Nat.le_sub_one_of_lt j1) (by (clear e1 j2 j1 i3 i2 i1 l1 rq eq e3 e fK a4 a3 kpos bN rp ep le b2 b1 a1 hy hx eb ea hl h0 hb1 hk;lia))
       (clear j2 j1 i3 i2 i1 l1 eq e3 e fK a4 a3 kpos k1 bN rp ep le b2 a2 b1 a1 hy hx eb ea hl h0 hb1 hk;lia)
      have nx:∀j,j<k'->j<b.size->R rk b j<=rk q.1:=fun j j1 j2=>by
       have:=Tv (l2 j j1)
       (clear j2 j1 l1 rq eq e3 e fK a4 a3 kpos k1 bN rp ep le b2 a2 b1 a1 hy hx eb ea hl h0 hb1 hk;lia)
      apply aL
      case' h1=>
       intro kpos;refine aL (fun e=> ?_) (fun e=> ?_)
       ·exact wpS_pure ⟨uz,.inl ⟨_,_,rfl,mC.first fun i j i1 i2 j1 j2=>mid i j _ i1 (eq_of_beq e) j2⟩⟩
       have e4:¬k'=1:=fun z=>e (beq_iff_eq.mpr z);refine aL (fun e=> ?_) (fun e=> ?_)
       ·exact wpS_pure ⟨uz,.inl ⟨_,_,rfl,mC.done (.inr (by simpa using e))⟩⟩
       have e5:¬k'=0:=fun z=>e (beq_iff_eq.mpr z);have b3:2<=k':=by (clear e kpos l1 rq eq e3 fK a4 a3 k1 bN rp ep le b2 a2 b1 a1 hy hx eb ea hl h0 hb1 hk;lia)
      case' h2=>
       intro kpos;have k0:k'=nb - 1:=by (clear rq eq e3 e fK a4 a3 k1 bN rp ep le b2 a2 b1 a1 hy hx eb ea hl h0 hb1 hk;lia)
       rw [k0] at nx;have b3:2<=nb - 1:=by (clear k0 kpos l1 rq eq e fK a4 a3 k1 bN rp ep le b2 a2 a1 hy hx eb ea hl h0 hb1 hk;lia)
       replace mC:=mB
      all_goals
       have mD:=mC.rR a3 a4 (fun j j1 j2=>by rw [rq];exact nx j j1 j2);have fP:=Option.some.inj ((getElem?_pos a _ (by (clear b3 kpos l1 rq eq e3 e fK k1 bN rp ep le b2 a2 b1 a1 hy hx eb ea hl h0 hb1 hk;lia))).symm.trans eq);rw [fP] at mD;refine wpS_bind (bB eq ?_);refine aL (fun e=> ?_) (fun e=> ?_)
       ·exact wpS_pure ⟨uz,.inl ⟨_,_,rfl,mD.done (.inl (eq_of_beq e))⟩⟩
       have e6:¬_=0:=fun z=>e (beq_iff_eq.mpr z);refine aL (fun _=> ?_) (fun _=> ?_)
       ·exact wpS_pure ⟨uz,.inr ⟨_,_,_,_,_,_,rfl,mD,by (clear e fP b3 kpos l1 rq eq e3 fK a4 a3 k1 bN rp ep le b2 a2 b1 a1 hy hx eb ea hl h0 hb1 hk;lia),by (clear e6 e fP b3 kpos l1 rq eq fK a4 a3 k1 bN rp ep le b2 a2 a1 hy hx eb ea hl h0 hb1 hk;lia),by (clear e6 e fP b3 kpos l1 rq eq e3 fK a4 a3 k1 bN rp ep le b2 b1 a1 hy hx eb ea hl h0 hb1 hk;lia),by (clear e6 e fP b3 kpos rq eq e3 fK a4 a3 k1 bN rp ep le a2 b1 a1 hy hx eb ea hl h0 hb1 hk;lia),by (clear e6 e fP b3 kpos rq eq e3 fK a4 a3 k1 bN rp ep b2 a2 b1 a1 hy hx eb ea hl h0 hb1 hk;lia)⟩⟩
       ·exact wpS_pure ⟨uz,_,_,_,_,_,_,rfl,mD,by (clear e fP b3 kpos l1 rq eq e3 fK a4 a3 k1 bN rp ep le b2 a2 b1 a1 hy hx eb ea hl h0 hb1 hk;lia),by (clear e6 e fP b3 kpos l1 rq eq fK a4 a3 k1 bN rp ep le b2 a2 a1 hy hx eb ea hl h0 hb1 hk;lia),by (clear e6 e fP b3 kpos l1 rq eq e3 fK a4 a3 k1 bN rp ep le b2 b1 a1 hy hx eb ea hl h0 hb1 hk;lia),by (clear e6 e fP b3 kpos rq eq e3 fK a4 a3 k1 bN rp ep le a2 b1 a1 hy hx eb ea hl h0 hb1 hk;lia),by (clear e6 e fP b3 kpos rq eq e3 fK a4 a3 k1 bN rp ep b2 a2 b1 hy hx eb ea hl h0 hb1 hk;lia)⟩
end
end Tim
set_option Elab.async false
set_option linter.all false
set_option maxRecDepth 100000
set_option maxHeartbeats 4000000
namespace Tim
open PySem PyProof.Rows
section
variable {prog:Program} {w:World} {A:Around} {E:Value->Shared->Prop} {s:Shared} {κ:SortKind} {a₀:Array Keyed} {rk:Value->Nat} {pd:Array (Nat×Nat×Nat)}
structure SB (κ:SortKind) (a₀:Array Keyed) (pd:Array (Nat×Nat×Nat)) (st:SortSt):Prop where
 perm:(arrOf st).Perm a₀
 kind:kindOf st=κ
 failed:failedOf st=none
 pend:pendingOf st=pd
theorem SB.size {st:SortSt} (h:SB κ a₀ pd st):(arrOf st).size=a₀.size:=h.perm.size_eq
theorem SB.setArr {st:SortSt} (h:SB κ a₀ pd st) {xs:Array Keyed} (hp:xs.Perm (arrOf st)):SB κ a₀ pd (setArr st xs):=⟨hp.trans h.perm,h.kind,h.failed,h.pend⟩
theorem SB.mem {st:SortSt} (h:SB κ a₀ pd st) {p:Keyed} (hp:p∈(arrOf st).toList):p∈a₀.toList:=(Array.perm_iff_toList_perm.mp h.perm).mem_iff.mp hp
theorem iQ {st:SortSt} {i j:Nat} {Q:Option Bool->SortSt->Prop} (C:z7 prog w A s κ a₀ rk) (hB:SB κ a₀ pd st) (hi:i<a₀.size) (hj:j<a₀.size) (h:Q (some (decide (R rk (arrOf st) i<R rk (arrOf st) j))) st):
 wpS (model prog w) A E s (ltAt' i j) Q st:=by
 rw [ltAt'_eq];refine wpS_bind (wpS_get ?_);have hi':i<(arrOf st).size:=by rw [hB.size];exact hi
 have hj':j<(arrOf st).size:=by rw [hB.size];exact hj
 rw [fX hi',fX hj'] at h;exact wpS_bind (bB (getElem?_pos (arrOf st) i hi') (wpS_bind (bB (getElem?_pos (arrOf st) j hj') (rC C hB.kind (hB.mem (by simp)) (hB.mem (by simp)) h))))
def Kb (lo:Nat) (st st':SortSt):Prop:=∀i,i<lo->(arrOf st')[i]? = (arrOf st)[i]?
theorem Kb.refl {lo:Nat} {st:SortSt}:Kb lo st st:=fun _ _=>rfl
theorem Kb.trans {lo:Nat} {a b c:SortSt} (h:Kb lo a b) (g:Kb lo b c):Kb lo a c:=fun i hi=>(g i hi).trans (h i hi)
theorem ur {xs:Array Keyed} {i j:Nat} (hj:j<=xs.size) (k:Nat):R rk (mirror xs i j ((j - i) / 2)) k=if i<=k/\k<j then R rk xs (i+j - 1 - k) else R rk xs k:=by
 have e:=getElem?_mirror_all (i:=i) hj k
 by_cases h1:i<=k/\k<j
 ·rw [if_pos h1] at e ⊢;exact fj e
 ·rw [if_neg h1] at e ⊢;exact fj e
theorem lX {st:SortSt} {lo i j:Nat} (hj:j<=(arrOf st).size) (hi:lo<=i):Kb lo st (setArr st (mirror (arrOf st) i j ((j - i) / 2))):=fun k hk=>by
 show (mirror (arrOf st) i j ((j - i) / 2))[k]? = _;rw [getElem?_mirror_all hj,if_neg (by (clear hj;lia))]
theorem gW {xs:Array Keyed} {i j:Nat} (hj:j<=xs.size) (heq:∀k,i<=k->k<j->R rk xs k=R rk xs (j - 1)) (k:Nat):R rk (mirror xs i j ((j - i) / 2)) k=R rk xs k:=by
 rw [ur hj];split
 ·rw [heq _ (by (clear hj;lia)) (by (clear hj;lia)),heq k (by (clear hj;lia)) (by (clear hj;lia))]
 ·rfl
theorem zU {xs:Array Keyed} {src d:Nat} (hs:src<xs.size) (hd:d<=src) (k:Nat):
 R rk (bubble xs src d) k=if k=src - d then R rk xs src else if src - d<k/\k<=src then R rk xs (k - 1) else R rk xs k:=by
 have e:=getElem?_bubble hs d hd k
 by_cases h1:k=src - d
 ·rw [if_pos h1] at e ⊢;exact fj e
 ·rw [if_neg h1] at e ⊢
  by_cases h2:src - d<k/\k<=src
  ·rw [if_pos h2] at e ⊢;exact fj e
  ·rw [if_neg h2] at e ⊢;exact fj e
def T5 (rk:Value->Nat) (xs:Array Keyed) (lo hi:Nat):Prop:=∀i j,lo<=i->i<=j->j<hi->R rk xs j<=R rk xs i
theorem wpS_countRun {st:SortSt} {lo nrem:Nat} {Q:Option Nat->SortSt->Prop} (C:z7 prog w A s κ a₀ rk) (hn:lo+nrem<=a₀.size) (h1:1<=nrem) (hB:SB κ a₀ pd st)
 (h:∀m st',SB κ a₀ pd st'->Kb lo st st'->1<=m->m<=nrem->Seg rk (arrOf st') lo (lo+m)->Q (some m) st'):wpS (model prog w) A E s (countRun' lo nrem) Q st:=by
 rw [countRun'_eq]
 refine wpS_bind (wpS_mono (wpS_forRange (I:=fun x c st'=>st'=st/\c=(none,x)/\Seg rk (arrOf st) lo (lo+x))
  (Q:=fun c st'=>st'=st /\ ∃n,c=(none,n)/\1<=n/\n<=nrem/\Seg rk (arrOf st) lo (lo+n)/\(n=nrem\/R rk (arrOf st) (lo+n)<R rk (arrOf st) (lo+n - 1))) ?step ?fin ⟨rfl,rfl,fun i j a b c=>by rw [show i=j by (clear h1 hn;lia)];exact Nat.le_refl _⟩) ?post)
 case fin=>
  rintro c st' ⟨rfl,rfl,hs⟩;rw [show max 1 nrem=nrem by (clear hn;lia)] at hs ⊢;exact ⟨rfl,nrem,rfl,h1,Nat.le_refl _,hs,.inl rfl⟩
 case step=>
  rintro x c st' x1 xn ⟨rfl,rfl,hs⟩;dsimp only;refine wpS_bind (iQ C hB (by (clear x1 h1;lia)) (by (clear x1 h1;lia)) ?_);dsimp only;refine aL (fun lt=> ?_) (fun lt=> ?_)
  ·exact wpS_pure ⟨rfl,x,rfl,x1,by (clear lt x1 h1 hn;lia),hs,.inr (of_decide_eq_true lt)⟩
  ·have lt:R rk (arrOf st') (lo+x - 1)<=R rk (arrOf st') (lo+x):=Nat.le_of_not_lt fun z=>lt (decide_eq_true z)
   refine wpS_pure ⟨rfl,rfl,fun i j a b c=> ?_⟩
   by_cases hj:j<lo+x
   ·exact hs i j a b hj
   ·have:j=lo+x:=by (clear b a lt xn x1 h1 hn;lia)
    subst this
    by_cases hi:i=lo+x
    ·rw [hi];exact Nat.le_refl _
    ·exact Nat.le_trans (hs i (lo+x - 1) a (by (clear hj c a lt xn x1 h1 hn;lia)) (by (clear hi hj c b a lt xn h1 hn;lia))) lt
 case post=>
  rintro c st' ⟨rfl,n,rfl,n1,nn,hs,hor⟩;dsimp only;have hsz:(arrOf st').size=a₀.size:=hB.size;refine aL (fun e=> ?_) (fun e=> ?_)
  ·exact wpS_pure (h n _ hB Kb.refl n1 nn hs)
  have e:¬n=nrem:=fun z=>e (beq_iff_eq.mpr z);have lt:=hor.resolve_left e;have n2:n+1<=nrem:=by (clear lt hsz hor n1 h1 hn;lia)
  apply aL
  case' h1=>
   intro gt;refine wpS_bind (iQ C hB (by (clear gt n2 lt e hsz hor nn n1;lia)) (by (clear gt n2 lt e hsz hor n1;lia)) ?_);dsimp only;refine aL (fun rose=> ?_) (fun rose=> ?_)
   ·exact wpS_pure (h n _ hB Kb.refl n1 nn hs)
   have rose:R rk (arrOf st') (lo+n - 1)<=R rk (arrOf st') lo:=Nat.le_of_not_lt fun z=>rose (decide_eq_true z)
   have all:∀k,lo<=k->k<lo+n->R rk (arrOf st') k=R rk (arrOf st') (lo+n - 1):=fun k k1 k2=>by
    have a1:=hs lo k (Nat.le_refl _) k1 k2;have a2:=hs k (lo+n - 1) k1 (by (clear a1 k1 rose gt n2 lt e hsz hor nn n1 h1 hn;lia)) (by (clear a1 k2 k1 rose gt n2 lt e hsz hor nn h1 hn;lia))
    (clear k2 k1 gt n2 lt e hsz hor nn n1 h1 hn;lia)
   rw [reverseSlice'_eq];refine wpS_bind (wpS_modify ?_);have yX:SB κ a₀ pd (setArr st' (mirror (arrOf st') lo (lo+n) ((lo+n - lo) / 2))):=hB.setArr (mirror_perm _ _ _ _);have k1:Kb lo st' (setArr st' (mirror (arrOf st') lo (lo+n) ((lo+n - lo) / 2))):=lX (by (clear rose gt n2 lt e hor n1 h1;lia)) (Nat.le_refl _)
   have dw:T5 rk (arrOf (setArr st' (mirror (arrOf st') lo (lo+n) ((lo+n - lo) / 2)))) lo (lo+n+1):=fun i j a b c=>by
    show R rk (mirror _ _ _ _) j<=R rk (mirror _ _ _ _) i;rw [gW (by (clear c b a rose gt n2 lt e hor n1 h1;lia)) all,gW (by (clear c b a rose gt n2 lt e hor n1 h1;lia)) all]
    by_cases hj:j<lo+n
    ·rw [all i a (by (clear c a rose gt n2 lt e hsz hor nn n1 h1 hn;lia)),all j (by (clear hj c rose gt n2 lt e hsz hor nn n1 h1 hn;lia)) hj];exact Nat.le_refl _
    ·have:j=lo+n:=by (clear b a rose gt n2 lt e hsz hor nn n1 h1 hn;lia)
     subst this
     by_cases hi:i=lo+n
     ·rw [hi];exact Nat.le_refl _
     ·rw [all i a (by (clear hj c a rose gt n2 lt e hsz hor nn n1 h1 hn;lia))];(clear hi hj c b a rose gt n2 lt hsz nn n1 h1 hn;lia)
   generalize setArr st' (mirror (arrOf st') lo (lo+n) ((lo+n - lo) / 2))=st1 at yX k1 dw ⊢
  case' h2=>
   intro gt;have yX:=hB;have k1:Kb lo st' st':=Kb.refl
   have dw:T5 rk (arrOf st') lo (lo+n+1):=fun i j a b c=>by
    have e1:n=1:=by (clear c b a n2 lt e hsz hor nn h1 hn;lia)
    subst e1
    by_cases hi:i=j
    ·rw [hi];exact Nat.le_refl _
    ·have:i=lo+1 - 1:=by (clear gt n2 lt e hor nn n1 hsz h1 hn;lia)
     have:j=lo+1:=by (clear this gt n2 lt e hor nn n1 hsz h1 hn;lia)
     subst_vars
     (clear hi b c a gt n2 lt nn n1 hsz h1 hn;lia)
   revert yX k1 dw;generalize hst:st'=st1;intro yX k1 dw
  all_goals
   refine wpS_bind (wpS_lift (wpAny_rule ⟨rfl, ?_⟩))
   refine wpS_bind (wpS_mono (wpS_forRange (I:=fun x c st2=>∃neq,c=(none,x,neq)/\SB κ a₀ pd st2/\Kb lo st1 st2/\T5 rk (arrOf st2) lo (lo+x)/\neq+1<=x/\(∀i,lo+x - (neq+1)<=i->i<lo+x->R rk (arrOf st2) i=R rk (arrOf st2) (lo+x - 1)))
    (Q:=fun c st2=>∃x neq,c=(none,x,neq)/\n+1<=x/\x<=nrem/\SB κ a₀ pd st2/\Kb lo st1 st2/\T5 rk (arrOf st2) lo (lo+x)/\neq+1<=x/\(∀i,lo+x - (neq+1)<=i->i<lo+x->R rk (arrOf st2) i=R rk (arrOf st2) (lo+x - 1))) ?_ ?_ ⟨0,rfl,yX,Kb.refl,dw,by (clear gt n2 lt e hsz hor nn n1 h1 hn;lia),fun i a b=>by congr 1;(clear gt n2 lt e hsz hor nn n1 h1 hn;lia)⟩) ?_)
   ·rintro x c st2 x1 xn ⟨neq,rfl,hB2,k2,d2,q2,e2⟩
    dsimp only;have jL:(arrOf st2).size=a₀.size:=hB2.size;refine wpS_bind (iQ C hB2 (by (clear jL q2 x1 gt n2 lt e hsz hor nn n1 h1;lia)) (by (clear jL q2 x1 gt n2 lt e hsz hor nn n1 h1;lia)) ?_);dsimp only;refine aL (fun lt=> ?_) (fun lt=> ?_)
    ·have lt:R rk (arrOf st2) (lo+x)<R rk (arrOf st2) (lo+x - 1):=of_decide_eq_true lt
     have step1:∀xs:Array Keyed,(∀k,R rk xs k=R rk (arrOf st2) k)->T5 rk xs lo (lo+(x+1)):=by
      intro xs hk i j a b c;rw [hk,hk]
      by_cases hj:j<lo+x
      ·exact d2 i j a b hj
      ·have:j=lo+x:=by (clear b a lt jL q2 xn x1 gt n2 e hsz hor nn n1 h1 hn;lia)
       subst this
       by_cases hi:i=lo+x
       ·rw [hi];exact Nat.le_refl _
       ·exact Nat.le_trans (Nat.le_of_lt lt) (d2 i (lo+x - 1) a (by (clear hj c a lt jL q2 xn x1 gt n2 e hsz hor nn n1 h1 hn;lia)) (by (clear hi hj c b a lt jL q2 xn gt n2 e hsz hor nn n1 h1 hn;lia)))
     refine aL (fun _=> ?_) (fun _=> ?_)
     ·rw [reverseSlice'_eq]
      refine wpS_bind (wpS_modify (wpS_pure ⟨0,rfl,hB2.setArr (mirror_perm _ _ _ _),k2.trans (lX (by (clear lt q2 x1 gt n2 e hsz hor nn n1 h1;lia)) (by (clear lt jL xn x1 gt n2 e hsz hor nn n1 h1 hn;lia))),step1 _ (gW (by (clear lt q2 x1 gt n2 e hsz hor nn n1 h1;lia)) e2),by (clear lt jL q2 xn x1 gt n2 e hsz hor nn n1 h1 hn;lia),fun i a b=>by congr 1;(clear lt jL q2 xn x1 gt n2 e hsz hor nn n1 h1 hn;lia)⟩))
     ·exact wpS_pure ⟨0,rfl,hB2,k2,step1 _ (fun _=>rfl),by (clear lt jL q2 xn x1 gt n2 e hsz hor nn n1 h1 hn;lia),fun i a b=>by congr 1;(clear lt jL q2 xn x1 gt n2 e hsz hor nn n1 h1 hn;lia)⟩
    ·have ge:R rk (arrOf st2) (lo+x - 1)<=R rk (arrOf st2) (lo+x):=Nat.le_of_not_lt fun z=>lt (decide_eq_true z)
     refine wpS_bind (iQ C hB2 (by (clear ge lt jL q2 x1 gt n2 e hsz hor nn n1 h1;lia)) (by (clear ge lt jL q2 x1 gt n2 e hsz hor nn n1 h1;lia)) ?_);dsimp only;refine aL (fun lg=> ?_) (fun lg=> ?_)
     ·exact wpS_pure ⟨x,neq,rfl,x1,by (clear lg ge lt jL q2 x1 gt n2 e hsz hor nn n1 h1 hn;lia),hB2,k2,d2,q2,e2⟩
     ·have le:R rk (arrOf st2) (lo+x)<=R rk (arrOf st2) (lo+x - 1):=Nat.le_of_not_lt fun z=>lg (decide_eq_true z)
      have N_:R rk (arrOf st2) (lo+x)=R rk (arrOf st2) (lo+x - 1):=by (clear lg lt jL q2 xn x1 gt n2 e hsz hor nn n1 h1 hn;lia)
      refine wpS_pure ⟨neq+1,rfl,hB2,k2,fun i j a b c=> ?_,by (clear N_ le lg ge lt jL xn x1 gt n2 e hsz hor nn n1 h1 hn;lia),fun i a b=> ?_⟩
      ·by_cases hj:j<lo+x
       ·exact d2 i j a b hj
       ·have:j=lo+x:=by (clear b a N_ le lg ge lt jL q2 xn x1 gt n2 e hsz hor nn n1 h1 hn;lia)
        subst this
        by_cases hi:i=lo+x
        ·rw [hi];exact Nat.le_refl _
        ·rw [N_];exact d2 i (lo+x - 1) a (by (clear hj c a N_ le lg ge lt jL q2 xn x1 gt n2 e hsz hor nn n1 h1 hn;lia)) (by (clear hi hj c b a N_ le lg ge lt jL q2 xn gt n2 e hsz hor nn n1 h1 hn;lia))
      ·rw [show lo+(x+1) - 1=lo+x by (clear b a N_ le lg ge lt jL q2 xn x1 gt n2 e hsz hor nn n1 h1 hn;lia)]
       by_cases hi:i=lo+x
       ·rw [hi]
       ·rw [N_];exact e2 i (by (clear hi b N_ le lg ge lt jL q2 xn x1 gt n2 e hsz hor nn n1 h1 hn;lia)) (by (clear a N_ le lg ge lt jL q2 xn x1 gt n2 e hsz hor nn n1 h1 hn;lia))
   ·rintro c st2 ⟨neq,rfl,hB2,k2,d2,q2,e2⟩
    rw [show max (n+1) nrem=nrem by (clear q2 gt n2 lt hsz hor n1 h1 hn;lia)] at d2 q2 e2 ⊢;exact ⟨nrem,neq,rfl,n2,Nat.le_refl _,hB2,k2,d2,q2,e2⟩
   ·rintro c st2 ⟨x,neq,rfl,x1,xn,hB2,k2,d2,q2,e2⟩
    dsimp only;have jL:(arrOf st2).size=a₀.size:=hB2.size;apply aL
    case' h1=>
     intro _;rw [reverseSlice'_eq];refine wpS_bind (wpS_modify ?_);have hB3:SB κ a₀ pd (setArr st2 (mirror (arrOf st2) (lo+x - (neq+1)) (lo+x) ((lo+x - (lo+x - (neq+1))) / 2))):=hB2.setArr (mirror_perm _ _ _ _);have k3:=k2.trans (lX (st:=st2) (lo:=lo) (i:=lo+x - (neq+1)) (j:=lo+x) (by (clear q2 x1 gt n2 lt e hsz hor nn n1 h1;lia)) (by (clear jL xn x1 gt n2 lt e hsz hor nn n1 h1 hn;lia)))
     have d3:T5 rk (arrOf (setArr st2 (mirror (arrOf st2) (lo+x - (neq+1)) (lo+x) ((lo+x - (lo+x - (neq+1))) / 2)))) lo (lo+x):=fun i j a b c=>by
      show R rk (mirror _ _ _ _) j<=R rk (mirror _ _ _ _) i;rw [gW (by (clear c b a q2 x1 gt n2 lt e hsz hor nn n1 h1;lia)) e2,gW (by (clear c b a q2 x1 gt n2 lt e hsz hor nn n1 h1;lia)) e2];exact d2 i j a b c
     generalize setArr st2 (mirror (arrOf st2) (lo+x - (neq+1)) (lo+x) ((lo+x - (lo+x - (neq+1))) / 2))=st3 at hB3 k3 d3 ⊢
    case' h2=>
     intro _;have hB3:=hB2;have k3:=k2;have d3:=d2;revert hB3 k3 d3;generalize st2=st3;intro hB3 k3 d3
    all_goals
     have CN:(arrOf st3).size=a₀.size:=hB3.size;rw [reverseSlice'_eq];refine wpS_bind (wpS_modify ?_);have pG:SB κ a₀ pd (setArr st3 (mirror (arrOf st3) lo (lo+x) ((lo+x - lo) / 2))):=hB3.setArr (mirror_perm _ _ _ _);have k4:=k3.trans (lX (st:=st3) (lo:=lo) (i:=lo) (j:=lo+x) (by (clear jL q2 x1 gt n2 lt e hsz hor nn n1 h1;lia)) (by (clear CN jL q2 xn x1 gt n2 lt e hsz hor nn n1 h1 hn;lia)))
     have s4:Seg rk (arrOf (setArr st3 (mirror (arrOf st3) lo (lo+x) ((lo+x - lo) / 2)))) lo (lo+x):=fun i j a b c=>by
      show R rk (mirror _ _ _ _) i<=R rk (mirror _ _ _ _) j;rw [ur (by (clear c b a jL q2 x1 gt n2 lt e hsz hor nn n1 h1;lia)),ur (by (clear c b a jL q2 x1 gt n2 lt e hsz hor nn n1 h1;lia)),if_pos (by (clear CN jL q2 xn x1 gt n2 lt e hsz hor nn n1 h1 hn;lia)),if_pos (by (clear CN jL q2 xn x1 gt n2 lt e hsz hor nn n1 h1 hn;lia))];exact d3 _ _ (by (clear b a CN jL q2 xn x1 gt n2 lt e hsz hor nn n1 h1 hn;lia)) (by (clear c a CN jL q2 xn x1 gt n2 lt e hsz hor nn n1 h1 hn;lia)) (by (clear c b CN jL q2 xn gt n2 lt e hsz hor nn n1 h1 hn;lia))
     generalize setArr st3 (mirror (arrOf st3) lo (lo+x) ((lo+x - lo) / 2))=kZ at pG k4 s4 ⊢
     refine wpS_bind (wpS_mono (wpS_forRange (I:=fun y c ux=>ux=kZ/\c=(none,y)/\Seg rk (arrOf kZ) lo (lo+y))
      (Q:=fun c ux=>ux=kZ /\ ∃y,c=(none,y)/\x<=y/\y<=nrem/\Seg rk (arrOf kZ) lo (lo+y)) ?_ ?_ ⟨rfl,rfl,s4⟩) ?_)
     ·rintro y c ux y1 yn ⟨rfl,rfl,Ph⟩
      dsimp only;refine wpS_bind (iQ C pG (by (clear y1 CN jL q2 xn x1 gt n2 lt e hsz hor nn n1 h1;lia)) (by (clear y1 CN jL q2 xn x1 gt n2 lt e hsz hor nn n1 h1;lia)) ?_);dsimp only;refine aL (fun lt=> ?_) (fun lt=> ?_)
      ·exact wpS_pure ⟨rfl,y,rfl,y1,by (clear lt y1 CN jL q2 xn x1 gt n2 e hsz hor nn n1 h1 hn;lia),Ph⟩
      ·have lt:R rk (arrOf ux) (lo+y - 1)<=R rk (arrOf ux) (lo+y):=Nat.le_of_not_lt fun z=>lt (decide_eq_true z)
       refine wpS_pure ⟨rfl,rfl,fun i j a b c=> ?_⟩
       by_cases hj:j<lo+y
       ·exact Ph i j a b hj
       ·have:j=lo+y:=by (clear b a lt yn y1 CN jL q2 xn x1 gt n2 e hsz hor nn n1 h1 hn;lia)
        subst this
        by_cases hi:i=lo+y
        ·rw [hi];exact Nat.le_refl _
        ·exact Nat.le_trans (Ph i (lo+y - 1) a (by (clear hj c a lt yn y1 CN jL q2 xn x1 gt n2 e hsz hor nn n1 h1 hn;lia)) (by (clear hi hj c b a lt yn CN jL q2 xn gt n2 e hsz hor nn n1 h1 hn;lia))) lt
     ·rintro c ux ⟨rfl,rfl,Ph⟩
      rw [show max x nrem=nrem by (clear CN jL q2 x1 gt n2 lt e hsz hor nn n1 h1 hn;lia)] at Ph ⊢;exact ⟨rfl,nrem,rfl,xn,Nat.le_refl _,Ph⟩
     ·rintro c ux ⟨rfl,y,rfl,y1,yn,Ph⟩
      exact wpS_pure (h y _ pG (by first |exact k1.trans k4|(subst hst;exact k4)) (by (clear yn CN jL q2 xn gt n2 lt e hsz hor nn n1 h1 hn;lia)) yn Ph)
theorem wpS_binarySort {st:SortSt} {lo n ok:Nat} {Q:Bool->SortSt->Prop} (C:z7 prog w A s κ a₀ rk) (hn:lo+n<=a₀.size) (hok:ok<=n) (hB:SB κ a₀ pd st) (hs:Seg rk (arrOf st) lo (lo+ok))
 (h:∀st',SB κ a₀ pd st'->Kb lo st st'->Seg rk (arrOf st') lo (lo+n)->Q true st'):wpS (model prog w) A E s (binarySort' lo n ok) Q st:=by
 rw [binarySort'_eq]
 refine wpS_bind (wpS_mono (wpS_forRange (I:=fun k c st'=>c=(none,())/\SB κ a₀ pd st'/\Kb lo st st'/\Seg rk (arrOf st') lo (lo+min k n))
  (Q:=fun c st'=>c=(none,())/\SB κ a₀ pd st'/\Kb lo st st'/\Seg rk (arrOf st') lo (lo+n)) ?step ?fin ?init) ?post)
 case post=>
  rintro c st' ⟨rfl,hB',k',hs'⟩;exact wpS_pure (h st' hB' k' hs')
 case init=>
  refine ⟨rfl,hB,Kb.refl,fun i j a b c=> ?_⟩
  by_cases h1:ok=0
  ·rw [show i=j by (clear hok hn;lia)];exact Nat.le_refl _
  ·exact hs i j a b (by (clear b a hok hn;lia))
 case fin=>
  rintro c st' ⟨hc,hB',k',hs'⟩;refine ⟨hc,hB',k', ?_⟩;rwa [show min (max (max ok 1) n) n=n by (clear hc hok hn;lia)] at hs'
 case step=>
  rintro k c st' hak hkn ⟨rfl,hB',k',hs'⟩;rw [show min k n=k by (clear hak hok hn;lia)] at hs';have sz:(arrOf st').size=a₀.size:=hB'.size
  refine wpS_bind (wpS_mono (wpS_forRange (I:=fun x c st''=>st''=st' /\ ∃l r,c=(none,l,r)/\l<=r/\r<=k/\r - l<=k - x /\
   (∀i,i<l->R rk (arrOf st') (lo+i)<=R rk (arrOf st') (lo+k))/\(∀i,r<=i->i<k->R rk (arrOf st') (lo+k)<R rk (arrOf st') (lo+i)))
   (Q:=fun c st''=>st''=st' /\ ∃l r,c=(none,l,r)/\l<=k /\
     (∀i,i<l->R rk (arrOf st') (lo+i)<=R rk (arrOf st') (lo+k))/\(∀i,l<=i->i<k->R rk (arrOf st') (lo+k)<R rk (arrOf st') (lo+i))) ?istep ?ifin ?iinit) ?ipost)
  case iinit=>exact ⟨rfl,0,k,rfl,by (clear sz hkn hak hok hn;lia),by (clear sz hkn hak hok hn;lia),by (clear sz hkn hak hok hn;lia),fun i hi=>by (clear sz hkn hak hok hn;lia),fun i h1 h2=>by (clear sz hkn hak hok hn;lia)⟩
  case ifin=>
   rintro c st'' ⟨rfl,l,r,rfl,hlr,hrk,hm,hlo,hhi⟩;have:l=r:=by (clear hrk sz hkn hak hok hn;lia)
   subst this;exact ⟨rfl,l,l,rfl,hrk,hlo,hhi⟩
  case istep=>
   rintro x c st'' _ hxk ⟨rfl,l,r,rfl,hlr,hrk,hm,hlo,hhi⟩;dsimp only;refine aL (fun hge=> ?_) (fun hge=> ?_)
   ·have:l=r:=by (clear hm hrk sz hxk hkn hak hok hn;lia)
    subst this;exact wpS_pure ⟨rfl,l,l,rfl,hrk,hlo,hhi⟩
   ·refine wpS_bind (iQ C hB' (by (clear hge hm hrk hlr sz hxk hak hok;lia)) (by (clear hge hm sz hxk hak hok;lia)) ?_)
    dsimp only;refine aL (fun lt=> ?_) (fun lt=> ?_)
    ·have lt:=of_decide_eq_true lt
     refine wpS_pure ⟨rfl,l,(l+r) / 2,rfl,by (clear lt hge hm hrk sz hxk hkn hak hok hn;lia),by (clear lt hge hm sz hxk hkn hak hok hn;lia),by (clear lt hge hrk hlr sz hxk hkn hak hok hn;lia),hlo,fun i h1 h2=> ?_⟩;exact Nat.lt_of_lt_of_le lt (hs' _ _ (by (clear h2 h1 lt hge hm hrk hlr sz hxk hkn hak hok hn;lia)) (by (clear h2 lt hge hm hrk hlr sz hxk hkn hak hok hn;lia)) (by (clear h1 lt hge hm hrk hlr sz hxk hkn hak hok hn;lia)))
    ·have lt:R rk (arrOf st'') (lo+(l+r) / 2)<=R rk (arrOf st'') (lo+k):=Nat.le_of_not_lt fun z=>lt (decide_eq_true z)
     refine wpS_pure ⟨rfl,(l+r) / 2+1,r,rfl,by (clear lt hm hrk hlr sz hxk hkn hak hok hn;lia),by (clear lt hge hm hlr sz hxk hkn hak hok hn;lia),by (clear lt hge hrk hlr sz hxk hkn hak hok hn;lia),fun i h1=> ?_,hhi⟩;exact Nat.le_trans (hs' (lo+i) (lo+(l+r) / 2) (by (clear h1 lt hge hm hrk hlr sz hxk hkn hak hok hn;lia)) (by (clear lt hge hm hrk hlr sz hxk hkn hak hok hn;lia)) (by (clear h1 lt hm hlr sz hxk hkn hak hok hn;lia))) lt
  case ipost=>
   rintro c st'' ⟨rfl,l,r,rfl,hlk,hlo,hhi⟩;show wpS _ _ _ _ (do moveDown' (lo+k) (lo+l);pure (ForInStep.yield (none,()))) _ _;rw [moveDown'_eq];refine wpS_bind (wpS_modify (wpS_pure ⟨rfl,hB'.setArr (bubble_perm _ _ _),k'.trans ?_, ?_⟩))
   ·intro i hi
    show (bubble (arrOf st'') (lo+k) (lo+k - (lo+l)))[i]? = _;rw [getElem?_bubble (by (clear hi hlk hak hok;lia)) _ (by (clear hi hlk sz hkn hak hok hn;lia)),if_neg (by (clear hlk sz hkn hak hok hn;lia)),if_neg (by (clear hlk sz hkn hak hok hn;lia))]
   rw [show min (k+1) n=k+1 by (clear hlk sz hak hok hn;lia)];intro i j a b c;show R rk (bubble (arrOf st'') (lo+k) (lo+k - (lo+l))) i<=R rk (bubble (arrOf st'') (lo+k) (lo+k - (lo+l))) j;rw [zU (by (clear c b a hlk hak hok;lia)) (by (clear c b a hlk sz hkn hak hok hn;lia)),zU (by (clear c b a hlk hak hok;lia)) (by (clear c b a hlk sz hkn hak hok hn;lia)),show lo+k - (lo+k - (lo+l))=lo+l by (clear c b a sz hkn hak hok hn;lia)]
   have L1:∀i,lo<=i->i<lo+l->R rk (arrOf st'') i<=R rk (arrOf st'') (lo+k):=fun i i1 i2=>by
    have:=hlo (i - lo) (by (clear c b a hlk sz hkn hak hok hn;lia));rwa [show lo+(i - lo)=i by (clear this i2 c b a hlk sz hkn hak hok hn;lia)] at this
   have L2:∀i,lo+l<=i->i<lo+k->R rk (arrOf st'') (lo+k)<R rk (arrOf st'') i:=fun i i1 i2=>by
    have:=hhi (i - lo) (by (clear i2 c b a hlk sz hkn hak hok hn;lia)) (by (clear i1 c b a hlk sz hkn hok hn;lia));rwa [show lo+(i - lo)=i by (clear this i2 c b a hlk sz hkn hak hok hn;lia)] at this
   repeat' split
   all_goals first
    | (exfalso;(clear a hlk sz hkn hak hok hn;lia))
    | exact Nat.le_refl _
    | exact L1 _ (by (clear c b hlk sz hkn hak hok hn;lia)) (by (clear c a hlk sz hkn hak hok hn;lia))
    | exact Nat.le_of_lt (L2 _ (by (clear c b a hlk sz hkn hak hok hn;lia)) (by (clear c b a hlk sz hkn hak hok hn;lia)))
    | exact hs' _ _ (by (clear c b hlk sz hkn hak hok hn;lia)) (by (clear c a hlk sz hkn hak hok hn;lia)) (by (clear b a sz hkn hak hok hn;lia))
end
end Tim
set_option Elab.async false
set_option linter.all false
set_option maxRecDepth 100000
set_option maxHeartbeats 4000000
namespace Tim
open PySem PyProof.Rows
theorem yO (i:Nat):mergeAt' i=(do
 let s ←get
 let (some (sa,na,power),some (sb,nb,_)):=((pendingOf s)[i]?,(pendingOf s)[i+1]?)|unsupported "internal:list.sort.pending"
 set (SortSt.mk' (kindOf s) (arrOf s) (((pendingOf s).setIfInBounds i (sa,na+nb,power)).eraseIdxIfInBounds (i+1)) (gallopOf s) (failedOf s))
 let some k ←jt false (←elem' (arrOf s) sb) (arrOf s) sa na 0|return false
 let (sa,na):=(sa+k,na - k)
 if na==0 then return true
 let some nb ←jt true (←elem' (arrOf s) (sa+na - 1)) (arrOf s) sb nb (nb - 1)|return false
 if nb==0 then return true
 let x:=(arrOf s).extract sa sb
 let y:=(arrOf s).extract sb (sb+nb)
 let merged ←if na<=nb then sE x y else sG x y
 modify fun s=>setArr s (merged.toList.zipIdx.foldl (fun a (p,j)=>a.setIfInBounds (sa+j) p) (arrOf s))
 return (failedOf (←get)).isNone):=rfl
section
variable {prog:Program} {w:World} {A:Around} {E:Value->Shared->Prop} {s:Shared} {κ:SortKind} {a₀:Array Keyed} {rk:Value->Nat} {pd:Array (Nat×Nat×Nat)}
theorem Df (b:Nat) (m:List Keyed):∀(n:Nat) (xs:Array Keyed) (j:Nat),b+n+m.length<=xs.size->((m.zipIdx n).foldl (fun a x=>a.setIfInBounds (b+x.2) x.1) xs)[j]? = if b+n<=j/\j<b+n+m.length then m[j - (b+n)]? else xs[j]? :=by
 induction m with
 | nil=>intro n xs j h;rw [if_neg (by simp)];rfl
 | cons p m ih=>
   intro n xs j h;rw [List.length_cons] at h;rw [List.zipIdx_cons,List.foldl_cons,ih (n+1) _ j (by rw [Array.size_setIfInBounds];lia)]
   by_cases e:j=b+n
   ·subst e
    rw [if_neg (by (clear h;lia)),if_pos (by rw [List.length_cons];(clear h;lia)),Nat.sub_self];rw [Array.getElem?_setIfInBounds_self_of_lt (by lia)];rfl
   ·by_cases c:b+(n+1)<=j/\j<b+(n+1)+m.length
    ·rw [if_pos c,if_pos (by rw [List.length_cons];(clear e h;lia)),show j - (b+n)=(j - (b+(n+1)))+1 by (clear e h;lia),List.getElem?_cons_succ]
    ·rw [if_neg c,if_neg (by rw [List.length_cons];(clear h;lia)),Array.getElem?_setIfInBounds_ne (Ne.symm e)]
theorem Ig {b n:Nat} {m:List Keyed} {xs:Array Keyed} (hl:m.length=n) (hb:b+n<=xs.size) (hp:m.Perm ((xs.toList.drop b).take n)):((m.zipIdx).foldl (fun a x=>a.setIfInBounds (b+x.2) x.1) xs).Perm xs:=by
 have e:((m.zipIdx).foldl (fun a x=>a.setIfInBounds (b+x.2) x.1) xs).toList=xs.toList.take b++(m++xs.toList.drop (b+n)):=by
  have hx:xs.toList.length=xs.size:=Array.length_toList;apply List.ext_getElem?;intro j;rw [Array.getElem?_toList,Df b m 0 xs j (by (clear hx;lia))]
  by_cases j1:j<b
  ·rw [if_neg (by (clear hx hb hl;lia)),List.getElem?_append_left (by rw [List.length_take,hx];(clear hx hl;lia)),List.getElem?_take_of_lt j1,Array.getElem?_toList]
  ·rw [List.getElem?_append_right (by rw [List.length_take,hx];(clear hx hb hl;lia)),List.length_take,hx,Nat.min_eq_left (by (clear j1 hx hl;lia))]
   by_cases j2:j<b+n
   ·rw [if_pos (by (clear hx hb;lia)),List.getElem?_append_left (by (clear hx hb;lia))];rfl
   ·rw [if_neg (by (clear j1 hx hb;lia)),List.getElem?_append_right (by (clear j1 hx hb;lia)),List.getElem?_drop,Array.getElem?_toList]
    congr 1
    (clear j1 hx hb;lia)
 refine Array.perm_iff_toList_perm.mpr ?_;rw [e]
 have sp:xs.toList=xs.toList.take b++((xs.toList.drop b).take n++xs.toList.drop (b+n)):=by
  rw [←tQ,List.take_append_drop]
 refine List.Perm.trans ?_ (List.Perm.of_eq sp.symm);exact List.Perm.append_left _ (List.Perm.append_right _ hp)
theorem qm {xs:Array Keyed} {lo hi i:Nat} (h:lo+i<hi) (hh:hi<=xs.size):R rk (xs.extract lo hi) i=R rk xs (lo+i):=by
 apply fj;rw [Array.getElem?_extract];rw [if_pos (by lia)]
theorem Lq {σ:Type} {M:Model} {A:Around} {E:Value->Shared->Prop} {s:Shared} {x:σ} {Q:PUnit->σ->Prop} {st:σ} (h:Q ⟨⟩ x):wpS M A E s (set x:StateT σ Sem PUnit) Q st:=by
 unfold wpS;rw [StateT.run_set];exact wpAny_pure ⟨rfl,h⟩
theorem xT {st:SortSt} {i sa na pw sb nb Z4:Nat} {Q:Bool->SortSt->Prop} (C:z7 prog w A s κ a₀ rk) (hB:SB κ a₀ pd st) (h1:pd[i]? = some (sa,na,pw)) (h2:pd[i+1]? = some (sb,nb,Z4)) (hsb:sb=sa+na) (na1:1<=na) (cO:1<=nb) (hz:sb+nb<=a₀.size)
 (s1:Seg rk (arrOf st) sa (sa+na)) (s2:Seg rk (arrOf st) sb (sb+nb))
 (h:∀st',SB κ a₀ ((pd.setIfInBounds i (sa,na+nb,pw)).eraseIdxIfInBounds (i+1)) st'->(∀j,j<sa\/sb+nb<=j->(arrOf st')[j]? = (arrOf st)[j]?)->Seg rk (arrOf st') sa (sb+nb)->Q true st'):
 wpS (model prog w) A E s (mergeAt' i) Q st:=by
 rw [yO];refine wpS_bind (wpS_get ?_);rw [hB.pend,h1,h2];dsimp only;have sz:(arrOf st).size=a₀.size:=hB.size;have nU:∀p∈(arrOf st).toList,p∈a₀.toList:=fun p hp=>hB.mem hp;have Pa:∀i,i<a₀.size -> ∃p,(arrOf st)[i]? = some p/\p∈a₀.toList/\R rk (arrOf st) i=rk p.1:=fun i hi=>⟨(arrOf st)[i]'(by (clear hz cO na1 hsb h2 h1;lia)),getElem?_pos (arrOf st) i (by (clear hz cO na1 hsb h2 h1;lia)),hB.mem (by simp),fX (by (clear hz cO na1 hsb h2 h1;lia))⟩;refine wpS_bind (Lq ?_);have yX:SB κ a₀ ((pd.setIfInBounds i (sa,na+nb,pw)).eraseIdxIfInBounds (i+1)) (SortSt.mk' (kindOf st) (arrOf st) ((pd.setIfInBounds i (sa,na+nb,pw)).eraseIdxIfInBounds (i+1)) (gallopOf st) (failedOf st)):=⟨hB.perm,hB.kind,hB.failed,rfl⟩;have cC:arrOf (SortSt.mk' (kindOf st) (arrOf st) ((pd.setIfInBounds i (sa,na+nb,pw)).eraseIdxIfInBounds (i+1)) (gallopOf st) (failedOf st))=arrOf st:=rfl;generalize (pd.setIfInBounds i (sa,na+nb,pw)).eraseIdxIfInBounds (i+1)=pd1 at yX cC h ⊢;generalize SortSt.mk' (kindOf st) (arrOf st) pd1 (gallopOf st) (failedOf st)=st1 at yX cC ⊢;obtain ⟨p,ep,mp,rp⟩:=Pa sb (by (clear cC sz na1 hsb h2 h1;lia));refine wpS_bind (bB ep (wpS_bind (gk C yX.kind mp nU (by (clear rp ep cC cO na1 h2 h1;lia)) (by (clear rp ep cC sz hz cO hsb h2 h1;lia)) s1 fun k k1 k2 k3=> ?_)));dsimp only;refine aL (fun e=> ?_) (fun e=> ?_)
 ·have e:na - k=0:=eq_of_beq e
  refine wpS_pure (h st1 yX (fun j _=>by rw [cC]) fun i j a b c=> ?_);rw [cC]
  by_cases hj:j<sb
  ·exact s1 i j a b (by (clear c b a e k1 rp ep cC sz hz cO na1 h2 h1;lia))
  ·by_cases hi:i<sb
   ·have e1:=Ow (k2 (i - sa) (by (clear hj c b a k1 rp ep cC sz hz cO h2 h1;lia)))
    rw [show sa+(i - sa)=i by (clear e1 hi hj c b e k1 rp ep cC sz hz cO na1 hsb h2 h1;lia)] at e1;have e2:=s2 sb j (Nat.le_refl _) (by (clear e1 hi c b a e k1 rp ep cC sz hz cO na1 hsb h2 h1;lia)) c
    (clear hi hj c b a e k1 ep cC sz hz cO na1 hsb h2 h1;lia)
   ·exact s2 i j (by (clear hj c b a e k1 rp ep cC sz hz cO na1 hsb h2 h1;lia)) b c
 have ek:k<na:=by have:¬na - k=0:=fun z=>e (beq_iff_eq.mpr z);(clear e k1 rp ep cC sz hz cO na1 hsb h2 h1;lia)
 obtain ⟨q,eq,mq,rq⟩:=Pa (sa+k+(na - k) - 1) (by (clear ek e rp ep cC sz cO h2 h1;lia));refine wpS_bind (bB eq (wpS_bind (gk C yX.kind mq nU (by (clear rq eq ek e k1 rp ep cC cO na1 hsb h2 h1;lia)) (by (clear rq eq ek e k1 rp ep cC sz hz na1 hsb h2 h1;lia)) s2 fun n2 l1 l2 l3=> ?_)));dsimp only;have aN:sa+k+(na - k) - 1=sb - 1:=by (clear l1 rq eq ek e rp ep cC sz hz cO na1 h2 h1;lia)
 rw [aN] at rq;refine aL (fun e=> ?_) (fun e=> ?_)
 ·have e:n2=0:=eq_of_beq e
  refine wpS_pure (h st1 yX (fun j _=>by rw [cC]) fun i j a b c=> ?_);rw [cC]
  by_cases hj:j<sb
  ·exact s1 i j a b (by (clear c b a e aN l1 rq eq ek k1 rp ep cC sz hz cO na1 h2 h1;lia))
  ·by_cases hi:i<sb
   ·have e1:=zX (l3 (j - sb) (by (clear hi hj c b a aN l1 rq eq ek k1 rp ep cC sz hz cO na1 hsb h2 h1;lia)) (by (clear hi hj b a e aN l1 rq eq ek k1 rp ep cC sz hz na1 hsb h2 h1;lia)))
    rw [show sb+(j - sb)=j by (clear e1 hi c b a e aN l1 rq eq ek k1 rp ep cC sz hz cO na1 hsb h2 h1;lia)] at e1;have e2:=s1 i (sb - 1) a (by (clear e1 hj c b a e aN l1 rq eq ek k1 rp ep cC sz hz cO na1 hsb h2 h1;lia)) (by (clear e1 hi hj c b a e aN l1 rq eq ek k1 rp ep cC sz hz cO h2 h1;lia))
    (clear hi hj c b a e aN l1 eq ek k1 rp ep cC sz hz cO na1 hsb h2 h1;lia)
   ·exact s2 i j (by (clear hj c b a e aN l1 rq eq ek k1 rp ep cC sz hz cO na1 hsb h2 h1;lia)) b c
 have e2:¬n2=0:=fun z=>e (beq_iff_eq.mpr z);have dY:((arrOf st).extract (sa+k) sb).size=sb - (sa+k):=by rw [Array.size_extract,Nat.min_eq_left (by (clear e2 e aN l1 rq eq ek k1 rp ep cC cO na1 hsb h2 h1;lia))]
 have dZ:((arrOf st).extract sb (sb+n2)).size=n2:=by rw [Array.size_extract,Nat.min_eq_left (by (clear dY e2 e aN rq eq ek k1 rp ep cC cO na1 hsb h2 h1;lia))];(clear dY e2 e aN l1 rq eq ek k1 rp ep cC sz hz cO na1 hsb h2 h1;lia)
 have xin:∀p∈((arrOf st).extract (sa+k) sb).toList,p∈a₀.toList:=fun p hp=>nU p (by rw [cA] at hp;exact List.mem_of_mem_drop (List.mem_of_mem_take hp));have yin:∀p∈((arrOf st).extract sb (sb+n2)).toList,p∈a₀.toList:=fun p hp=>nU p (by rw [cA] at hp;exact List.mem_of_mem_drop (List.mem_of_mem_take hp))
 have sx:Seg rk ((arrOf st).extract (sa+k) sb) 0 ((arrOf st).extract (sa+k) sb).size:=fun i j a b c=>by
  rw [dY] at c;rw [qm (by (clear a dZ dY e2 e aN l1 rq eq ek k1 rp ep cC sz hz cO na1 hsb h2 h1;lia)) (by (clear c b a dZ dY e2 e aN l1 rq eq ek k1 rp ep cC cO na1 hsb h2 h1;lia)),qm (by (clear b a dZ dY e2 e aN l1 rq eq ek k1 rp ep cC sz hz cO na1 hsb h2 h1;lia)) (by (clear c b a dZ dY e2 e aN l1 rq eq ek k1 rp ep cC cO na1 hsb h2 h1;lia))];exact s1 _ _ (by (clear c b a dZ dY e2 e aN l1 rq eq ek k1 rp ep cC sz hz cO na1 hsb h2 h1;lia)) (by (clear c a dZ dY e2 e aN l1 rq eq ek k1 rp ep cC sz hz cO na1 hsb h2 h1;lia)) (by (clear b a dZ dY e2 e aN l1 rq eq ek k1 rp ep cC sz hz cO na1 h2 h1;lia))
 have sy:Seg rk ((arrOf st).extract sb (sb+n2)) 0 ((arrOf st).extract sb (sb+n2)).size:=fun i j a b c=>by
  rw [dZ] at c;rw [qm (by (clear a dZ dY e2 e aN l1 rq eq ek k1 rp ep cC sz hz cO na1 hsb h2 h1;lia)) (by (clear c b a dZ dY e2 e aN rq eq ek k1 rp ep cC cO na1 hsb h2 h1;lia)),qm (by (clear b a dZ dY e2 e aN l1 rq eq ek k1 rp ep cC sz hz cO na1 hsb h2 h1;lia)) (by (clear c b a dZ dY e2 e aN rq eq ek k1 rp ep cC cO na1 hsb h2 h1;lia))];exact s2 _ _ (by (clear c b a dZ dY e2 e aN l1 rq eq ek k1 rp ep cC sz hz cO na1 hsb h2 h1;lia)) (by (clear c a dZ dY e2 e aN l1 rq eq ek k1 rp ep cC sz hz cO na1 hsb h2 h1;lia)) (by (clear b a dZ dY e2 e aN rq eq ek k1 rp ep cC sz hz cO na1 hsb h2 h1;lia))
 have h0:R rk ((arrOf st).extract sb (sb+n2)) 0<=R rk ((arrOf st).extract (sa+k) sb) 0:=by
  rw [qm (by (clear dZ dY e aN l1 rq eq ek k1 rp ep cC sz hz cO na1 hsb h2 h1;lia)) (by (clear dZ dY e2 e aN rq eq ek k1 rp ep cC cO na1 hsb h2 h1;lia)),qm (by (clear dZ dY e2 e aN l1 rq eq k1 rp ep cC sz hz cO na1 h2 h1;lia)) (by (clear dZ dY e2 e aN l1 rq eq ek k1 rp ep cC cO na1 hsb h2 h1;lia)),Nat.add_zero,Nat.add_zero,rp];have:=Lf (k3 k (Nat.le_refl _) ek)
  (clear dZ dY e2 e aN l1 rq eq ek k1 rp ep cC sz hz cO na1 hsb h2 h1;lia)
 have hl:R rk ((arrOf st).extract sb (sb+n2)) (((arrOf st).extract sb (sb+n2)).size - 1)<=R rk ((arrOf st).extract (sa+k) sb) (((arrOf st).extract (sa+k) sb).size - 1):=by
  rw [dY,dZ,qm (by (clear h0 dZ dY e aN l1 rq eq ek k1 rp ep cC sz hz cO na1 hsb h2 h1;lia)) (by (clear h0 dZ dY e2 e aN rq eq ek k1 rp ep cC cO na1 hsb h2 h1;lia)),qm (by (clear h0 dZ dY e2 e aN l1 rq eq k1 rp ep cC sz hz cO na1 h2 h1;lia)) (by (clear h0 dZ dY e2 e aN l1 rq eq ek k1 rp ep cC cO na1 hsb h2 h1;lia)),show sa+k+(sb - (sa+k) - 1)=sb - 1 by (clear h0 dZ dY e2 e aN l1 rq eq k1 rp ep cC sz hz cO na1 h2 h1;lia),rq];have:=Tv (l2 (n2 - 1) (by (clear h0 dZ dY e aN l1 rq eq ek k1 rp ep cC sz hz cO na1 hsb h2 h1;lia)))
  (clear h0 dZ dY e2 e aN l1 rq eq ek k1 rp ep cC sz hz cO na1 hsb h2 h1;lia)
 have fin:∀r st2,xP st1 st2->Mg rk ((arrOf st).extract (sa+k) sb) ((arrOf st).extract sb (sb+n2)) r->wpS (model prog w) A E s (do
  modify fun s=>setArr s (List.foldl (fun a x=>a.setIfInBounds (sa+k+x.snd) x.fst) (arrOf s) r.toList.zipIdx)
  let __do_lift ←get
  pure (failedOf __do_lift).isNone) Q st2:=by
  intro r st2 k2' mg;have jz:arrOf st2=arrOf st:=k2'.a.trans cC;refine wpS_bind (wpS_modify ?_);refine wpS_bind (wpS_get ?_);have hf:failedOf (setArr st2 (List.foldl (fun a x=>a.setIfInBounds (sa+k+x.snd) x.fst) (arrOf st2) r.toList.zipIdx))=none:=k2'.f.trans yX.failed;rw [hf]
  have rl:r.toList.length=sb - (sa+k)+n2:=by
   rw [mg.perm.length_eq,List.length_append,Array.length_toList,Array.length_toList,dY,dZ]
  have rp':r.toList.Perm (((arrOf st).toList.drop (sa+k)).take (sb - (sa+k)+n2)):=by
   refine mg.perm.trans (List.Perm.of_eq ?_);rw [cA,cA,List.take_add,List.drop_drop,show sb+n2 - sb=n2 by (clear rl hf jz hl h0 dZ dY e2 e aN l1 rq eq ek k1 rp ep cC sz hz cO na1 hsb h2 h1;lia),show sa+k+(sb - (sa+k))=sb by (clear rl hf jz hl h0 dZ dY e2 e aN l1 rq eq ek rp ep cC sz hz cO na1 h2 h1;lia)]
  have get:∀j,(arrOf (setArr st2 (List.foldl (fun a x=>a.setIfInBounds (sa+k+x.snd) x.fst) (arrOf st2) r.toList.zipIdx)))[j]? = if sa+k<=j/\j<sb+n2 then r.toList[j - (sa+k)]? else (arrOf st)[j]? :=fun j=>by
   show (List.foldl (fun a x=>a.setIfInBounds (sa+k+x.snd) x.fst) (arrOf st2) r.toList.zipIdx)[j]? = _;rw [jz,Df (sa+k) r.toList 0 (arrOf st) j (by (clear hf jz hl h0 dZ dY e2 e aN rq eq ek rp ep cC cO na1 h2 h1;lia)),rl]
   by_cases c:sa+k<=j/\j<sb+n2
   ·rw [if_pos c,if_pos (by (clear rl hf jz hl h0 dZ dY e2 e aN l1 rq eq ek k1 rp ep cC sz hz cO na1 hsb h2 h1;lia))];rfl
   ·rw [if_neg c,if_neg (by (clear rl hf jz hl h0 dZ dY e2 e aN l1 rq eq ek rp ep cC sz hz cO na1 h2 h1;lia))]
  have hB2:SB κ a₀ pd1 (setArr st2 (List.foldl (fun a x=>a.setIfInBounds (sa+k+x.snd) x.fst) (arrOf st2) r.toList.zipIdx)):=by
   refine ⟨?_,k2'.k.trans yX.kind,hf,k2'.p.trans yX.pend⟩;show (List.foldl (fun a x=>a.setIfInBounds (sa+k+x.snd) x.fst) (arrOf st2) r.toList.zipIdx).Perm a₀;rw [jz];exact (Ig rl (by (clear rl hf jz hl h0 dZ dY e2 e aN rq eq ek rp ep cC cO na1 h2 h1;lia)) rp').trans hB.perm
  generalize setArr st2 (List.foldl (fun a x=>a.setIfInBounds (sa+k+x.snd) x.fst) (arrOf st2) r.toList.zipIdx)=st3 at get hB2 ⊢;have out:∀j,¬(sa+k<=j/\j<sb+n2)->R rk (arrOf st3) j=R rk (arrOf st) j:=fun j hj=>fj (by rw [get j,if_neg hj])
  have mid:∀j,sa+k<=j->j<sb+n2 -> ∃j0,sa+k<=j0/\j0<sb+n2/\R rk (arrOf st3) j=R rk (arrOf st) j0:=fun j j1 j2=>by
   have e:=get j;rw [if_pos ⟨j1,j2⟩,List.getElem?_eq_getElem (by (clear e j1 hf jz hl h0 dZ dY e2 aN l1 rq eq k1 rp ep cC sz hz cO na1 h2 h1;lia))] at e;have hm:r.toList[j - (sa+k)]'(by (clear e j1 hf jz hl h0 dZ dY e2 aN l1 rq eq k1 rp ep cC sz hz cO na1 h2 h1;lia))∈((arrOf st).toList.drop (sa+k)).take (sb - (sa+k)+n2):=rp'.mem_iff.mp (List.getElem_mem _);obtain ⟨j0,a1,a2,a3⟩:=gK (rk:=rk) hm;exact ⟨sa+k+j0,by (clear a3 a2 a1 e j1 hf jz hl h0 dZ dY e2 aN l1 rq eq k1 rp ep cC sz hz cO na1 h2 h1;lia),by (clear a3 a2 e j1 hf jz hl h0 dZ dY e2 aN l1 rq eq k1 rp ep cC sz hz cO na1 h2 h1;lia),by rw [uq e,a3]⟩
  refine wpS_pure (h st3 hB2 (fun j hj=>by rw [get j,if_neg (by (clear rl hf jz hl h0 dZ dY e2 e aN rq eq ek k1 rp ep cC sz hz cO na1 hsb h2 h1;lia))]) fun i j a b c=> ?_)
  by_cases i1:i<sa+k
  ·have ei:=Ow (k2 (i - sa) (by (clear c b rl hf jz hl h0 dZ dY e2 e aN l1 rq eq ek k1 rp ep cC sz hz cO na1 hsb h2 h1;lia)))
   rw [show sa+(i - sa)=i by (clear ei i1 c b rl hf jz hl h0 dZ dY e2 e aN l1 rq eq ek k1 rp ep cC sz hz cO na1 hsb h2 h1;lia),←rp] at ei;rw [out i (by (clear ei c b a rl hf jz hl h0 dZ dY e2 e aN l1 rq eq ek k1 rp ep cC sz hz cO na1 hsb h2 h1;lia))]
   have key:∀j0,sa+k<=j0->j0<sb+nb->R rk (arrOf st) i<=R rk (arrOf st) j0:=fun j0 b1 b2=>by
    by_cases c:j0<sb
    ·exact s1 i j0 a (by (clear c b2 ei b a rl hf jz hl h0 dZ dY e2 e aN l1 rq eq ek k1 rp ep cC sz hz cO na1 hsb h2 h1;lia)) (by (clear b2 b1 ei i1 b a rl hf jz hl h0 dZ dY e2 e aN l1 rq eq ek k1 rp ep cC sz hz cO na1 h2 h1;lia))
    ·have:=s2 sb j0 (Nat.le_refl _) (by (clear b2 b1 ei i1 b a rl hf jz hl h0 dZ dY e2 e aN l1 rq eq ek k1 rp ep cC sz hz cO na1 hsb h2 h1;lia)) b2;(clear c b2 b1 i1 b a rl hf jz hl h0 dZ dY e2 e aN l1 rq eq ek k1 rp ep cC sz hz cO na1 hsb h2 h1;lia)
   by_cases j1:sa+k<=j/\j<sb+n2
   ·obtain ⟨j0,b1,b2,b3⟩:=mid j j1.1 j1.2
    rw [b3];exact key j0 b1 (by (clear b3 b1 j1 ei i1 c b a rl hf jz hl h0 dZ dY e2 e aN rq eq ek k1 rp ep cC sz hz cO na1 hsb h2 h1;lia))
   ·rw [out j j1]
    by_cases j2:j<sa+k
    ·exact s1 i j a b (by (clear j1 ei i1 c b a rl hf jz hl h0 dZ dY e2 e aN l1 rq eq ek rp ep cC sz hz cO na1 hsb h2 h1;lia))
    ·exact key j (by (clear j1 ei i1 c b a rl hf jz hl h0 dZ dY e2 e aN l1 rq eq ek k1 rp ep cC sz hz cO na1 hsb h2 h1;lia)) c
  ·by_cases i2:i<sb+n2
   ·by_cases j2:j<sb+n2
    ·have e1:=get i
     have e2:=get j;rw [if_pos ⟨by (clear e2 e1 j2 i2 c b a rl hf jz hl h0 dZ dY e aN l1 rq eq ek k1 rp ep cC sz hz cO na1 hsb h2 h1;lia),i2⟩,List.getElem?_eq_getElem (by (clear e2 e1 j2 i1 c b a hf jz hl h0 dZ dY e aN l1 rq eq ek k1 rp ep cC sz hz cO na1 hsb h2 h1;lia))] at e1;rw [if_pos ⟨by (clear e2 e1 j2 i2 c a rl hf jz hl h0 dZ dY e aN l1 rq eq ek k1 rp ep cC sz hz cO na1 hsb h2 h1;lia),j2⟩,List.getElem?_eq_getElem (by (clear e2 e1 i2 i1 c b a hf jz hl h0 dZ dY e aN l1 rq eq ek k1 rp ep cC sz hz cO na1 hsb h2 h1;lia))] at e2;rw [uq e1,uq e2]
     by_cases eij:i=j
     ·subst eij;exact Nat.le_refl _
     ·exact List.pairwise_iff_getElem.mp mg.xJ _ _ _ _ (by (clear e2 e1 j2 i2 c a rl hf jz hl h0 dZ dY e aN l1 rq eq ek k1 rp ep cC sz hz cO na1 hsb h2 h1;lia))
    ·obtain ⟨i0,b1,b2,b3⟩:=mid i (by (clear j2 i2 c b a rl hf jz hl h0 dZ dY e2 e aN l1 rq eq ek k1 rp ep cC sz hz cO na1 hsb h2 h1;lia)) i2
     rw [b3,out j (by (clear b3 b2 b1 i2 i1 c b a rl hf jz hl h0 dZ dY e2 e aN l1 rq eq ek k1 rp ep cC sz hz cO na1 hsb h2 h1;lia))]
     by_cases c':i0<sb
     ·have e1:=s1 i0 (sb - 1) (by (clear c' b3 b2 j2 i2 i1 c b a rl hf jz hl h0 dZ dY e2 e aN l1 rq eq ek k1 rp ep cC sz hz cO na1 hsb h2 h1;lia)) (by (clear b3 b2 b1 j2 i2 i1 c b a rl hf jz hl h0 dZ dY e2 e aN l1 rq eq ek k1 rp ep cC sz hz cO na1 hsb h2 h1;lia)) (by (clear c' b3 b2 b1 j2 i2 i1 c b a rl hf jz hl h0 dZ dY e2 e aN l1 rq eq ek k1 rp ep cC sz hz cO h2 h1;lia))
      have e2:=zX (l3 (j - sb) (by (clear e1 c' b3 b2 b1 i2 i1 c b a rl hf jz hl h0 dZ dY e2 e aN l1 rq eq ek k1 rp ep cC sz hz cO na1 hsb h2 h1;lia)) (by (clear e1 c' b3 b2 b1 j2 i2 i1 b a rl hf jz hl h0 dZ dY e2 e aN l1 rq eq ek k1 rp ep cC sz hz na1 hsb h2 h1;lia)));rw [show sb+(j - sb)=j by (clear e2 e1 c' b3 b2 b1 i2 i1 c b a rl hf jz hl h0 dZ dY e aN l1 rq eq ek k1 rp ep cC sz hz cO na1 hsb h2 h1;lia),←rq] at e2
      (clear c' b3 b2 b1 j2 i2 i1 c b a rl hf jz hl h0 dZ dY e aN l1 rq eq ek k1 rp ep cC sz hz cO na1 hsb h2 h1;lia)
     ·exact s2 i0 j (by (clear b3 b2 b1 j2 i2 i1 c b a rl hf jz hl h0 dZ dY e2 e aN l1 rq eq ek k1 rp ep cC sz hz cO na1 hsb h2 h1;lia)) (by (clear c' b3 b1 i2 i1 c b a rl hf jz hl h0 dZ dY e2 e aN l1 rq eq ek k1 rp ep cC sz hz cO na1 hsb h2 h1;lia)) c
   ·rw [out i (by (clear i1 c b a rl hf jz hl h0 dZ dY e2 e aN l1 rq eq ek k1 rp ep cC sz hz cO na1 hsb h2 h1;lia)),out j (by (clear i1 c a rl hf jz hl h0 dZ dY e2 e aN l1 rq eq ek k1 rp ep cC sz hz cO na1 hsb h2 h1;lia))]
    exact s2 i j (by (clear i1 c b a rl hf jz hl h0 dZ dY e2 e aN l1 rq eq ek k1 rp ep cC sz hz cO na1 hsb h2 h1;lia)) b c
 refine aL (fun _=> ?_) (fun _=> ?_)
 ·exact wpS_bind (xQ C yX.kind xin yin (by (clear hl h0 dZ e2 e aN l1 rq eq k1 rp ep cC sz hz cO na1 h2 h1;lia)) (by (clear hl h0 dY e2 e aN l1 rq eq k1 rp ep cC sz hz cO na1 hsb h2 h1;lia)) sx sy h0 hl fin)
 ·exact wpS_bind (xR C yX.kind xin yin (by (clear hl h0 dZ e2 e aN l1 rq eq ek k1 rp ep cC sz hz cO na1 h2 h1;lia)) (by (clear hl h0 dY e aN l1 rq eq ek k1 rp ep cC sz hz cO na1 hsb h2 h1;lia)) sx sy h0 hl fin)
end
end Tim
set_option Elab.async false
set_option linter.all false
set_option maxRecDepth 100000
set_option maxHeartbeats 4000000
namespace Tim
open PySem PyProof.Rows
section
variable {prog:Program} {w:World} {A:Around} {E:Value->Shared->Prop} {s:Shared} {κ:SortKind} {a₀:Array Keyed} {rk:Value->Nat} {pd:Array (Nat×Nat×Nat)}
def Runs (rk:Value->Nat) (xs:Array Keyed):List (Nat×Nat×Nat)->Nat->Nat->Prop
 | [],a,e=>a=e
 | (s,n,_)::r,a,e=>s=a/\1<=n/\Seg rk xs a (a+n)/\Runs rk xs r (a+n) e
theorem Runs.le {xs:Array Keyed}:∀{l:List (Nat×Nat×Nat)} {a e:Nat},Runs rk xs l a e->a+l.length<=e
 | [],a,e,h=>Nat.le_of_eq h
 | (s,n,_)::r,a,e,h=>by
   have:=Runs.le h.2.2.2;have:=h.2.1;rw [List.length_cons];lia
theorem Runs.app {xs:Array Keyed} {r:List (Nat×Nat×Nat)}:∀{l:List (Nat×Nat×Nat)} {a e:Nat},Runs rk xs (l++r) a e ↔ ∃m,Runs rk xs l a m/\Runs rk xs r m e
 | [],a,e=>⟨fun h=>⟨a,rfl,h⟩,fun ⟨m,h1,h2⟩=>by
     have h1:a=m:=h1;subst h1;exact h2⟩
 | (s,n,_)::l,a,e=>by
   constructor
   ·rintro ⟨h1,h2,h3,h4⟩
    obtain ⟨m,m1,m2⟩:=Runs.app.mp h4;exact ⟨m,⟨h1,h2,h3,m1⟩,m2⟩
   ·rintro ⟨m,⟨h1,h2,h3,h4⟩,m2⟩
    exact ⟨h1,h2,h3,Runs.app.mpr ⟨m,h4,m2⟩⟩
theorem Runs.congr {xs ys:Array Keyed}:∀{l:List (Nat×Nat×Nat)} {a e:Nat},Runs rk xs l a e->(∀j,a<=j->j<e->R rk xs j=R rk ys j)->Runs rk ys l a e
 | [],a,e,h,_=>h
 | (s,n,_)::r,a,e,⟨h1,h2,h3,h4⟩,g=>by
   have le:=Runs.le h4;refine ⟨h1,h2,fun i j x y z=> ?_,Runs.congr h4 fun j x y=>g j (by (clear y le h2 h1;lia)) y⟩;rw [←g i x (by (clear x h2 h1;lia)),←g j (by (clear z le h2 h1;lia)) (by (clear y x h2 h1;lia))];exact h3 i j x y z
theorem Qu {α:Type} {l:List α} {i:Nat} (h:i+1<l.length):∃pre p q post,l=pre++p::q::post/\pre.length=i:=by
 refine ⟨l.take i,l[i],l[i+1],l.drop (i+2), ?_,by rw [List.length_take];lia⟩;rw [←List.drop_eq_getElem_cons,←List.drop_eq_getElem_cons,List.take_append_drop]
theorem mJ {st:SortSt} {i e:Nat} {Q:Bool->SortSt->Prop} (C:z7 prog w A s κ a₀ rk) (hB:SB κ a₀ pd st) (hr:Runs rk (arrOf st) pd.toList 0 e) (he:e<=a₀.size) (hi:i+1<pd.size)
 (h:∀pd' st',SB κ a₀ pd' st'->Runs rk (arrOf st') pd'.toList 0 e->pd'.size+1=pd.size->(∀j,e<=j->(arrOf st')[j]? = (arrOf st)[j]?)->Q true st'):wpS (model prog w) A E s (mergeAt' i) Q st:=by
 obtain ⟨pre,⟨sa,na,pw⟩,⟨sb,nb,Z4⟩,post,el,pl⟩:=Qu (l:=pd.toList) (i:=i) (by rw [Array.length_toList];exact hi);rw [el] at hr;obtain ⟨m,r1,r2⟩:=Runs.app.mp hr;obtain ⟨e1,n1,s1,e2,n2,s2,r3⟩:=r2;subst e1;have fK:=Runs.le r3;have h1:pd[i]? = some (sa,na,pw):=by rw [←Array.getElem?_toList,el,List.getElem?_append_right (by (clear fK e2 n2 n1 el hi he;lia)),pl,Nat.sub_self];rfl
 have h2:pd[i+1]? = some (sb,nb,Z4):=by rw [←Array.getElem?_toList,el,List.getElem?_append_right (by (clear h1 fK e2 n2 n1 el hi he;lia)),pl,show i+1 - i=1 by (clear h1 fK e2 n2 n1 pl el hi he;lia)];rfl
 refine xT C hB h1 h2 e2 n1 n2 (by (clear h2 h1 n2 n1 pl el hi;lia)) s1 (by rw [e2];exact s2) fun st' hB' out seg=> ?_
 have ep:((pd.setIfInBounds i (sa,na+nb,pw)).eraseIdxIfInBounds (i+1)).toList=pre++(sa,na+nb,pw)::post:=by
  rw [Array.toList_eraseIdxIfInBounds,Array.toList_setIfInBounds,el,List.set_append_right _ _ (by (clear h2 h1 fK e2 n2 n1 el hi he;lia)),pl,Nat.sub_self];rw [List.eraseIdx_append_of_length_le (by (clear h2 h1 fK e2 n2 n1 el hi he;lia)),pl,show i+1 - i=1 by (clear h2 h1 fK e2 n2 n1 pl el hi he;lia)];rfl
 refine h _ st' hB' ?_ ?_ fun j hj=>out j (.inr (by (clear ep h2 h1 n2 n1 pl el hi he;lia)))
 ·rw [ep]
  refine Runs.app.mpr ⟨sa,r1.congr fun j _ j2=>fj (out j (.inl j2)).symm,rfl,by (clear ep h2 h1 fK e2 n2 pl el hi he;lia), ?_, ?_⟩
  ·rw [show sa+(na+nb)=sb+nb by (clear ep h2 h1 fK n2 n1 pl el hi he;lia)];exact seg
  ·rw [←Nat.add_assoc]
   exact r3.congr fun j j1 j2=>fj (out j (.inr (by (clear j2 ep h2 h1 fK n2 n1 pl el hi he;lia)))).symm
 ·rw [←Array.length_toList,ep,←Array.length_toList,el]
  simp only [List.length_append,List.length_cons]
  (clear ep h2 h1 fK e2 n2 n1 pl el hi he;lia)
theorem Runs.modify {xs:Array Keyed} {f:Nat×Nat×Nat->Nat×Nat×Nat} (hf:∀x,(f x).1=x.1/\(f x).2.1=x.2.1) (l:List (Nat×Nat×Nat)):∀(i a e:Nat),Runs rk xs l a e->Runs rk xs (l.modify i f) a e:=by
 induction l with
 | nil=>intro i a e h;cases i<;>exact h
 | cons t r ih=>
   obtain ⟨s,n,p⟩:=t;intro i a e h;obtain ⟨h1,h2,h3,h4⟩:=h;cases i with
   | zero=>
     rw [List.modify_zero_cons];have e2:=hf (s,n,p);rcases hfp:f (s,n,p) with ⟨s',n',p'⟩
     rw [hfp] at e2;obtain ⟨q1,q2⟩:=e2;have q1:s'=s:=q1;have q2:n'=n:=q2;rw [q1,q2];exact ⟨h1,h2,h3,h4⟩
   | succ i=>
     rw [List.modify_succ_cons];exact ⟨h1,h2,h3,ih i _ _ h4⟩
theorem wpS_sortRuns {st:SortSt} {Q:Unit->SortSt->Prop} (C:z7 prog w A s κ a₀ rk) (hB:SB κ a₀ #[] st) (h2:2<=a₀.size)
 (h:∀st',(arrOf st').Perm a₀->failedOf st'=none->Seg rk (arrOf st') 0 a₀.size->Q () st'):wpS (model prog w) A E s sortRuns' Q st:=by
 rw [sortRuns'_eq];refine wpS_bind (wpS_get ?_);dsimp only;simp only [hB.size];generalize minRun' a₀.size a₀.size 0=mr
 refine wpS_bind (wpS_mono (wpS_forRange (I:=fun x c st'=>∃lo pd,c=(none,lo)/\x<=lo/\lo<=a₀.size/\SB κ a₀ pd st'/\Runs rk (arrOf st') pd.toList 0 lo)
  (Q:=fun c st'=>∃pd,c=(none,a₀.size)/\SB κ a₀ pd st'/\Runs rk (arrOf st') pd.toList 0 a₀.size) ?step ?fin ⟨0, #[],rfl,by (clear h2;lia),by (clear h2;lia),hB,rfl⟩) ?post)
 case fin=>
  rintro c st' ⟨lo,pd,rfl,x1,x2,hB',hr⟩;have:lo=a₀.size:=by (clear h2;lia)
  subst this;exact ⟨pd,rfl,hB',hr⟩
 case step=>
  rintro x c st' _ hx ⟨lo,pd,rfl,x1,x2,hB',hr⟩;dsimp only;refine aL (fun ge=> ?_) (fun ge=> ?_)
  ·have:lo=a₀.size:=by (clear x1 hx h2;lia)
   subst this;exact wpS_pure ⟨pd,rfl,hB',hr⟩
  refine wpS_bind (wpS_countRun C (by (clear ge x1 hx h2;lia)) (by (clear x2 x1 hx h2;lia)) hB' fun m st2 hB2 kb2 m1 m2 hs2=> ?_);dsimp only;have hr2:=hr.congr (ys:=arrOf st2) fun j _ j2=>fj (kb2 j j2).symm;apply aL
  case' h1=>
   intro lt;refine wpS_bind (wpS_lift (wpAny_rule ⟨rfl, ?_⟩));refine wpS_bind (wpS_binarySort C (by (clear lt m2 m1 ge x1 hx h2;lia)) (by (clear m1 ge x2 x1 hx h2;lia)) hB2 hs2 fun st3 hB3 kb3 hs3=> ?_);simp only [Bool.not_true,Bool.false_eq_true,if_false];have V2:=hr2.congr (ys:=arrOf st3) fun j _ j2=>fj (kb3 j j2).symm;have n1:1<=min (a₀.size - lo) mr:=by (clear m2 m1 x2 x1 hx h2;lia)
   have n2:min (a₀.size - lo) mr<=a₀.size - lo:=by (clear n1 lt m2 m1 ge x2 x1 hx h2;lia)
   generalize min (a₀.size - lo) mr=n at hs3 n1 n2 ⊢
  case' h2=>
   intro lt;have V2:=hr2;have hB3:=hB2;have hs3:=hs2;have n1:=m1;have n2:=m2;revert V2 hB3 hs3;generalize st2=st3;revert n1 n2;generalize m=n;intro n1 n2 V2 hB3 hs3
  all_goals
   refine wpS_bind (wpS_get ?_)
   have done:∀kI kZ,SB κ a₀ kI kZ->Runs rk (arrOf kZ) kI.toList 0 lo->Seg rk (arrOf kZ) lo (lo+n)->wpS (model prog w) A E s (do
    modify fun s=>setPending s ((pendingOf s).push (lo,n,0))
    pure (ForInStep.yield ((none:Option Unit),lo+n))) (fun r st'=>match r with
     | ForInStep.done c'=>∃pd,c'=(none,a₀.size)/\SB κ a₀ pd st'/\Runs rk (arrOf st') pd.toList 0 a₀.size
     | ForInStep.yield c'=>∃lo pd,c'=(none,lo)/\x+1<=lo/\lo<=a₀.size/\SB κ a₀ pd st'/\Runs rk (arrOf st') pd.toList 0 lo) kZ:=by
    intro kI kZ pG wJ RZ;refine wpS_bind (wpS_modify (wpS_pure ⟨lo+n,kI.push (lo,n,0),rfl,by (clear n2 lt m2 m1 ge x2 hx h2;lia),by (clear n1 lt m2 m1 ge x1 hx h2;lia),⟨pG.perm,pG.kind,pG.failed,by show (pendingOf kZ).push _=_;rw [pG.pend]⟩, ?_⟩));rw [Array.toList_push];exact Runs.app.mpr ⟨lo,wJ,rfl,n1,RZ,rfl⟩
   cases hb:(pendingOf st3).back? with
   | none=>exact done _ _ hB3 V2 hs3
   | some t=>
     obtain ⟨s1,n1',pw⟩:=t;dsimp only;generalize power' a₀.size (2*s1+n1') (2*s1+n1'+n1'+n) a₀.size=pwr
     refine wpS_bind (wpS_mono (wpS_forRange (I:=fun y c kZ=>∃kI,c=(none,())/\SB κ a₀ kI kZ/\Runs rk (arrOf kZ) kI.toList 0 lo/\Seg rk (arrOf kZ) lo (lo+n))
      (Q:=fun c kZ=>∃kI,c=(none,())/\SB κ a₀ kI kZ/\Runs rk (arrOf kZ) kI.toList 0 lo/\Seg rk (arrOf kZ) lo (lo+n)) ?_ (fun _ _ z=>z) ⟨_,rfl,hB3,V2,hs3⟩) ?_)
     ·rintro y c kZ _ hy ⟨kI,rfl,pG,wJ,RZ⟩
      refine wpS_bind (wpS_get ?_);rw [pG.pend];cases hg:(if kI.size>1 then kI[kI.size - 2]? else none) with
      | none=>exact wpS_pure ⟨kI,rfl,pG,wJ,RZ⟩
      | some t=>
        obtain ⟨f1,f2,older⟩:=t;dsimp only
        have gt:kI.size>1:=by
         by_cases g:kI.size>1
         ·exact g
         ·rw [if_neg g] at hg;cases hg
        refine aL (fun _=> ?_) (fun _=> ?_)
        ·exact wpS_pure ⟨kI,rfl,pG,wJ,RZ⟩
        ·refine wpS_bind (mJ C pG wJ x2 (by (clear hg hy hb n2 n1 lt m2 m1 ge x2 x1 hx h2;lia)) fun pd5 ux hB5 hr5 _ U8=> ?_)
         simp only [Bool.not_true,Bool.false_eq_true,if_false];refine wpS_pure ⟨pd5,rfl,hB5,hr5,fun i j a b c=> ?_⟩;rw [fj (U8 i a),fj (U8 j (by (clear c gt hg hy hb n2 n1 lt m2 m1 ge x2 x1 hx h2;lia)))];exact RZ i j a b c
     ·rintro c kZ ⟨kI,rfl,pG,wJ,RZ⟩
      dsimp only;refine wpS_bind (wpS_modify ?_);refine done _ _ ⟨pG.perm,pG.kind,pG.failed,rfl⟩ ?_ RZ;rw [←pG.pend] at wJ;rw [Array.toList_modify];refine Runs.modify (fun x=> ?_) _ _ _ _ wJ;exact ⟨rfl,rfl⟩
 case post=>
  rintro c st' ⟨pd,rfl,hB',hr⟩;dsimp only;have le:=Runs.le hr;rw [Array.length_toList] at le
  refine wpS_bind (wpS_mono (wpS_forRange (I:=fun y c kZ=>∃kI,c=(none,())/\SB κ a₀ kI kZ/\Runs rk (arrOf kZ) kI.toList 0 a₀.size/\kI.size<=max 1 (a₀.size - y))
   (Q:=fun c kZ=>∃kI,c=(none,())/\SB κ a₀ kI kZ/\Runs rk (arrOf kZ) kI.toList 0 a₀.size/\kI.size<=1) ?_ ?_ ⟨pd,rfl,hB',hr,by (clear h2;lia)⟩) ?_)
  ·rintro y c kZ _ hy ⟨kI,rfl,pG,wJ,Vt⟩
   refine wpS_bind (wpS_get ?_);rw [pG.pend];refine aL (fun l1=> ?_) (fun l1=> ?_)
   ·exact wpS_pure ⟨kI,rfl,pG,wJ,l1⟩
   ·have hix:∀(c:Prop) [Decidable c],(if c then kI.size - 2 - 1 else kI.size - 2)+1<kI.size:=by
     intro c _;split<;>(clear Vt hy le h2;lia)
    refine wpS_bind (mJ C pG wJ (Nat.le_refl _) (hix _) fun pd5 ux hB5 hr5 z5 _=> ?_);simp only [Bool.not_true,Bool.false_eq_true,if_false];exact wpS_pure ⟨pd5,rfl,hB5,hr5,by (clear l1 hy le h2;lia)⟩
  ·rintro c kZ ⟨kI,rfl,pG,wJ,Vt⟩
   exact ⟨kI,rfl,pG,wJ,by (clear le h2;lia)⟩
  ·rintro c kZ ⟨kI,rfl,pG,wJ,Vt⟩
   refine wpS_pure (h kZ pG.perm pG.failed ?_);have ll:kI.toList.length<=1:=by rw [Array.length_toList];exact Vt
   match hl:kI.toList,ll,wJ with
   | [],_,wJ=>have:0=a₀.size:=wJ;(clear hl ll Vt le;lia)
   | [(s,n,p)],_,wJ=>
     obtain ⟨_,_,hs,e⟩:=wJ;have e:0+n=a₀.size:=e;rw [e] at hs;exact hs
end
end Tim
set_option Elab.async false
set_option linter.all false
set_option maxRecDepth 100000
set_option maxHeartbeats 4000000
namespace Tim
open PySem PyProof.Rows
section
variable {prog:Program} {w:World} {A:Around} {E:Value->Shared->Prop} {s:Shared} {κ:SortKind} {rk:Value->Nat}
theorem Ay {vs:List Value} {xs:Array Keyed} (hp:xs.Perm (pairsOf vs)) (hs:Seg rk xs 0 (pairsOf vs).size):(xs.map (·.2)).toList.Perm vs/\(xs.map (·.2)).toList.Pairwise (fun x y=>rk x<=rk y):=by
 have hl:xs.toList.Perm (vs.zip vs):=by rw [←pairsOf_toList];exact Array.perm_iff_toList_perm.mp hp
 have hmem:∀p,p∈xs.toList->p.1=p.2:=fun p hp'=>(mem_zip_self (hl.mem_iff.mp hp')).1
 have e:(xs.map (·.2)).toList=xs.toList.map (·.1):=by
  rw [Array.toList_map];exact List.map_congr_left fun p hp'=>(hmem p hp').symm
 rw [e];constructor
 ·have:=hl.map Prod.fst
  rwa [List.map_fst_zip (Nat.le_refl _)] at this
 ·rw [List.pairwise_map,List.pairwise_iff_getElem]
  intro i j hi hj hij;rw [Array.length_toList] at hi hj;have:=hs i j (Nat.zero_le _) (Nat.le_of_lt hij) (by rw [←hp.size_eq];exact hj);rw [fX hi,fX hj] at this;simpa using this
theorem mL {a:Addr} {vs:List Value} {n:Nat} {P:PySem.Fin->Shared->Prop} (ho:s.heap.get? a=some (seqObj "list" vs.toArray n)) (hz:vs.length<=sizeLine)
 (hk:2<=vs.length -> ∀h':Heap,(∀b o,b≠a->s.heap.get? b=some o->h'.get? b=some o)->(∀(Q:SortKind->Shared->Prop) (E:Value->Shared->Prop),Q κ {s with heap:=h'}->wpAny (model prog w) A (keyKind' vs.toArray) Q E {s with heap:=h'})/\z7 prog w A {s with heap:=h'} κ (pairsOf vs) rk)
 (h:∀out:List Value,out.Perm vs->out.Pairwise (fun x y=>rk x<=rk y)->P (.done (.ret .none)) {s with heap:=sortedHeap s.heap a vs out.toArray}):
 wpAny (model prog w) A (Builtin.«list.sort» ⟨[.ref a],[]⟩) P E s:=by
 rw [list_sort_plain];have ha:a<s.heap.objs.size:=Heap.lt_size ho;refine wpAny_bind (listItems_at ho rfl ?_);refine wpAny_bind (listUpdate_at ho rfl ?_ (by rw [List.size_toArray];exact hz) (Nat.zero_le _));obtain ⟨e1,ho1⟩:∃e1,(s.heap.update a (Obj.mapSeq fun _=> #[])).get? a=some (seqObj "list" #[] e1):=⟨_,get?_update_seq ho (fun _=> #[])⟩;refine wpAny_bind (seqEpoch_at ho1 rfl ?_);refine wpAny_bind (wpAny_newTuple ?_ (by show vs.length<=_;exact hz));refine wpAny_bind (wpAny_newList ?_ (Nat.zero_le _));refine wpAny_holding ?_
 have keep:∀b o,b≠a->s.heap.get? b=some o->(((s.heap.update a (Obj.mapSeq fun _=> #[])).push (seqObj "tuple" vs.toArray 0)).push (seqObj "list" #[] 0)).get? b=some o:=fun b o nb e=>by
  refine Heap.get?_push_of_some _ (Heap.get?_push_of_some _ ?_);rw [Heap.get?_update_ne _ _ _ _ nb];exact e
 have ho6:(((s.heap.update a (Obj.mapSeq fun _=> #[])).push (seqObj "tuple" vs.toArray 0)).push (seqObj "list" #[] 0)).get? a=some (seqObj "list" #[] e1):=Heap.get?_push_of_some _ (Heap.get?_push_of_some _ ho1);show wpAny (model prog w) A _ P E {s with heap:=((s.heap.update a (Obj.mapSeq fun _=> #[])).push (seqObj "tuple" vs.toArray 0)).push (seqObj "list" #[] 0)};dsimp only;have hsz:vs.toArray.size=vs.length:=by simp
 have fin:∀st':SortSt,(arrOf st').Perm (pairsOf vs)->Seg rk (arrOf st') 0 (pairsOf vs).size ->
  P (.done (.ret .none)) {s with heap:=sortedHeap s.heap a vs ((arrOf st').map (·.2))}:=by
  intro st' hp hs;obtain ⟨h1,h2⟩:=Ay hp hs;have:=h _ h1 h2;rwa [Array.toArray_toList] at this
 by_cases h2:vs.toArray.size<2
 ·rw [if_pos h2,if_pos h2]
  refine wpAny_bind (wpAny_pure ?_);rw [StateT.run_pure];refine wpAny_bind (wpAny_pure ?_);dsimp only;refine wpAny_bind (seqEpoch_at ho6 rfl ?_);refine wpAny_bind (listUpdate_at ho6 rfl ?_ (Nat.zero_le _) (by rw [Array.size_map];show (pairsOf vs).size<=_;rw [pairsOf_size];omega));simp only [bne_self_eq_false,Bool.false_eq_true,if_false];refine wpAny_pure (fin (SortSt.mk' general' (vs.toArray.zip vs.toArray) #[] 7 none) (Array.Perm.refl _) ?_);intro i j _ hij hj;have:i=j:=by rw [pairsOf_size] at hj;omega
  subst this;exact Nat.le_refl _
 ·rw [if_neg h2,if_neg h2]
  obtain ⟨kk,kc⟩:=hk (by omega) _ keep;refine wpAny_bind (kk _ _ ?_)
  refine wpAny_bind (wpAny_mono (wpS_sortRuns (a₀:=pairsOf vs) (rk:=rk) (st:=SortSt.mk' κ (vs.toArray.zip vs.toArray) #[] 7 none)
   (Q:=fun _ st'=>(arrOf st').Perm (pairsOf vs)/\failedOf st'=none/\Seg rk (arrOf st') 0 (pairsOf vs).size)
   kc ⟨Array.Perm.refl _,rfl,rfl,rfl⟩ (by rw [pairsOf_size];omega) fun st' a1 a2 a3=>⟨a1,a2,a3⟩) ?_ fun _ _ e=>e)
  rintro ⟨⟨⟩,st'⟩ s' ⟨rfl,hp,hf,hs⟩;dsimp only;refine wpAny_bind (seqEpoch_at ho6 rfl ?_);refine wpAny_bind (listUpdate_at ho6 rfl ?_ (Nat.zero_le _) (Nat.le_trans (Nat.le_of_eq ((Array.size_map ..).trans (hp.size_eq.trans (pairsOf_size _)))) (Nat.le_succ_of_le hz)));rw [hf];simp only [bne_self_eq_false,Bool.false_eq_true,if_false];exact wpAny_pure (fin st' hp hs)
theorem Ak {l:Addr} {vs:List Value} {Q:Value->Shared->Prop} (hl:s.heap.IsList l vs.toArray) (hz:vs.length<=sizeLine)
 (hk:2<=vs.length -> ∀h':Heap,(∀b o,s.heap.get? b=some o->h'.get? b=some o)->(∀(Q:SortKind->Shared->Prop) (E:Value->Shared->Prop),Q κ {s with heap:=h'}->wpAny (model prog w) A.in1.in1 (keyKind' vs.toArray) Q E {s with heap:=h'})/\z7 prog w A.in1.in1 {s with heap:=h'} κ (pairsOf vs) rk)
 (h:∀(h':Heap) (D:Addr) (c:Nat) (out:List Value),(∀b o,s.heap.get? b=some o->h'.get? b=some o)->s.heap.objs.size<=D->h'.get? D=some (seqObj "list" out.toArray c)->out.Perm vs->out.Pairwise (fun x y=>rk x<=rk y)->Q (.ref D) {s with heap:=h'}):
 wpAny (model prog w) A (call (.builtin "sorted") [.ref l]) Q E s:=by
 refine Calls.call_function_entry kind_sorted plain_sorted entry_sorted (args_sorted1 _) ?_;unfold Builtin.«sorted»;refine wpAny_bind (m:=checkCount "sorted" 1 1 _) (wpAny_pure ?_);refine wpAny_bind (collect_list hl ?_ hz);refine wpAny_bind (wpAny_newList ?_ hz)
 have hsz:((s.heap.push (seqObj "list" #[] 0)).update s.heap.objs.size (Obj.mapSeq (· ++ vs.toArray))).objs.size=s.heap.objs.size+1:=by
  rw [Heap.size_update,size_push']
 have hoL:(((s.heap.push (seqObj "list" #[] 0)).update s.heap.objs.size (Obj.mapSeq (· ++ vs.toArray))).push (seqObj "list" vs.toArray 0)).get? (s.heap.objs.size+1)=some (seqObj "list" vs.toArray 0):=by
  rw [←hsz];exact Heap.get?_push_size _ rfl
 have keep:∀b o,s.heap.get? b=some o->(((s.heap.push (seqObj "list" #[] 0)).update s.heap.objs.size (Obj.mapSeq (· ++ vs.toArray))).push (seqObj "list" vs.toArray 0)).get? b=some o:=fun b o q=>by
  have hlt:b<s.heap.objs.size:=Heap.lt_size q;rw [Heap.get?_push_ne _ _ _ (by rw [hsz];exact Nat.ne_of_lt (Nat.lt_succ_of_lt hlt)),Heap.get?_update_ne _ _ _ _ (Nat.ne_of_lt hlt),Heap.get?_push_ne _ _ _ (Nat.ne_of_lt hlt)];exact q
 show wpAny _ _ _ _ _ {s with heap:=((s.heap.push (seqObj "list" #[] 0)).update s.heap.objs.size (Obj.mapSeq (· ++ vs.toArray))).push (seqObj "list" vs.toArray 0)};rw [hsz];generalize ((s.heap.push (seqObj "list" #[] 0)).update s.heap.objs.size (Obj.mapSeq (· ++ vs.toArray))).push (seqObj "list" vs.toArray 0)=h1 at keep hoL ⊢;have nD:∀b o,s.heap.get? b=some o->b≠s.heap.objs.size+1:=fun b o e=>Nat.ne_of_lt (Nat.lt_succ_of_lt (Heap.lt_size e));refine wpAny_bind (wpAny_holding (wpAny_call_entry slot_list_sort ⟨_,hoL,rfl⟩ entry_list_sort (mL (s:={s with heap:=h1}) hoL hz (fun h2 h' kp=>hk h2 h' fun b o e=>kp b o (nD b o e) (keep b o e)) fun out p1 p2=>⟨_,rfl, ?_⟩) (args_list_sort _)));refine wpAny_pure ⟨_,rfl, ?_⟩;obtain ⟨e1,ho1⟩:∃e1,(h1.update (s.heap.objs.size+1) (Obj.mapSeq fun _=> #[])).get? (s.heap.objs.size+1)=some (seqObj "list" #[] e1):=⟨_,get?_update_seq hoL (fun _=> #[])⟩;have ho2:(((h1.update (s.heap.objs.size+1) (Obj.mapSeq fun _=> #[])).push (seqObj "tuple" vs.toArray 0)).push (seqObj "list" #[] 0)).get? (s.heap.objs.size+1)=some (seqObj "list" #[] e1):=Heap.get?_push_of_some _ (Heap.get?_push_of_some _ ho1);refine h (sortedHeap h1 (s.heap.objs.size+1) vs out.toArray) _ _ out (fun b o e=> ?_) (Nat.le_succ _) (by unfold sortedHeap;exact get?_update_seq ho2 (fun _=>out.toArray)) p1 p2;unfold sortedHeap;rw [Heap.get?_update_ne _ _ _ _ (nD b o e)];refine Heap.get?_push_of_some _ (Heap.get?_push_of_some _ ?_);rw [Heap.get?_update_ne _ _ _ _ (nD b o e)];exact keep b o e
end
section
theorem vp {α:Type} {p q:α->Bool} {u:α}:∀{l:List α},u∈l->q u=true->p u=false->(∀x,p x=true->q x=true)->l.countP p<l.countP q
 | [],hm,_,_,_=>by simp at hm
 | x::l,hm,hq,hp,hi=>by
   have mono:l.countP p<=l.countP q:=List.countP_mono_left fun x _=>hi x;rw [List.countP_cons,List.countP_cons];rcases List.mem_cons.mp hm with rfl|hm
   ·rw [hq,hp];simp;omega
   ·have:=vp hm hq hp hi
    cases e:p x with
    | true=>rw [hi x e];simp;omega
    | false=>simp;omega
def jU {α:Type} (L:α->α->Bool) (vs:List α) (v:α):Nat:=vs.countP fun u=>L u v
structure Swo {α:Type} (L:α->α->Bool):Prop where
 irr:∀a,L a a=false
 tr:∀a b c,L a b=true->L b c=true->L a c=true
 ntr:∀a b c,L a b=false->L b c=false->L a c=false
theorem C_ {α:Type} {L:α->α->Bool} (S:Swo L) {vs:List α} {u v:α} (hu:u∈vs):decide (jU L vs u<jU L vs v)=L u v:=by
 cases e:L u v with
 | true=>exact decide_eq_true (vp hu e (S.irr u) fun x hx=>S.tr x u v hx e)
 | false=>
   refine decide_eq_false fun z=> ?_
   have:jU L vs v<=jU L vs u:=List.countP_mono_left fun x _ hx=>by
    cases e':L x u with
    | true=>rfl
    | false=>rw [S.ntr x u v e' e] at hx;cases hx
   omega
theorem Dd {α:Type} {L:α->α->Bool} (S:Swo L) {vs:List α} {u v:α} (hv:v∈vs) (h:jU L vs u<=jU L vs v):L v u=false:=by
 have:=C_ S (u:=v) (v:=u) hv;rw [←this];exact decide_eq_false (by omega)
def eY:List Int->List Int->Bool
 | _,[]=>false
 | [],_::_=>true
 | a::as,b::bs=>if a=b then eY as bs else decide (a<b)
theorem yR (a:List Int):eY a []=false:=by cases a<;>rfl
theorem yS:∀a,eY a a=false
 | []=>rfl
 | a::as=>by unfold eY;rw [if_pos rfl];exact yS as
theorem Dw:∀a b c,eY a b=true->eY b c=true->eY a c=true
 | a,[],_,h,_=>by rw [yR] at h;cases h
 | [],_::_,[],_,h=>by cases h
 | [],_::_,_::_,_,_=>rfl
 | _::_,_::_,[],_,h=>by cases h
 | a::as,b::bs,c::cs,h1,h2=>by
   unfold eY at h1 h2 ⊢
   by_cases e1:a=b
   ·rw [if_pos e1] at h1
    by_cases e2:b=c
    ·rw [if_pos e2] at h2
     rw [if_pos (e1.trans e2)];exact Dw as bs cs h1 h2
    ·rw [if_neg e2] at h2
     rw [if_neg (e1▸e2),e1];exact h2
   ·rw [if_neg e1] at h1
    have h1:=of_decide_eq_true h1
    by_cases e2:b=c
    ·rw [←e2,if_neg e1];exact decide_eq_true h1
    ·rw [if_neg e2] at h2
     have h2:=of_decide_eq_true h2;rw [if_neg (by omega)];exact decide_eq_true (by omega)
theorem yQ:∀a b c,eY a b=false->eY b c=false->eY a c=false
 | a,_,[],_,_=>yR a
 | [],[],_::_,_,h=>by cases h
 | [],_::_,_::_,h,_=>by cases h
 | _::_,[],_::_,_,h=>by cases h
 | a::as,b::bs,c::cs,h1,h2=>by
   unfold eY at h1 h2 ⊢
   by_cases e1:a=b
   ·rw [if_pos e1] at h1
    by_cases e2:b=c
    ·rw [if_pos e2] at h2
     rw [if_pos (e1.trans e2)];exact yQ as bs cs h1 h2
    ·rw [if_neg e2] at h2
     rw [if_neg (e1▸e2),e1];exact h2
   ·rw [if_neg e1] at h1
    have h1:=of_decide_eq_false h1
    by_cases e2:b=c
    ·rw [←e2,if_neg e1];exact decide_eq_false h1
    ·rw [if_neg e2] at h2
     have h2:=of_decide_eq_false h2;rw [if_neg (by omega)];exact decide_eq_false (by omega)
theorem sS:∀a b,eY a b=false->eY b a=false->a=b
 | [],[],_,_=>rfl
 | [],_::_,h,_=>by cases h
 | _::_,[],_,h=>by cases h
 | a::as,b::bs,h1,h2=>by
   unfold eY at h1 h2
   by_cases e:a=b
   ·rw [if_pos e] at h1
    rw [if_pos e.symm] at h2;rw [e,sS as bs h1 h2]
   ·rw [if_neg e] at h1
    rw [if_neg (Ne.symm e)] at h2;have h1:=of_decide_eq_false h1;have h2:=of_decide_eq_false h2;omega
theorem vU {α:Type} (key:α->List Int):Swo fun a b=>eY (key a) (key b):=⟨fun a=>yS _,fun a b c=>Dw _ _ _,fun a b c=>yQ _ _ _⟩
end
end Tim
set_option Elab.async false
set_option linter.all false
set_option maxRecDepth 100000
set_option maxHeartbeats 4000000
namespace L2
open PySem PySem.Spec PyProof.Rows PySem.W
section
variable {X:Cx}
def keyOf (h:Heap):Value->List Int
 | .int n _=>[n]
 | .ref a=>match h.get? a with
   | some o=>match o.data with
     | .seq xs _=>xs.toList.map numOf
     | _=>[]
   | none=>[]
 | _=>[]
theorem Dv {prog:Program} {w:World} {A:Around} {s:Shared} {Q:Bool->Shared->Prop}:∀(xs ys:List Value) (ns ms:List Int) (i:Nat),IntsAre xs ns->IntsAre ys ms -> ∀(fin:Bool),(ns.length=ms.length->fin=false)->ns.length=ms.length->Q (Tim.eY ns ms) s->KatLex prog w A true fin Q (xs.zip ys) i s
 | _,_,[],[],i,.nil,.nil,fin,hf,_,h=>by
   show Q fin s;rw [hf rfl];exact h
 | _,_,_::_,[],_,_,_,_,_,hl,_=>by cases hl
 | _,_,[],_::_,_,_,_,_,_,hl,_=>by cases hl
 | _,_,n::ns,m::ms,i,.cons _ t hx,.cons _ u hy,fin,hf,hl,h=>by
   rw [List.zip_cons_cons];refine kat_cons (wpAny_eqBool_int ?_);have hl':ns.length=ms.length:=by simpa using hl
   by_cases e:n=m
   ·subst e
    rw [show (n==n)=true by simp];refine kat_yes (Dv _ _ ns ms (i+1) hx hy fin (fun z=>hf (by simpa using z)) hl' ?_);unfold Tim.eY at h;rwa [if_pos rfl] at h
   ·rw [show (n==m)=false by simpa using e]
    unfold Tim.eY at h;rw [if_neg e] at h;refine kat_no ?_;cases (true&&i==0) with
    | true=>exact oneLt_int h
    | false=>exact kat_one _ _ (lt_int (show W.BoolBack Q (.bool (decide (n<m))) s from h))
theorem iR {h:Heap} {a:Addr} {its:List Value} {ns:List Int} (ht:IsTup h a its.toArray) (hi:IntsAre its ns):keyOf h (.ref a)=ns:=by
 obtain ⟨o,e,_,n,d⟩:=ht
 show (match h.get? a with
  | some o=>match o.data with
    | .seq xs _=>xs.toList.map numOf
    | _=>[]
  | none=>[])=ns
 rw [e];dsimp only;rw [d];dsimp only;exact hi.nums
def zR (h:Heap) (k:Nat) (vs:List Value):Prop:=∀v∈vs,∃a its ns,v = .ref a/\IsTup h a its.toArray/\IntsAre its ns/\ns.length=k
theorem xX {prog:Program} {w:World} {A:Around} {s:Shared} {vs:List Value} {k:Nat} {h0:Heap} (T:zR h0 k vs) (kp:∀b o,h0.get? b=some o->s.heap.get? b=some o):
 Tim.z7 prog w A s (tuples' true) (pairsOf vs) (Tim.jU (fun a b=>Tim.eY (keyOf h0 a) (keyOf h0 b)) vs):=by
 refine ⟨fun p hp q hq E Q h=> ?_⟩;rw [pairsOf_toList] at hp hq;obtain ⟨_,mp⟩:=mem_zip_self hp;obtain ⟨_,mq⟩:=mem_zip_self hq;rw [Tim.C_ (Tim.vU (keyOf h0)) mp] at h;obtain ⟨a,its,ns,ep,ta,ia,la⟩:=T _ mp;obtain ⟨b,jts,ms,eq,tb,ib,lb⟩:=T _ mq;rw [ep,eq] at h ⊢;rw [iR ta ia,iR tb ib] at h;obtain ⟨oa,ea,ca,n1,da⟩:=ta;obtain ⟨ob,eb,cb,n2,db⟩:=tb;have l1:its.length=ns.length:=ia.length;have l2:jts.length=ms.length:=ib.length;refine kat_lt (kp _ _ ea) da (kp _ _ eb) db ?_;have e1:its.toArray.toList=its:=by simp
 have e2:jts.toArray.toList=jts:=by simp
 rw [e1,e2];exact Dv its jts ns ms 0 ia ib _ (fun z=>decide_eq_false (by rw [List.size_toArray,List.size_toArray];omega)) (by omega) h
theorem pW {h0 h1:Heap} {k:Nat} (hk:1<=k) (kp:∀b o,h0.get? b=some o->h1.get? b=some o):∀{vs:List Value},zR h0 k vs -> ∃fs,KatTups h1 vs fs/\fs.length=vs.length /\ ∀f∈fs,∃n t,f=Value.int n t
 | [],_=>⟨[],trivial,rfl,fun _ z=>absurd z (by simp)⟩
 | v::vs,T=>by
   obtain ⟨fs,t1,t2,t3⟩:=pW hk kp (vs:=vs) fun u hu=>T u (List.mem_cons_of_mem _ hu);obtain ⟨a,its,ns,rfl,⟨o,e,c,n,d⟩,ia,la⟩:=T v (List.mem_cons_self ..)
   match its,ns,ia,la,d with
   | _,_,.nil,la,d=>simp at la;omega
   | _,_,.cons m t r,la,d=>
     refine ⟨_::fs,KatTups.cons (kp _ _ e) c d rfl t1,by simp [t2],fun f hf=> ?_⟩;rcases List.mem_cons.mp hf with rfl|hf
     ·exact ⟨_,_,rfl⟩
     ·exact t3 f hf
theorem uQ {prog:Program} {w:World} {A:Around} {s:Shared} {vs:List Value} {k:Nat} {h0:Heap} {Q:SortKind->Shared->Prop} {E:Value->Shared->Prop} (hk:1<=k) (T:zR h0 k vs) (hv:2<=vs.length) (kp:∀b o,h0.get? b=some o->s.heap.get? b=some o)
 (h:Q (tuples' true) s):wpAny (model prog w) A (keyKind' vs.toArray) Q E s:=by
 obtain ⟨fs,t1,t2,t3⟩:=pW hk kp T;refine kat_kind (T:= .type "int") t1 (by omega) (fun v hv=> ?_) rfl h;obtain ⟨n,t,rfl⟩:=t3 v hv;exact .now
theorem uN {ys:List V} {us out:List Value} (r:Vals ys us) (p:out.Perm us):∃zs,Vals zs out/\zs.Perm ys:=by
 induction p generalizing ys with
 | nil=>cases r;exact ⟨[],.nil,.refl _⟩
 | cons x p ih=>
   cases r with
   | cons rx rt=>
     obtain ⟨zs,z1,z2⟩:=ih rt;exact ⟨_::zs,.cons rx z1,.cons _ z2⟩
 | swap x y l=>
   cases r with
   | cons rx rt=>
     cases rt with
     | cons ry rl=>exact ⟨_,.cons ry (.cons rx rl),.swap _ _ _⟩
 | trans p q ih1 ih2=>
   obtain ⟨zs,z1,z2⟩:=ih2 r;obtain ⟨ws,w1,w2⟩:=ih1 z1;exact ⟨ws,w1,w2.trans z2⟩
theorem pF:∀{ns:List Int} {vs:List Value},Vals (ns.map V.int) vs->IntsAre vs ns
 | [],_,.nil=> .nil
 | n::ns,_,.cons ⟨t,e⟩ r=>by subst e;exact .cons n t (pF r)
theorem oJ {R:Value->Value->Prop} {S:V->V->Prop} (hRS:∀x y u v,RelV x u->RelV y v->R u v->S x y):∀{zs:List V} {out:List Value},Vals zs out->out.Pairwise R->zs.Pairwise S
 | _,_,.nil,_=> .nil
 | _,_,.cons rx rt,p=>by
   rw [List.pairwise_cons] at p;refine .cons (fun y hy=> ?_) (oJ hRS rt p.2);obtain ⟨i,hi,e⟩:=List.getElem_of_mem hy;obtain ⟨v,hv,ry⟩:=Vals.get rt (i:=i) (x:=y) (by rw [List.getElem?_eq_getElem hi,e]);exact hRS _ _ _ _ rx ry (p.1 v (List.mem_of_getElem? hv))
def ael (K:PySem.W.Frag) (H:Hp) (k:Nat) (f:V->List Int) (x:V):Prop:=∃a,x = .ref a/\cJ K H a ((f x).map V.int)/\(f x).length=k
def Aq (K:PySem.W.Frag):List V->Hp->VK->Prop:=fun xs H Q=>∃(p:Addr) (ys:List V) (k:Nat) (f:V->List Int),xs=[.ref p]/\bh K H p ys/\1<=k/\(∀y∈ys,ael K H k f y) /\
 ∀l zs,H l=none->zs.Perm ys->zs.Pairwise (fun x y=>Tim.eY (f y) (f x)=false)->Q (.ref l) (upd H l (.lst zs))
theorem BX:fZ X (.builtin "sorted") (Aq X.K):=by
 intro pins s σ H xs us Q I r h;obtain ⟨p,ys,k,f,rfl,hq,hk,ht,q⟩:=h;obtain ⟨u,rfl,rx⟩:=vals1 r;cases rx;obtain ⟨its,rv,pl,hz⟩:=I.list hq;have hlen:its.length=ys.length:=by rw [←rv.length]
 have item:∀x v,x∈ys->RelV x v -> ∃a jts,v = .ref a/\IsTup s.heap a jts.toArray/\IntsAre jts (f x)/\(f x).length=k:=by
  intro x v hx rxv;obtain ⟨a,rfl,sq,hl⟩:=ht x hx;cases rxv;obtain ⟨jts,rj,tj,_⟩:=I.tuple sq;exact ⟨a,jts,rfl,tj,pF rj,hl⟩
 have T:zR s.heap k its:=fun v hv=>by
  obtain ⟨i,hi,e⟩:=List.getElem_of_mem hv;have hy:i<ys.length:=by omega
  obtain ⟨v',hv',ry⟩:=rv.get (i:=i) (x:=ys[i]) (by rw [List.getElem?_eq_getElem hy]);rw [List.getElem?_eq_getElem hi,e] at hv';cases hv';obtain ⟨a,jts,e1,e2,e3,e4⟩:=item _ _ (List.getElem_mem hy) ry;exact ⟨a,jts,_,e1,e2,e3,e4⟩
 refine Tim.Ak (κ:=tuples' true) (rk:=Tim.jU (fun a b=>Tim.eY (keyOf s.heap a) (keyOf s.heap b)) its) pl.isList (by omega)
  (fun h2 h' kp=>⟨fun Q E hQ=>uQ hk T h2 kp hQ,xX T kp⟩) fun h' D c out kp hD hd hp hs=> ?_
 obtain ⟨zs,z1,z2⟩:=uN rv hp;have hzl:zs.length<=sizeLine:=by rw [z2.length_eq];omega
 refine ⟨.ref D,_,I.laid (t':=s.toks) kp hD (show bD X.prog X.w _ h' _ (.lst zs) from ⟨hzl,out,c,z1,hd⟩),rfl,q D zs (I.hok.fresh hD) z2 ?_⟩
 have hs':out.Pairwise (fun u v=>u∈its/\v∈its/\Tim.eY (keyOf s.heap v) (keyOf s.heap u)=false):=by
  refine List.Pairwise.imp_of_mem (fun {u v} hu hv huv=> ?_) hs;have mu:=hp.mem_iff.mp hu;have mv:=hp.mem_iff.mp hv;exact ⟨mu,mv,Tim.Dd (Tim.vU (keyOf s.heap)) mv huv⟩
 have zin:∀z∈zs,z∈ys:=fun z hz=>z2.mem_iff.mp hz
 have zp:zs.Pairwise (fun x y=>x∈zs/\y∈zs):=by
  rw [List.pairwise_iff_getElem];intro i j hi hj _;exact ⟨List.getElem_mem hi,List.getElem_mem hj⟩
 have:=oJ (S:=fun x y=>x∈ys->y∈ys->Tim.eY (f y) (f x)=false) (fun x y u v rx ry huv hx hy=>by
  obtain ⟨a,jts,rfl,e2,e3,e4⟩:=item x u hx rx;obtain ⟨b,kts,rfl,g2,g3,g4⟩:=item y v hy ry;have:=huv.2.2;rwa [iR e2 e3,iR g2 g3] at this) z1 hs'
 exact List.Pairwise.imp₂ (fun {x y} (h1:x∈ys->y∈ys->Tim.eY (f y) (f x)=false) (h2:x∈zs/\y∈zs)=>h1 (zin _ h2.1) (zin _ h2.2)) this zp
theorem qg {K:PySem.W.Frag} (hK:X.K=K):fZ X (.builtin "sorted") (Aq K):=by subst hK;exact BX
end
end L2
set_option Elab.async false
set_option linter.all false
set_option maxRecDepth 100000
set_option maxHeartbeats 4000000
namespace L2
open PySem PySem.Spec PyProof.Rows PySem.W
section
variable {X:Cx}
end
end L2
set_option Elab.async false
set_option linter.all false
set_option maxRecDepth 100000
set_option maxHeartbeats 4000000
namespace L2
open PySem PySem.Spec PyProof.Rows
section
variable {X:Cx}
end
end L2
set_option Elab.async false
set_option linter.all false
set_option maxRecDepth 100000
set_option maxHeartbeats 4000000
namespace L2
open PySem PySem.Spec PyProof.Rows
section
variable {prog:Program} {w:World} {A:Around} {E:Value->Shared->Prop} {s:Shared} {it d:Addr} {ep:Nat} {od:Obj} {es:Array DictEntry}
theorem sW {Q:Value->Shared->Prop} (nsm:(d==sysModules)=false) (ho:s.heap.get? d=some od) (hx:od.ExactDict) (he:od.data = .dict es ep)
 (k:Q (.ref s.heap.objs.size) {s with heap:=s.heap.push {cls:= .type "dict_keyiterator",data:= .fields #[.ref d,.int 0 0,.int es.size 0,.int ep 0]}}):wpAny (model prog w) A (pyIter (.ref d)) Q E s:=by
 have ty:s.TypeIs (.ref d) "dict" :=⟨od,ho,hx.1⟩
 refine wpAny_pyIter_slot ty F.slot_dict_iter (wpAny_call_entry F.slot_dict_iter ty F.entry_dict_iter (by
  unfold Builtin.«dict.__iter__» Builtin.Dict.dictSlotNone;refine wpAny_bind (wpAny_bind (wpAny_notOrdered_dict ty ?_));show wpAny _ _ (pure (Value.ref d)) _ _ s;refine wpAny_pure ?_;show wpAny _ _ (Builtin.Dict.showsAll d >>= _) _ _ s;unfold Builtin.Dict.showsAll;rw [nsm];rw [if_neg Bool.false_ne_true];refine wpAny_bind (wpAny_pure (wpAny_bind (wpAny_dictEntries ho he (wpAny_bind (wpAny_dictEpoch ho he (wpAny_bind (wpAny_newObj_type (wpAny_pure ?_))))))));exact ⟨_,rfl,"dict_keyiterator",_,⟨_,Heap.get?_push_size _ rfl,rfl⟩,F.slot_dict_keyiterator_next.lookup,by simpa [rawInt] using k⟩) (F.args_dict_iter_1 _))
theorem uZ {i:Nat} {Q:Option Value->Shared->Prop} (st:s.heap.IsKeyIter it d i es.size ep) (ho:s.heap.get? d=some od) (he:od.data = .dict es ep) (hi:i<es.size)
 (k:∀h',h'.IsKeyIter it d (i+1) es.size ep->Heap.SameBut it s.heap h'->Q (some es[i].key) {s with heap:=h'}):wpAny (model prog w) A (pyNext (.ref it)) Q E s:=by
 obtain ⟨oi,hoi,ci,di⟩:=id st;have ty:=st.typeIs;have FZ:Builtin.Dict_items.ownsTuple "dict_keyiterator" = false:=by decide
 have Ri:¬((i:Int)<0):=by omega
 have st':(s.heap.update it (Obj.mapFields (·.setIfInBounds 1 (rawInt ((i:Int)+1))))).IsKeyIter it d (i+1) es.size ep:=
  ⟨_,Heap.get?_update_self _ hoi (Obj.isFreed_of_fields (Obj.data_mapFields di _)),by rw [Obj.cls_mapFields];exact ci,by rw [Obj.data_mapFields di];simp [rawInt]⟩
 unfold pyNext
 refine wpAny_bind (wpAny_attempt (wpAny_callSpecial?_slot (name:=Str.ofString "__next__") ty F.slot_dict_keyiterator_next (wpAny_call_entry F.slot_dict_keyiterator_next ty F.entry_dict_keyiterator_next (by
  refine wpAny_bind (wpAny_pure (wpAny_bind (wpAny_bind ?_)));refine wpAny_bind (wpAny_typeNameOfWhole_keyiter ty (wpAny_pure (wpAny_bind (wpAny_fieldsOf hoi di ?_))));rw [FZ];simp only [Bool.false_eq_true,if_false];show wpAny _ _ (if (Value.ref d==Value.none)=true then _ else _) _ _ s;rw [show (Value.ref d==Value.none)=false from rfl];rw [if_neg Bool.false_ne_true];refine wpAny_bind (wpAny_pure (wpAny_bind (wpAny_dictEntries ho he ?_)));rw [if_neg (by simp)];refine wpAny_bind (wpAny_pure (wpAny_bind (wpAny_dictEpoch ho he ?_)));rw [if_neg (by simp)];refine wpAny_pure ?_;simp only [Ri,if_false,Int.toNat_natCast,Array.getElem?_eq_getElem hi];refine wpAny_bind (wpAny_bind (wpAny_typeNameOfWhole_keyiter ty (wpAny_pure (wpAny_bind (wpAny_isOneOf_keyiter ty ?_)))));show wpAny _ _ (setField (.ref it) 1 (rawInt ((i:Int)+1)) >>= _) _ _ s;refine wpAny_bind (wpAny_setField hoi di (by simp) ?_);refine wpAny_bind (wpAny_holding (wpAny_bind (wpAny_isOneOf_keyiter (s:={s with heap:=s.heap.update it (Obj.mapFields (·.setIfInBounds 1 (rawInt ((i:Int)+1))))}) st'.typeIs ?_)));show wpAny _ _ (pure es[i].key) _ _ _;exact wpAny_pure (wpAny_pure ⟨_,rfl,wpAny_pure (k _ st' (Heap.SameBut.update ..))⟩)) (F.args_dict_keyiterator_next_1 _))))
theorem yU {i:Nat} {Q:Option Value->Shared->Prop} (calm:A.handled=none) (st:s.heap.IsKeyIter it d i es.size ep) (ho:s.heap.get? d=some od) (he:od.data = .dict es ep) (hi:es.size<=i)
 (k:∀h',Heap.ExtBut it s.heap h'->Q none {s with heap:=h'}):wpAny (model prog w) A (pyNext (.ref it)) Q E s:=by
 obtain ⟨oi,hoi,ci,di⟩:=id st;have ty:=st.typeIs;have FZ:Builtin.Dict_items.ownsTuple "dict_keyiterator" = false:=by decide
 have Ri:¬((i:Int)<0):=by omega
 unfold pyNext
 refine wpAny_bind (wpAny_attempt (wpAny_callSpecial?_slot (name:=Str.ofString "__next__") ty F.slot_dict_keyiterator_next (wpAny_call_entry F.slot_dict_keyiterator_next ty F.entry_dict_keyiterator_next (by
  refine wpAny_bind (wpAny_pure (wpAny_bind (wpAny_bind ?_)));refine wpAny_bind (wpAny_typeNameOfWhole_keyiter ty (wpAny_pure (wpAny_bind (wpAny_fieldsOf hoi di ?_))));rw [FZ];simp only [Bool.false_eq_true,if_false];show wpAny _ _ (if (Value.ref d==Value.none)=true then _ else _) _ _ s;rw [show (Value.ref d==Value.none)=false from rfl];rw [if_neg Bool.false_ne_true];refine wpAny_bind (wpAny_pure (wpAny_bind (wpAny_dictEntries ho he ?_)));rw [if_neg (by simp)];refine wpAny_bind (wpAny_pure (wpAny_bind (wpAny_dictEpoch ho he ?_)));rw [if_neg (by simp)];refine wpAny_pure ?_;simp only [Ri,if_false,Int.toNat_natCast,Array.getElem?_eq_none hi];refine wpAny_bind (wpAny_bind (wpAny_typeNameOfWhole_keyiter ty (wpAny_pure ?_)));show wpAny _ _ (setField (.ref it) 0 .none >>= _) _ _ s;refine wpAny_bind (wpAny_setField hoi di (by simp) ?_);show wpAny _ _ (newExc (.type "StopIteration") [] >>= _) _ _ _;refine wpAny_bind ?_;simp only [newExc,newTuple];refine wpAny_bind (wpAny_newObj_type ?_ (by size_fits));refine wpAny_bind (m:=firstArgMember _ _) (wpAny_of_eq (a:=Value.none) (by first |rfl|(simp only [firstArgMember];rfl)) (wpAny_newObj_type ?_ (by size_fits)));simp only [raiseNew];refine wpAny_bind (wpAny_handled ?_);rw [show A.in1.handled=none from calm];refine wpAny_bind (wpAny_pure (wpAny_throw ?_));refine wpAny_bind (wpAny_isInstance (T:= "StopIteration") (b:=true) ⟨_,Heap.get?_push_size _ rfl,rfl⟩ isSubtype_stop ?_);exact wpAny_pure (k _ (((Heap.SameBut.update ..).extBut.push _).push _))) (F.args_dict_keyiterator_next_1 _))))
end
end L2
set_option Elab.async false
set_option linter.all false
set_option maxRecDepth 100000
set_option maxHeartbeats 4000000
namespace L2
open PySem PySem.Spec PyProof.Rows
section
variable {X:Cx} {pins:List (Addr×Obj)} {σ:St} {H:Hp} {s:Shared} {d:Addr}
theorem JD {kvs:List (List Key×V)} {xs:List (List Key×Addr×Value)} {u v:HO} (r:KT H kvs xs) (e:H d=some u) (h1:∀ys,u ≠ .tup ys):KT (upd H d v) kvs xs:=by
 refine Paired.Rr r fun p q z=>⟨z.1, ?_,z.2.2⟩;have:q.2.1≠d:=fun w=>by rw [w,e] at z;exact h1 _ (Option.some.inj z.2.1)
 rw [aJ this];exact z.2.1
theorem Inv.Jm {kvs:List (List Key×V)} (I:Inv X pins σ H s) (e:H d=some (.dT kvs)):∀o v,X.H₀ d≠some (.gM o v):=fun o v q=>by
 have:=I.base.ni d o v q;rw [e] at this;cases this
theorem Inv.NK {kvs:List (List Key×V)} {o:Obj} (I:Inv X pins σ H s) (e:H d=some (.dT kvs)) (ho:s.heap.get? d=some o):Inv X pins σ (upd H d (.gM o (.dT kvs))) s:=by
 refine I.CZ e (fun _ z=>by cases z) (fun _ z=>by cases z) (fun _ z=>by cases z) (I.Jm e) ⟨ho, ?_⟩;obtain ⟨z,y,xs,r,dd⟩:=(show bD X.prog X.w H s.heap d (.dT kvs) from I.hok d _ e);exact ⟨z,y,xs,JD r e (fun _ z=>by cases z),dd⟩
theorem Inv.Ub {kvs:List (List Key×V)} {o:Obj} (I:Inv X pins σ H s) (e:H d=some (.gM o (.dT kvs))) (hz:∀o v,X.H₀ d≠some (.gM o v)):Inv X pins σ (upd H d (.dT kvs)) s:=by
 refine I.CZ e (fun _ z=>by cases z) (fun _ z=>by cases z) (fun _ z=>by cases z) hz ?_;obtain ⟨_,z,y,xs,r,dd⟩:=(show bD X.prog X.w H s.heap d (.gM o (.dT kvs)) from I.hok d _ e);exact ⟨z,y,xs,JD r e (fun _ z=>by cases z),dd⟩
end
def Tn (d:Addr) (o:Obj) (kvs:List (List Key×V)):It:=
 ⟨fun i H=>i<kvs.length/\H d=some (.gM o (.dT kvs)),fun i H x H'=>H'=H /\ ∃k v b,kvs[i]? = some (k,v)/\x = .ref b/\H b=some (.tup (k.map kV)),fun i H=>kvs.length<=i/\H d=some (.gM o (.dT kvs))⟩
theorem Rx {H:Hp} {kvs:List (List Key×V)} {xs:List (List Key×Addr×Value)} (r:KT H kvs xs):∀(i:Nat) (k:List Key) (v:V),kvs[i]? = some (k,v) -> ∃q,xs[i]? = some q/\H q.2.1=some (.tup (k.map kV)):=by
 induction r with
 | nil=>intro i k v h;cases h
 | @cons p q ps qs h r ih=>
   intro i k v e;cases i with
   | zero=>
     have e':p=(k,v):=Option.some.inj e;subst e';exact ⟨q,rfl,h.2.1⟩
   | succ i=>exact ih i k v (by simpa using e)
theorem Ac {P:Program} {w:World} {K:PySem.W.Frag} {tg:Expr} (d it:Addr) (o:Obj) (kvs:List (List Key×V)) (es:Array DictEntry) (ep:Nat) (hd:o.data = .dict es ep):Turn P w K tg (Tn d o kvs) [it] it (fun i h=>h.IsKeyIter it d i es.size ep) where
 mem:=by simp
 obj:=fun i h st b hb=>by
  have e:b=it:=by simpa using hb
  subst e;obtain ⟨o,e,c,d⟩:=st;exact ⟨o,e,fun v z=>by rw [d] at z;cases z⟩
 keep:=fun i h h' st k=>by
  obtain ⟨o,e,c,d⟩:=st;exact ⟨o,k it (by simp) o e,c,d⟩
 item:=by
  intro X hP hw hK hc i pins s σ H E I hf st hg;subst hP hw hK;obtain ⟨hi,hH⟩:=hg;obtain ⟨ho,z,y,xs,r,o',es',ep',q1,q2,q3,q4,q5⟩:=(show bD X.prog X.w H s.heap d (.gM o (.dT kvs)) from I.hok d _ hH);rw [ho] at q1;cases q1;rw [hd] at q3;cases q3;have hl:kvs.length=xs.length:=Paired.length r;have hsz:es.size=xs.length:=by rw [←Array.length_toList,q4,List.length_map]
  obtain ⟨k,v,Sy⟩:∃k v,kvs[i]? = some (k,v):=⟨kvs[i].1,kvs[i].2,by simp [hi]⟩;obtain ⟨q,eq,hq⟩:=Rx r i k v Sy;have ie:i<es.size:=by omega
  have ek:es[i].key = .ref q.2.1:=by
   have e1:es.toList[i]? = some es[i]:=by simp [ie]
   rw [q4,List.getElem?_map,eq] at e1;have:=Option.some.inj e1;rw [←this];rfl
  obtain ⟨f0,f1,f2,f3,f4,f5⟩:=hf it (by simp);refine uZ st ho hd ie fun h' st' sb=> ?_;have I1:Inv X pins σ H {s with heap:=h'}:=I.turned (t':=s.toks) (fun b o hb e=>(sb.2 b hb).trans e) f0 f1 f3 f4 f5;obtain ⟨ob,e,c,dd⟩:=id st';rw [ek];exact ⟨.ref q.2.1,rfl,vd (s:={s with heap:=h'}) e c dd (by decide) ⟨.ref q.2.1,H,I1,rfl,⟨rfl,k,v,q.2.1,Sy,rfl,hq⟩,st',fun b hb=>(hf b hb).1⟩⟩
 done:=by
  intro X hP hw hK hc i pins s σ H E I hf st hg;subst hP hw hK;obtain ⟨hi,hH⟩:=hg;obtain ⟨ho,z,y,xs,r,o',es',ep',q1,q2,q3,q4,q5⟩:=(show bD X.prog X.w H s.heap d (.gM o (.dT kvs)) from I.hok d _ hH);rw [ho] at q1;cases q1;rw [hd] at q3;cases q3;have hl:kvs.length=xs.length:=Paired.length r;have hsz:es.size=xs.length:=by rw [←Array.length_toList,q4,List.length_map]
  obtain ⟨f0,f1,f2,f3,f4,f5⟩:=hf it (by simp);exact yU (I.ok.hd hc) st ho hd (by omega) fun h' eb=>⟨rfl,I.turned (t':=s.toks) (fun b o hb e=>eb b o hb e) f0 f1 f3 f4 f5⟩
 self:=fun _ _ _ _ _ st h=>wpAny_pyIter_keyiter st h
section
variable {X:Cx} {tg:Expr}
def RT (tl:TE):TI:=fun σ H R=>tl σ H fun x H1=>∃d kvs,x = .ref d/\H1 d=some (.dT kvs) /\ ∀o,R (Tn d o kvs) (upd H1 d (.gM o (.dT kvs)))
theorem Iu {l:Expr} {tl:TE} (hl:PE X l tl):PI X tg l (RT tl):=by
 intro pins s σ H R I h;refine cM (hl pins s σ H _ I h) fun v s1 ⟨x,H1,I1,r1,q1⟩=> ?_;obtain ⟨d,kvs,e,hH,q⟩:=q1;subst e;cases r1;obtain ⟨z,hd,xs,r,o,es,ep,ho,q2,q3,q4,q5⟩:=(show bD X.prog X.w H1 s1.heap d (.dT kvs) from I1.hok d _ hH);refine sW hd ho q2 q3 ?_;have If:=I1.NK hH ho
 have M5:(upd H1 d (HO.gM o (.dT kvs))) s1.heap.objs.size=none:=by
  rw [aJ (Ne.symm (Nat.ne_of_lt (Heap.lt_size ho)))];exact I1.hok.fresh (Nat.le_refl _)
 refine ⟨s1.heap.objs.size,[s1.heap.objs.size],_,_,upd H1 d (.gM o (.dT kvs)),rfl,If.kept (t':=s1.toks) fun b o e=>Heap.get?_push_of_some _ e,Ac d _ o kvs es ep q3,⟨_,Heap.get?_push_size _ rfl,rfl,rfl⟩,fun b hb=> ?_,q o⟩;have e:b=s1.heap.objs.size:=by simpa using hb
 subst e;exact If.nY (Nat.le_refl _) M5
end
def Xe (H H' Ou:Hp):Prop:=∃d JC o kvs,H d=some (.dT JC)/\H' d=some (.gM o (.dT kvs))/\Ou=upd H' d (.dT kvs)
def QF (t:TS):TS:=fun D σ H=>t {D with nx:=fun σ' H'=>∃Ou,Xe H H' Ou/\D.nx σ' Ou} σ H
theorem Im {X:Cx} {st:Stmt} {t:TS} (h:PS X st t):PS X st (QF t):=by
 intro pins s σ H D I q;refine wpAny_mono (h pins s σ H _ I q) (fun f s1 q1=> ?_) fun _ _ z=>z;cases f with
 | next=>
   obtain ⟨σ1,H1,I1,H2,⟨d,JC,o,kvs,e1,e2,rfl⟩,q2⟩:=q1;exact ⟨σ1,_,I1.Ub e2 (I.Jm e1),q2⟩
 | brk=>exact q1
 | cont=>exact q1
 | ret u=>exact q1
section
variable {d D:Addr} {o:Obj} {kvs:List (List Key×V)} {tc:TT} {te:TE} {Q:VK} {rest:St} {H1:Hp}
theorem Gx (f:Nat->Option PyData) (hf:∀i d,f i=some d->Bu d=true) (hD:H1 D=none) (hq:H1 d=some (.gM o (.dT kvs))) (hx:kvs.length<=100000)
 (hs:∀i k v b H (G:Hp->Prop) (F:VK),kvs[i]? = some (k,v)->H b=some (.tup (k.map kV))->Same H1 H->(∀H',Same H H'->f i=none->G H')->(∀y d H',Same H H'->f i=some d->Dat H' y d->F y H')->tc (some (.ref b)::rest) H fun b' H3=>if b'=true then te (some (.ref b)::rest) H3 F else G H3)
 (hd:∀H vs,Same H1 H->H D=some (.lst vs)->aD H vs ((List.range kvs.length).filterMap f)->Q (.ref D) H):mV (Tn d o kvs) (iz 0) tc te Q D (none::rest) H1:=by
 have acp:∀l:List Nat,uJ (l.filterMap f)=true:=fun l=>by
  induction l with
  | nil=>rfl
  | cons i l ih=>
    rw [List.filterMap_cons];cases e:f i with
    | none=>exact ih
    | some dd=>simp only [uJ,hf i dd e,ih,Bool.and_self]
 refine ⟨fun i m σ H=>m=kvs.length - i/\i<=kvs.length/\(∃v,σ=v::rest)/\Same H1 H /\ ∃vs,H D=some (.lst vs)/\aD H vs ((List.range i).filterMap f),⟨kvs.length,by simp,Nat.zero_le _,⟨none,rfl⟩,aC hD,[],ak,by simp [aD]⟩, ?_⟩;rintro i m σ H ⟨rfl,hi,⟨v,rfl⟩,sm,vs,e,dd⟩
 by_cases hlt:i<kvs.length
 ·refine .inr ⟨⟨hlt,sm _ _ hq⟩,fun σ' H'=>i+1<=kvs.length/\(∃v,σ'=v::rest)/\Same H1 H' /\ ∃vs,H' D=some (.lst vs)/\aD H' vs ((List.range (i+1)).filterMap f),fun σ' H' p'=>⟨kvs.length - (i+1),by omega,rfl,p'⟩,fun x H' y=> ?_⟩
  obtain ⟨rfl,k,w,b,Sy,rfl,hb⟩:=y;have im:=acp (List.range i);refine hs i k w b _ _ _ Sy hb sm (fun H3 s3 ef=>⟨hlt,⟨_,rfl⟩,sm.trans s3,vs,s3 _ _ e, ?_⟩) (fun y dy H4 s4 ef hy=> ?_)
  ·rw [dg,ef]
   simpa using aD.keep s3.tups _ im dd
  ·have hl:vs.length<=i:=by rw [dd.length];exact nj f i
   have kp:Kp D H4 (upd H4 D (.lst (vs++[y]))):=Kp.set;have tp:=kp.tups (s4 _ _ e);refine ⟨vs,s4 _ _ e, ?_,hlt,⟨_,rfl⟩,(sm.trans s4).newly hD,vs++[y],ak, ?_⟩
   ·rw [sizeLine_eq];omega
   ·rw [dg,ef]
    exact pJ (aD.keep (fun a xs h=>tp _ _ (s4.tups _ _ h)) _ im dd) (Dat.keep tp _ (hf i dy ef) hy)
 ·have e':i=kvs.length:=by omega
  subst e';exact .inl ⟨⟨Nat.le_refl _,sm _ _ hq⟩,hd H vs sm e dd⟩
end
end L2
set_option Elab.async false
set_option linter.all false
set_option maxRecDepth 100000
set_option maxHeartbeats 4000000
namespace L2
open PySem PySem.Spec PyProof.Rows
section
variable {prog:Program} {w:World} {A:Around} {E:Value->Shared->Prop} {s:Shared}
end
section
variable {X:Cx} {pos:Pos}
end
end L2
set_option Elab.async false
set_option linter.all false
set_option maxRecDepth 100000
set_option maxHeartbeats 4000000
namespace L2
open PySem PySem.Spec PyProof.Rows
section
variable {prog:Program} {w:World} {A:Around} {R:Result->Shared->Prop} {it:Addr} {rd wt:List Addr} {n:Nat} {P:Nat->Value->Prop} {St:Nat->Heap->Prop}
end
end L2
set_option Elab.async false
set_option linter.all false
set_option maxRecDepth 100000
set_option maxHeartbeats 4000000
namespace L2
open PySem PySem.Spec PyProof.Rows
section
variable {X:Cx} {K:PySem.W.Frag} {a dE:Expr} {ta:TA} {td:TE} {p pos kp:Pos}
end
end L2
set_option Elab.async false
set_option linter.all false
set_option maxRecDepth 100000
set_option maxHeartbeats 4000000
namespace L2
open PySem PySem.Spec PyProof.Rows
section
variable {prog:Program} {w:World} {K:Type} [DecidableEq K] {knd:HeapKind prog w K} {A:Around} {E:Value->Shared->Prop} {s:Shared}
end
section
variable {X:Cx}
end
end L2
set_option Elab.async false
set_option linter.all false
set_option maxRecDepth 100000
set_option maxHeartbeats 4000000
namespace L2
open PySem PySem.Spec PyProof.Rows
section
variable {prog:Program} {w:World} {K:Type} [DecidableEq K] {knd:HeapKind prog w K} {A:Around} {E:Value->Shared->Prop} {s:Shared} {d:Addr} {xs:List (K×Addr×Value)}
end
section
variable {X:Cx} {pos:Pos} {k v a:Expr} {tk tv ta:TE}
end
end L2
namespace L2
open PySem PySem.Spec PyProof.Rows
section
variable {d:Addr} {o:Obj} {kvs:List (List Key×V)} {g:TG} {tb:TS} {D:Ends} {σ:St} {H:Hp}
end
end L2
namespace L2
open PySem PySem.Spec PyProof.Rows
section
variable {X:Cx}
end
end L2
set_option Elab.async false
set_option linter.all false
set_option maxRecDepth 100000
set_option maxHeartbeats 4000000
namespace L2
open PySem PySem.Spec PyProof.Rows PySem.W
section
variable {prog:Program} {w:World} {A:Around} {E:Value->Shared->Prop} {s:Shared} {d r:Addr} {o:Obj} {es:Array DictEntry} {ep:Nat}
theorem Ew (hh:A.handled=none) (it d:Addr) (hne:d≠it) (he:o.data = .dict es ep):
 Walks prog w A it [it,d] [it] es.size (fun i v=>∃e,es[i]? = some e/\v=e.key) (fun i h=>h.IsKeyIter it d i es.size ep/\h.get? d=some o) where
 sub:=fun b hb=>by rw [List.mem_singleton.mp hb];exact List.mem_cons_self ..
 frame:=fun _ _ _ st hk=>⟨st.1.at fun o e=>hk it (by simp) o e,hk d (by simp) _ st.2⟩
 item:=fun i s Q E hi st hQ=>uZ st.1 st.2 he hi fun h' st' sb=>hQ _ h' s.toks ⟨es[i],by simp [hi],rfl⟩ ⟨st',(sb.2 d hne).trans st.2⟩ fun b o hb e=>sb.extBut b o (fun h=>hb (by simp [h])) e
 done:=fun s Q E st hQ=>yU hh st.1 st.2 he (Nat.le_refl _) fun h' eb=>hQ h' s.toks fun b o hb e=>eb b o (fun h=>hb (by simp [h])) e
 self:=fun _ _ _ _ st hQ=>wpAny_pyIter_keyiter st.1 hQ
theorem Hz (lo:(d==sysModules)=false) (hx:o.ExactDict) (he:o.data = .dict es ep):KdlSrc prog w "dict" d d es.size (fun i v=>∃e,es[i]? = some e/\v=e.key) (fun h=>h.get? d=some o) where
 type:=fun _ hm=>⟨o,hm,hx.1⟩
 there:=fun _ hm=>⟨Heap.lt_size hm,Heap.lt_size hm⟩
 keep:=fun _ _ hm hk=>hk d (.inl rfl) o hm
 notList:=by decide
 notTuple:=by decide
 hint:=fun _ _ s _ hm hq=>kdl_hint_dict ⟨o,hm,hx.1⟩ hq
 iter:=fun _ s hh hm=>⟨_,_,(fun _ _ hq=>sW lo hm hx he hq),Ew hh _ d (Nat.ne_of_lt (Heap.lt_size hm)) he,⟨⟨_,Heap.get?_push_size _ rfl,rfl,rfl⟩,Heap.get?_push_of_some _ hm⟩⟩
end
end L2
namespace Tim
open PySem PySem.W PyProof.Rows
section
variable {prog:Program} {w:World} {A:Around} {E:Value->Shared->Prop} {s:Shared} {T:String} {r d:Addr} {n:Nat} {P:Nat->Value->Prop} {OK:Heap->Prop}
theorem Aj {Q:Value->Shared->Prop} (S:KdlSrc prog w T r d n P OK) (hh:A.handled=none) (hok:OK s.heap) (hn:n<=sizeLine)
 (h:∀(vs:List Value) (tk:Nat),vs.length=n->(∀i v,vs[i]? = some v->P i v) -> ∃(κ:SortKind) (rk:Value->Nat),
   (2<=vs.length -> ∀h':Heap,(∀b o,s.heap.get? b=some o->h'.get? b=some o)->(∀(Q:SortKind->Shared->Prop) (E:Value->Shared->Prop),Q κ {s with heap:=h',toks:=tk}->wpAny (model prog w) A.in1.in1 (keyKind' vs.toArray) Q E {s with heap:=h',toks:=tk})/\z7 prog w A.in1.in1 {s with heap:=h',toks:=tk} κ (pairsOf vs) rk) /\
   ∀(h0 h':Heap) (D:Addr) (c:Nat) (out:List Value),(∀b o,s.heap.get? b=some o->h0.get? b=some o)->(∀b o,h0.get? b=some o->h'.get? b=some o)->h0.objs.size<=D->h'.get? D=some (seqObj "list" out.toArray c)->out.Perm vs->out.Pairwise (fun x y=>rk x<=rk y)->Q (.ref D) {s with heap:=h',toks:=tk}):
 wpAny (model prog w) A (call (.builtin "sorted") [.ref r]) Q E s:=by
 refine Calls.call_function_entry kind_sorted plain_sorted entry_sorted (args_sorted1 _) ?_;unfold Builtin.«sorted»;refine wpAny_bind (m:=checkCount "sorted" 1 1 _) (wpAny_pure ?_);refine wpAny_bind (kdu_collect S (show A.in1.handled=none from hh) hok hn fun h0 tk acc JL hacc=> ?_);obtain ⟨κ,rk,hk,fin⟩:=h acc.toList tk (by rw [Array.length_toList];exact hacc.1) fun i v e=>hacc.2 i v (by rw [←Array.getElem?_toList];exact e);have hz:acc.toList.length<=sizeLine:=by rw [Array.length_toList,hacc.1];exact hn
 generalize acc.toList=vs at hk fin hz ⊢;refine wpAny_bind (wpAny_newList ?_ hz);have lt0:∀b o,h0.get? b=some o->b<h0.objs.size:=fun b o e=>Heap.lt_size e;have hoL:(h0.push (seqObj "list" vs.toArray 0)).get? h0.objs.size=some (seqObj "list" vs.toArray 0):=Heap.get?_push_size _ rfl;have keep:∀b o,h0.get? b=some o->(h0.push (seqObj "list" vs.toArray 0)).get? b=some o:=fun b o q=>Heap.get?_push_of_some _ q;show wpAny _ _ _ _ _ {s with heap:=h0.push (seqObj "list" vs.toArray 0),toks:=tk};generalize h0.push (seqObj "list" vs.toArray 0)=h1 at keep hoL ⊢;have le0:=Nat.le_refl h0.objs.size;generalize e0:h0.objs.size=Dl at hoL lt0 ⊢;rw [e0] at le0;have nD:∀b o,h0.get? b=some o->b≠Dl:=fun b o e=>Nat.ne_of_lt (lt0 b o e);refine wpAny_bind (wpAny_holding (wpAny_call_entry slot_list_sort ⟨_,hoL,rfl⟩ entry_list_sort (mL (s:={s with heap:=h1,toks:=tk}) hoL hz (fun h2 h' kp=>hk h2 h' fun b o e=>kp b o (nD b o (JL b o e)) (keep b o (JL b o e))) fun out p1 p2=>⟨_,rfl, ?_⟩) (args_list_sort _)));refine wpAny_pure ⟨_,rfl, ?_⟩;obtain ⟨e1,ho1⟩:∃e1,(h1.update Dl (Obj.mapSeq fun _=> #[])).get? Dl=some (seqObj "list" #[] e1):=⟨_,get?_update_seq hoL (fun _=> #[])⟩;have ho2:(((h1.update Dl (Obj.mapSeq fun _=> #[])).push (seqObj "tuple" vs.toArray 0)).push (seqObj "list" #[] 0)).get? Dl=some (seqObj "list" #[] e1):=Heap.get?_push_of_some _ (Heap.get?_push_of_some _ ho1);refine fin h0 (sortedHeap h1 Dl vs out.toArray) Dl _ out JL (fun b o e=> ?_) (Nat.le_of_eq e0) (by unfold sortedHeap;exact get?_update_seq ho2 (fun _=>out.toArray)) p1 p2;unfold sortedHeap;rw [Heap.get?_update_ne _ _ _ _ (nD b o e)];refine Heap.get?_push_of_some _ (Heap.get?_push_of_some _ ?_);rw [Heap.get?_update_ne _ _ _ _ (nD b o e)];exact keep b o e
end
end Tim
namespace L2
open PySem PySem.Spec PyProof.Rows PySem.W
section
variable {prog:Program} {w:World} {d:Addr}
theorem Fz {α β:Type} {R:α->β->Prop} {as:List α} {bs:List β} (r:Paired R as bs):∀{i:Nat} {b:β},bs[i]? = some b -> ∃a,as[i]? = some a/\R a b:=by
 induction r with
 | nil=>intro i b e;cases e
 | @cons a b as bs h r ih=>
   intro i c e;cases i with
   | zero=>cases e;exact ⟨a,rfl,h⟩
   | succ i=>exact ih (by simpa using e)
end
section
variable {X:Cx}
def m9 (H:Hp):V->List Int
 | .ref a=>match H a with
   | some (.tup xs)=>xs.map fun x=>match x with
     | .int n=>n
     | _=>0
   | _=>[]
 | _=>[]
theorem m8 {H:Hp} {a:Addr} {ns:List Int} (e:H a=some (.tup (ns.map V.int))):m9 H (.ref a)=ns:=by
 unfold m9;dsimp only;rw [e];dsimp only;rw [List.map_map];exact (List.map_congr_left fun x _=>rfl).trans (List.map_id ns)
def QM:List V->Hp->VK->Prop:=fun xs H Q=>∃(d:Addr) (kvs:List (List Key×V)) (k:Nat) (ls:List (List Int)),xs=[.ref d]/\H d=some (.dT kvs)/\kvs.map (·.1)=ls.map (fun l=>l.map (Sum.inl (β:=Str)))/\1<=k/\(∀l∈ls,l.length=k) /\
 ∀(p:Addr) (zs:List V) (ms:List (List Int)),H p=none->ms.Perm ls->ms.Pairwise (fun x y=>Tim.eY y x=false)->zs.length=ms.length->(∀(i:Nat) m,ms[i]? = some m -> ∃a,zs[i]? = some (.ref a)/\H a=some (.tup (m.map V.int)))->Q (.ref p) (upd H p (.lst zs))
theorem BZ (hc:X.calm=true):fZ X (.builtin "sorted") QM:=by
 intro pins s σ H xs us Q I r h;obtain ⟨d,kvs,k,ls,rfl,hd,ek,hk,hl,q⟩:=h;obtain ⟨u,rfl,ru⟩:=vals1 r;cases ru;obtain ⟨z,lo,ys,rel,o,es,ep,ho,hx,he,hes,_⟩:=(show bD X.prog X.w H s.heap d (.dT kvs) from I.hok d _ hd);have lk:kvs.length=ys.length:=Paired.length rel;have le:es.size=ys.length:=by rw [←Array.length_toList,hes,List.length_map]
 have at':∀(i:Nat) y,ys[i]? = some y -> ∃l,ls[i]? = some l/\H y.2.1=some (.tup (l.map V.int)):=fun i y ey=>by
  obtain ⟨a,ea,e1,e2,_⟩:=Fz rel ey;have e3:(kvs.map (·.1))[i]? = some a.1:=by rw [List.getElem?_map,ea];rfl
  rw [ek,List.getElem?_map] at e3;cases el:ls[i]? with
  | none=>rw [el] at e3;cases e3
  | some l=>
    rw [el] at e3;have:a.1=l.map (Sum.inl (β:=Str)):=(Option.some.inj e3).symm;rw [this,List.map_map] at e2;exact ⟨l,rfl,e2⟩
 have lls:ls.length=ys.length:=by have:=congrArg List.length ek;simp at this;omega
 refine Tim.Aj (Hz lo hx he) (I.ok.hd hc) ho (by rw [le,←lk];exact z) fun vs tk hv hP=> ?_
 have ev:vs=ys.map fun q=>Value.ref q.2.1:=by
  refine List.ext_getElem? fun i=> ?_;cases e:vs[i]? with
  | none=>
    rw [List.getElem?_eq_none_iff] at e;rw [List.getElem?_eq_none (by rw [List.length_map];omega)]
  | some v=>
    obtain ⟨en,ee,rfl⟩:=hP i v e;rw [←Array.getElem?_toList,hes,List.getElem?_map] at ee;cases ey:ys[i]? with
    | none=>rw [ey] at ee;cases ee
    | some y=>
      rw [ey] at ee;cases ee;rw [List.getElem?_map,ey];rfl
 have rv:∀l:List (List Key×Addr×Value),Vals (l.map fun q=>V.ref q.2.1) (l.map fun q=>Value.ref q.2.1):=fun l=>by
  induction l with
  | nil=>exact .nil
  | cons a l ih=>exact .cons rfl ih
 have tf:∀q∈ys,∃l,l∈ls/\H q.2.1=some (.tup (l.map V.int)):=fun q hq=>by
  obtain ⟨i,hi,e⟩:=List.getElem_of_mem hq;obtain ⟨l,el,eh⟩:=at' i q (by rw [List.getElem?_eq_getElem hi,e]);exact ⟨l,List.mem_of_getElem? el,eh⟩
 have item:∀q∈ys,∃jts,IsTup s.heap q.2.1 jts.toArray/\IntsAre jts (m9 H (.ref q.2.1))/\(m9 H (.ref q.2.1)).length=k:=fun q hq=>by
  obtain ⟨l,hl',eh⟩:=tf q hq;obtain ⟨jts,rj,tj,_⟩:=I.tuple (cJ.of eh);rw [m8 eh];exact ⟨jts,tj,pF rj,hl l hl'⟩
 have T:zR s.heap k vs:=fun v hv'=>by
  rw [ev] at hv';obtain ⟨y,hy,rfl⟩:=List.mem_map.mp hv';obtain ⟨jts,e1,e2,e3⟩:=item y hy;exact ⟨_,jts,_,rfl,e1,e2,e3⟩
 refine ⟨tuples' true,Tim.jU (fun a b=>Tim.eY (keyOf s.heap a) (keyOf s.heap b)) vs,fun h2 h' kp=>⟨fun Q E hQ=>uQ (s:={s with heap:=h',toks:=tk}) hk T h2 kp hQ,xX (s:={s with heap:=h',toks:=tk}) T kp⟩,fun h0 h' D c out k0 kp hD hdl hp hs=> ?_⟩;have rvs:Vals (ys.map fun q=>V.ref q.2.1) vs:=by rw [ev];exact rv ys
 obtain ⟨zs,z1,z2⟩:=uN rvs hp;have hzl:zs.length<=sizeLine:=by rw [z2.length_eq,List.length_map,←lk];exact z
 have I1:Inv X pins σ H {s with heap:=h0,toks:=tk}:=I.kept (t':=tk) k0
 have zat:∀x∈zs,∃q∈ys,x=V.ref q.2.1:=fun x hx'=>by
  obtain ⟨q,hq,e⟩:=List.mem_map.mp (z2.mem_iff.mp hx');exact ⟨q,hq,e.symm⟩
 refine ⟨.ref D,_,I1.laid (t':=tk) kp hD (show bD X.prog X.w _ h' _ (.lst zs) from ⟨hzl,out,c,z1,hdl⟩),rfl,q D zs (zs.map (m9 H)) (I1.hok.fresh hD) ?_ ?_ (by rw [List.length_map]) fun i m e=> ?_⟩
 ·have:=z2.map (m9 H)
  have e:(ys.map fun q=>V.ref q.2.1).map (m9 H)=ls:=by
   refine List.ext_getElem (by simp;omega) fun i h1 h2=> ?_;obtain ⟨l,el,eh⟩:=at' i ys[i] (by simp);rw [List.getElem?_eq_getElem h2] at el;cases el;simp only [List.getElem_map];exact m8 eh
  rw [e] at this;exact this
 ·have hs':out.Pairwise (fun u v=>u∈vs/\v∈vs/\Tim.eY (keyOf s.heap v) (keyOf s.heap u)=false):=by
   refine List.Pairwise.imp_of_mem (fun {u v} hu hv huv=> ?_) hs;have mu:=hp.mem_iff.mp hu;have mv:=hp.mem_iff.mp hv;exact ⟨mu,mv,Tim.Dd (Tim.vU (keyOf s.heap)) mv huv⟩
  rw [List.pairwise_map];refine oJ (fun x y u v rx ry huv=> ?_) z1 hs';obtain ⟨hu,hv',hlt⟩:=huv;rw [ev] at hu hv';obtain ⟨q1,hq1,rfl⟩:=List.mem_map.mp hu;obtain ⟨q2,hq2,rfl⟩:=List.mem_map.mp hv';obtain ⟨j1,a1,a2,a3⟩:=item q1 hq1;obtain ⟨j2,b1,b2,b3⟩:=item q2 hq2;rw [iR a1 a2,iR b1 b2] at hlt
  have ex:x=V.ref q1.2.1:=by
   cases x with
   | ref a=>cases rx;rfl
   | int n=>obtain ⟨t,e⟩:=rx;cases e
   | str n=>obtain ⟨t,e⟩:=rx;cases e
   | zZ n=>obtain ⟨t,e⟩:=rx;cases e
   | flt n=>obtain ⟨t,e⟩:=rx;cases e
   | bl b=>cases rx
   | non=>cases rx
   | _=>cases rx
  have ey:y=V.ref q2.2.1:=by
   cases y with
   | ref a=>cases ry;rfl
   | int n=>obtain ⟨t,e⟩:=ry;cases e
   | str n=>obtain ⟨t,e⟩:=ry;cases e
   | zZ n=>obtain ⟨t,e⟩:=ry;cases e
   | flt n=>obtain ⟨t,e⟩:=ry;cases e
   | bl b=>cases ry
   | non=>cases ry
   | _=>cases ry
  rw [ex,ey];exact hlt
 ·rw [List.getElem?_map] at e
  cases ez:zs[i]? with
  | none=>rw [ez] at e;cases e
  | some x=>
    rw [ez] at e;obtain ⟨q,hq,rfl⟩:=zat x (List.mem_of_getElem? ez);obtain ⟨l,_,eh⟩:=tf q hq;have em:m=l:=by rw [←Option.some.inj e];exact m8 eh
    rw [em];exact ⟨_,rfl,eh⟩
end
end L2
set_option Elab.async false
set_option linter.all false
set_option maxRecDepth 100000
set_option maxHeartbeats 1000000
namespace L2
open PySem PySem.Spec PyProof.Rows PySem.W
section
variable {P:Program} {w:World} {H:Hp} {h h':Heap} {p:Addr} {ps:Array Value}
theorem Un.Qi {fs ex:List Addr} {more:Array Value} {c f:Addr} {o1 o2:HO} (hp:H p=some (.kE ps)) (k:∀b u,b≠p->h.get? b=some u->h'.get? b=some u) (hn:∃u,h'.get? p=some u) (hc:H c=none) (hf:H f=none) (sc:h.objs.size<=c) (sf:h.objs.size<=f):
 Un fs ex H (upd (upd (upd H p (.kE (ps++more))) c o1) f o2) h h':=by
 have np:∀b,H b=none->b≠p:=fun b n z=>by rw [z,hp] at n;cases n
 have at_:∀b u,H b=some u->b≠p->(upd (upd (upd H p (.kE (ps++more))) c o1) f o2) b=some u:=fun b u e n=>by
  rw [aJ (au e hf),aJ (au e hc),aJ n];exact e
 have lt:∀b u,h.get? b=some u->b≠c/\b≠f:=fun b u e=>⟨Nat.ne_of_lt (Nat.lt_of_lt_of_le (Heap.lt_size e) sc),Nat.ne_of_lt (Nat.lt_of_lt_of_le (Heap.lt_size e) sf)⟩;refine ⟨fun b u q n _ _=>k b u (np b n) q,fun b u q n _ _=>⟨u.slots,k b u (np b n) q⟩,fun b u q n _=> ?_,fun b u q _=> ?_,fun b xs q=>at_ b _ q fun z=> ?_,fun b u xs q=>at_ b _ q fun z=> ?_,fun b qs q=> ?_⟩
 ·rw [aJ (lt b u q).2,aJ (lt b u q).1,aJ (np b n)];exact n
 ·by_cases z:b=p
  ·rw [z];exact hn
  ·exact ⟨u,k b u z q⟩
 ·rw [z,hp] at q;cases q
 ·rw [z,hp] at q;cases q
 ·by_cases z:b=p
  ·subst z
   rw [hp] at q;cases q;exact ⟨more,by rw [aJ (au hp hf),aJ (au hp hc),ak]⟩
  ·exact ⟨#[],by rw [at_ b _ q z];simp⟩
theorem lM.Qi {more:Array Value} {c f:Addr} {o1 o2:HO} (ok:lM P w H h) (hp:H p=some (.kE ps)) (k:∀b u,b≠p->h.get? b=some u->h'.get? b=some u) (new:h'.get? p=some (tabObj (ps++more))) (hc:H c=none) (hf:H f=none) (XR:c≠f)
 (n1:bD P w (upd (upd (upd H p (.kE (ps++more))) c o1) f o2) h' c o1) (n2:bD P w (upd (upd (upd H p (.kE (ps++more))) c o1) f o2) h' f o2):lM P w (upd (upd (upd H p (.kE (ps++more))) c o1) f o2) h':=fun b u q=>by
 by_cases hbf:b=f
 ·subst hbf;rw [ak] at q;cases q;exact n2
 rw [aJ hbf] at q
 by_cases hbc:b=c
 ·subst hbc;rw [ak] at q;cases q;exact n1
 rw [aJ hbc] at q
 by_cases hb:b=p
 ·subst hb;rw [ak] at q;cases q;exact new
 ·rw [aJ hb] at q
  have at_:∀d u,H d=some u->d≠p->(upd (upd (upd H p (.kE (ps++more))) c o1) f o2) d=some u:=fun d u e n=>by
   rw [aJ (au e hf),aJ (au e hc),aJ n];exact e
  refine (ok b u q).stay (fun d v hd r=>k d v ?_ r) (fun d r=>at_ d _ r fun z=> ?_) fun d xs r=>at_ d _ r fun z=> ?_
  ·rcases hd with rfl|hd
   ·exact hb
   ·intro z;rw [z,hp] at hd;cases hd
  ·rw [z,hp] at r;cases r
  ·rw [z,hp] at r;cases r
end
def Bm (mg:Str->Option Value) (h:Heap):Prop:=∃bm ob,mg "__builtins__" = some (.ref bm)/\bm≠builtinsNs/\h.get? bm=some ob/\ob.cls = .type "module" /\ ob.dict=some builtinsNs/\ob.data = .plain
abbrev Y8 (c:Addr) (qual:Str):HO:= .ext fun h=>h.CodeRec (.ref c) qual
abbrev Y7 (f:Addr) (o:Obj):HO:= .ext fun h=>h.get? f=some o
def Ti (H:Hp) (p:Addr) (pos:Pos) (qual:Str):Prop:=H p=some (.kE #[]) \/ ∃c,H p=some (.kE #[rawInt pos.line,rawInt pos.col,.ref c])/\H c=some (Y8 c qual)
def Cv (H:Hp) (f:Addr) (qual:Str) (params:Arguments) (body:Expr) (scope:Scope) (pm:Value):Prop:=∃c ctv,H f=some (Y7 f (kla_obj "<lambda>" qual params body scope [] pm c ctv))/\H c=some (Y8 c qual)
section
variable {X:Cx}
def Zg (p:Addr) (pos:Pos) (qual:Str) (params:Arguments) (body:Expr) (scope:Scope) (pm:Value):TE:=fun _ H Q=>Ti H p pos qual /\ ∀(f:Addr) (H':Hp),H f=none->Cv H' f qual params body scope pm->Ti H' p pos qual->Kp p H H'->Q (.ref f) H'
theorem Wt {P:Program} {w:World} {H:Hp} {h:Heap} {c:Addr} {qual:Str} (r:h.CodeRec (.ref c) qual):bD P w H h c (Y8 c qual):=by
 obtain ⟨c',o,vs,t,e,g,d⟩:=id r;cases e;exact ⟨r,⟨o,g⟩,fun h1 h2 ⟨c2,o2,vs2,t2,e2,g2,d2⟩ kp=>by cases e2;exact ⟨_,o2,vs2,t2,rfl,kp o2 g2,d2⟩⟩
theorem Pn {P:Program} {w:World} {H:Hp} {h:Heap} {f:Addr} {o:Obj} (e:h.get? f=some o):bD P w H h f (Y7 f o):=⟨e,⟨o,e⟩,fun h1 h2 e1 kp=>kp o e1⟩
theorem Q0 {params:Arguments} {body:Expr} {scope:Scope} {pos:Pos} {c p:Addr} (BM:Bm X.mg X.base) (hcode:X.env.code = .ref c) (hcd:codeHdIn X.K c p=true) (hg:X.env.globals=mainGlobals:=by rfl) (hcl:closureFor scope X.env=pure []:=by rfl) (hdef:defaultsOf params X.env=([],[]):=by rfl):
 PE X (.Lambda params body scope pos) (Zg p pos (X.env.qual ++ "<lambda>") params body scope ((X.mg "__name__").getD .none)):=by
 intro pins s σ H Q I h;obtain ⟨lt,q⟩:=h;have C:CodeHd s.heap c p:=codeHd_of_K I.xK hcd;have hns:s.heap.Ns mainGlobals X.mg:=I.ok.mod.glob.keeps I.bk;obtain ⟨bm,ob,b1,b2,b3,b4,b5,b6⟩:=BM;have Xc:=I.bk _ _ b3;have tr:∃ps,H p=some (.kE ps):=by rcases lt with e|⟨_,e,_⟩<;>exact ⟨_,e⟩
 obtain ⟨ps0,hp0⟩:=tr;have hP0:s.heap.get? p=some (tabObj ps0):=(show bD X.prog X.w H s.heap p (.kE ps0) from I.hok p _ hp0)
 have hgP:mainGlobals≠p:=fun z=>by
  obtain ⟨o,es,ep,e,hd,_⟩:=hns;rw [z,hP0] at e;cases e;cases hd
 have hbP:bm≠p:=fun z=>by rw [z,hP0] at Xc;cases Xc;cases b4
 have hbG:bm≠mainGlobals:=fun z=>by
  obtain ⟨o,es,ep,e,hd,_⟩:=hns;rw [z,e] at Xc;cases Xc;rw [hd] at b6;cases b6
 have hb:s.heap.BuiltinsAt X.mg p:=⟨bm,ob,b1,b2,hbG,hbP,Xc,b4,b5,b6⟩;refine kla_eval hdef ?_;rcases lt with hp|⟨c0,hp,hc0⟩
 ·have hP:s.heap.get? p=some (tabObj #[]):=(show bD X.prog X.w H s.heap p (.kE #[]) from I.hok p _ hp)
  refine kla_makeFunction hcl hg hns hcode C hP True.intro rfl hgP hb fun c' ctv h' tk hx hge hlt hrec htb=> ?_;have hsz:s.heap.objs.size<=h'.objs.size:=Nat.le_trans hge (Nat.le_of_lt hlt);have nc:H c'=none:=I.hok.fresh hge;have nf:H h'.objs.size=none:=I.hok.fresh hsz;have XR:c'≠h'.objs.size:=Nat.ne_of_lt hlt;have kp:∀b u,b≠p->s.heap.get? b=some u->(h'.push (kla_obj "<lambda>" (X.env.qual ++ "<lambda>") params body scope [] ((X.mg "__name__").getD .none) c' ctv)).get? b=some u:=fun b u n e=>Heap.get?_push_of_some _ (hx b u n e);have htb':=Heap.get?_push_of_some (kla_obj "<lambda>" (X.env.qual ++ "<lambda>") params body scope [] ((X.mg "__name__").getD .none) c' ctv) htb;have hrec':=hrec.push (kla_obj "<lambda>" (X.env.qual ++ "<lambda>") params body scope [] ((X.mg "__name__").getD .none) c' ctv);have fo:(h'.push (kla_obj "<lambda>" (X.env.qual ++ "<lambda>") params body scope [] ((X.mg "__name__").getD .none) c' ctv)).get? h'.objs.size=some (kla_obj "<lambda>" (X.env.qual ++ "<lambda>") params body scope [] ((X.mg "__name__").getD .none) c' ctv):=Heap.get?_push_size _ rfl
  have I':=I.un (t':=tk) (Un.Qi (fs:=X.fs) (ex:=[]) (o1:=Y8 c' (X.env.qual ++ "<lambda>")) (o2:=Y7 h'.objs.size (kla_obj "<lambda>" (X.env.qual ++ "<lambda>") params body scope [] ((X.mg "__name__").getD .none) c' ctv)) hp kp ⟨_,htb'⟩ nc nf hge hsz)
   (lM.Qi I.hok hp kp htb' nc nf XR (Wt hrec') (Pn fo))
  refine ⟨.ref h'.objs.size,_,I',rfl,q _ _ nf ⟨c',ctv,ak, ?_⟩ (.inr ⟨c', ?_, ?_⟩) fun b u e n=> ?_⟩
  ·rw [aJ XR,ak]
  ·have npc:p≠c':=au hp nc
   have npf:p≠h'.objs.size:=au hp nf;rw [aJ npf,aJ npc,ak];simp
  ·rw [aJ XR,ak]
  ·rw [aJ (au e nf),aJ (au e nc),aJ n]
   exact e
 ·have hP:s.heap.get? p=some (tabObj #[rawInt pos.line,rawInt pos.col,.ref c0]):=(show bD X.prog X.w H s.heap p (.kE _) from I.hok p _ hp)
  refine kla_makeFunctionHit hcl hg hns hcode C hP (cv:= .ref c0) trivial (by simp [codeAmong,rawInt]) hb fun ctv h' tk hk hsz=> ?_;have nf:H h'.objs.size=none:=I.hok.fresh hsz;have fo:(h'.push (kla_obj "<lambda>" (X.env.qual ++ "<lambda>") params body scope [] ((X.mg "__name__").getD .none) c0 ctv)).get? h'.objs.size=some (kla_obj "<lambda>" (X.env.qual ++ "<lambda>") params body scope [] ((X.mg "__name__").getD .none) c0 ctv):=Heap.get?_push_size _ rfl;have I':=I.laid (t':=tk) (o:=Y7 h'.objs.size (kla_obj "<lambda>" (X.env.qual ++ "<lambda>") params body scope [] ((X.mg "__name__").getD .none) c0 ctv)) (fun b u e=>Heap.get?_push_of_some _ (hk b u e)) hsz (Pn fo);refine ⟨.ref h'.objs.size,_,I',rfl,q _ _ nf ⟨c0,ctv,ak, ?_⟩ (.inr ⟨c0, ?_, ?_⟩) fun b u e n=> ?_⟩
  ·rw [aJ (au hc0 nf)];exact hc0
  ·rw [aJ (au hp nf)];exact hp
  ·rw [aJ (au hc0 nf)];exact hc0
  ·rw [aJ (au e nf)];exact e
end
end L2
set_option Elab.async false
set_option linter.all false
set_option maxRecDepth 100000
set_option maxHeartbeats 1000000
namespace L2
open PySem PySem.Spec PyProof.Rows PySem.W
structure Ep (P:Program) (w:World) (K:PySem.W.Frag) (mg:Str->Option Value) (base:Heap) (k:Nat) (N ps:List Str) (qual:Str) (params:Arguments) (body:Expr) (scope:Scope) (sp:List V->Hp->VK->Prop):Prop where
 sc:aX N ps scope
 bind:∀(pm ctv:Value) (c:Addr) (us:List Value),us.length=ps.length->bindArgs (kla_fn "<lambda>" qual params body scope [] pm (.ref c) ctv) ⟨us,[]⟩=pure (ps.zip us)
 len:∀vs H Q,sp vs H Q->vs.length=ps.length
 run:∀(f c:Addr) (A:Around) (outer:List Env) (s:Shared) (H:Hp) (vs:List V) (Q:VK),eZ k (A.deeper (envOfC qual scope s.heap.objs.size f (.ref c)))->sp vs H Q ->
  ∃t,PE (wQ jx P w K mg base N qual scope f (.ref c) A outer s H E0).Rf body t/\t (start N vs) H Q
theorem M9 {P:Program} {w:World} {K:PySem.W.Frag} {mg:Str->Option Value} {base:Heap} {k:Nat} {N ps:List Str} {qual:Str} {params:Arguments} {body:Expr} {scope:Scope} {sp:List V->Hp->VK->Prop} {pm:Value} {f:Addr} {A:Around} {outer:List Env} {s:Shared} {H:Hp} {us:List Value} {vs:List V} {Q:VK}
 (L:Ep P w K mg base k N ps qual params body scope sp) (hr:eZ (k+1) A) (e0:xu P w K mg base A outer s H) (F:Cv H f qual params body scope pm) (r:Vals vs us) (hsp:sp vs H Q):
 codeAny (model P w) A (.call (.ref f) ⟨us,[]⟩) (CR jx outer P w H s Q E0) s:=by
 obtain ⟨c,ctv,hf,hc⟩:=F;have hl:=L.len _ _ _ hsp;have S:=L.sc;have lim:s.heap.NoLimit:=e0.mod.nolimit.keeps fun b o e=>(e0.bs b o e).1;have fo:s.heap.get? f=some (kla_obj "<lambda>" qual params body scope [] pm c ctv):=(e0.hok f _ hf).1;have cd:s.heap.CodeRec (.ref c) qual:=(e0.hok c _ hc).1
 have hkind:∀y∈ps.zip us,scope.names.lookup y.1=some .local\/(scope.names.lookup y.1=some .cell/\((cellsFrom (s.heap.objs.size+1) scope.names []).lookup y.1).isSome=true):=fun ⟨n,v⟩ hy=>by
  rcases S.par n (List.of_mem_zip hy).1 with q|q
  ·exact .inl q
  ·exact .inr ⟨q,PySem.W.cellsFrom_some _ _ _ (.inl q)⟩
 refine kla_callFunE hr.depth fo rfl S.co S.gen rfl cd ?_;have hb:=L.bind pm ctv c us (by rw [←r.length];exact hl);refine wpAny_of_eq hb ?_;refine wpAny_newFunctionEnv_cells S.kind hkind fun env he s1 x=> ?_;subst he;refine ⟨lim.keeps x.toInCall.keep,kla_codeExpr ?_⟩;obtain ⟨t,ht,hq⟩:=L.run f c A outer s H vs Q (hr.deeper _) hsp;have I:Inv (wQ jx P w K mg base N qual scope f (.ref c) A outer s H E0) [] (start N vs) H s1:=u9 S hr.hd e0 hl r x;refine wpAny_mono (ht [] s1 (start N vs) H _ (I.wish _) hq) (fun u s' hs=> ?_) fun e s' hs=>hs.elim;obtain ⟨v,H',J,rv,q⟩:=hs;exact ⟨v,H',J.os,J.bare,J.base,J.hok,rv,q⟩
section
variable {X:Cx} {k:Nat} {N ps:List Str} {qual:Str} {params:Arguments} {body:Expr} {scope:Scope} {sp:List V->Hp->VK->Prop} {pm:Value} {f:Addr}
theorem M_ {pins:List (Addr×Obj)} {σ:St} {H:Hp} {s:Shared} {Q:VK} {us:List Value} {vs:List V} (L:Ep X.prog X.w X.K X.mg X.base k N ps qual params body scope sp) (hr:eZ (k+2) X.A)
 (I:Inv X pins σ H s) (F:Cv H f qual params body scope pm) (r:Vals vs us) (q:sp vs H Q):wpAny (model X.prog X.w) X.A.in1 (call (.ref f) us) (EP X pins σ Q) (fun _ _=>False) s:=by
 refine wpAny_call (codeAny_mono (M9 L (eZ.in1 hr) I.env0.in1 F r q) fun res s' hq=> ?_)
 match res,hq with
 | .error ev,hq=>exact hq
 | .ok (.ret u),hq=>exact I.after hq
theorem Cv.same {H H':Hp} (F:Cv H f qual params body scope pm) (s:Same H H'):Cv H' f qual params body scope pm:=by
 obtain ⟨c,ctv,a,b⟩:=F;exact ⟨c,ctv,s _ _ a,s _ _ b⟩
end
theorem lex_asymm:∀{a b:List Int},HT.lexLt a b=true->HT.lexLt b a=false
 | [],[],_=>rfl
 | [],_::_,_=>rfl
 | _::_,[],h=>by cases h
 | x::xs,y::ys,h=>by
   rw [HT.i_] at h ⊢
   by_cases e:x=y
   ·subst e
    rw [if_pos rfl] at h ⊢;exact lex_asymm h
   ·rw [if_neg e] at h
    rw [if_neg (Ne.symm e)];have:=of_decide_eq_true h;exact decide_eq_false (by omega)
theorem Du:∀{a b c:List Int},HT.lexLt a b=true->HT.lexLt c b=false->HT.lexLt a c=true
 | [],[],_,h,_=>by cases h
 | [],_::_,[],_,h=>by cases h
 | [],_::_,_::_,_,_=>rfl
 | _::_,[],_,h,_=>by cases h
 | _::_,_::_,[],_,h=>by cases h
 | x::xs,y::ys,z::zs,h,g=>by
   rw [HT.i_] at h g ⊢
   by_cases e:x=y
   ·subst e
    rw [if_pos rfl] at h
    by_cases e2:z=x
    ·subst e2
     rw [if_pos rfl] at g ⊢;exact Du h g
    ·rw [if_neg e2] at g
     rw [if_neg (Ne.symm e2)];have:=of_decide_eq_false g;exact decide_eq_true (by omega)
   ·rw [if_neg e] at h
    have h1:=of_decide_eq_true h
    by_cases e2:z=y
    ·subst e2
     rw [if_neg e];exact h
    ·rw [if_neg e2] at g
     have:=of_decide_eq_false g;rw [if_neg (by omega)];exact decide_eq_true (by omega)
def cY (kf:Nat->List Int) (n i:Nat):Prop:=∀j,j<n->HT.lexLt (kf j) (kf i)=false/\(j<i->HT.lexLt (kf i) (kf j)=true)
theorem lex_irrefl (a:List Int):HT.lexLt a a=false:=by
 cases h:HT.lexLt a a with
 | false=>rfl
 | true=>exact absurd h (by rw [lex_asymm h];decide)
theorem cY.one {kf:Nat->List Int}:cY kf 1 0:=fun j hj=>by
 obtain rfl:j=0:=by omega
 exact ⟨lex_irrefl _,fun z=>absurd z (Nat.lt_irrefl _)⟩
theorem cY.more {kf:Nat->List Int} {n i:Nat} (h:cY kf n i) (hi:i<n) (b:HT.lexLt (kf n) (kf i)=true):cY kf (n+1) n:=fun j hj=>by
 by_cases e:j=n
 ·subst e
  exact ⟨lex_irrefl _,fun z=>absurd z (Nat.lt_irrefl _)⟩
 ·have h1:=(h j (by omega)).1
  have h2:=Du b h1;exact ⟨lex_asymm h2,fun _=>h2⟩
theorem cY.less {kf:Nat->List Int} {n i:Nat} (h:cY kf n i) (hi:i<n) (b:HT.lexLt (kf n) (kf i)=false):cY kf (n+1) i:=fun j hj=>by
 by_cases e:j=n
 ·subst e
  exact ⟨b,fun z=>by omega⟩
 ·exact h j (by omega)
section
variable {X:Cx} {pins:List (Addr×Obj)} {σ:St} {H:Hp} {q l I S:Addr} {xs:List V}
theorem yd {H':Hp} (h:bh X.K H l xs) (sm:Same H H'):bh X.K H' l xs:=by
 rcases h with (h|⟨o,h⟩)|h
 ·exact .inl (.inl (sm _ _ h))
 ·exact .inl (.inr ⟨o,sm _ _ h⟩)
 ·exact .inr h
theorem fO.of {b:Addr} {H':Hp} (h:fO X pins H b) (n:H' b=none):fO X pins H' b:=⟨n,h.2⟩
theorem ints_of {H1:Hp} {s:Shared} {t:Addr} {ns:List Int} (J:Inv X pins σ H1 s) (h:H1 t=some (.tup (ns.map V.int))):∃its:List Value,IsTup s.heap t its.toArray/\IntsAre its.toArray.toList ns:=by
 obtain ⟨its,r,p,_⟩:=J.tuple (cJ.of h);exact ⟨its,p,intsAre_of r⟩
theorem Ge {R:Result->Shared->Prop} (kf:Nat->List Int) (hh:X.A.handled=none) (hu:X.A.in1.units<cLine) (hl:bh X.K H l xs) (hlI:l≠I) (hSI:S≠I)
 (turn:∀(jE:List (Addr×Obj)) (i:Nat) (v:V) (u:Value) (H1:Hp) (s1:Shared),xs[i]? = some v->Inv X jE σ H1 s1->RelV v u->Same H H1 ->
   wpAny (model X.prog X.w) X.A.in1 (call (.ref q) [u]) (EP X jE σ fun r H2=>∃t,r = .ref t/\H2 t=some (.tup ((kf i).map V.int))/\Same H1 H2) (fun _ _=>False) s1)
 (hR:∀(i:Nat) (v:V) (u:Value) (H1:Hp) (s1:Shared),xs[i]? = some v->RelV v u->cY kf xs.length i->Inv X pins σ H1 s1->Same H H1->R (.ok (.ret u)) s1):
 ∀(r j i:Nat) (H1:Hp) (s1:Shared) (vb:V) (ub:Value) (kb:Addr) (c:Nat),xs.length - (j+1)=r->j+1<=xs.length->Inv X pins σ H1 s1->Same H H1->fO X pins H1 I->fO X pins H1 S ->
  s1.heap.get? S=some (seqObj "list" #[ub,.ref kb] c)->H1 kb=some (.tup ((kf i).map V.int))->s1.heap.IsListIter I l (j+1)->xs[i]? = some vb->RelV vb ub->i<=j->cY kf (j+1) i ->
  codeAny (model X.prog X.w) X.A (.builtin "min.loop" ⟨[.ref I,.ref q,.ref S],[]⟩) R s1:=by
 have hname:(toString "min" ++ toString ".loop" :String) = "min.loop" :=by decide
 intro r
 induction r with
 | zero=>
   intro j i H1 s1 vb ub kb c hr hj J sm fI fS gS hkb hit hvb ZW hij hbest;have hin:j+1=xs.length:=by omega
   obtain ⟨its,rv,pl,_⟩:=J.list (yd hl sm);have hlen:its.length=xs.length:=rv.length.symm;have W:=Walks.list (prog:=X.prog) (w:=X.w) (A:=X.A.in1) hh I l hlI its.toArray;have hsz:its.toArray.size=its.length:=List.size_toArray ..;refine codeAny_builtin PySem.F.entry_min_loop ?_;rw [Around.under_plainId PySem.F.plain_min_loop _];show wpAny _ X.A.in1 (seqItems? (.ref S) >>= _) _ _ _;refine wpAny_bind (wpAny_seqItems gS rfl ?_);show wpAny _ X.A.in1 (tryCatch (pyNext (.ref I)) _ >>= _) _ _ _;refine wpAny_bind (wpAny_tryCatch (W.done _ _ _ ⟨by rw [hsz,hlen,←hin];exact hit,pl.isList⟩ fun h' tk' hk'=> ?_));have J1:Inv X pins σ H1 {s1 with heap:=h',toks:=tk'}:=J.turned (fun b o nb e=>hk' b o (by simpa using nb) e) fI.1 fI.2.1 fI.2.2.2.1 fI.2.2.2.2.1 fI.2.2.2.2.2;have Wc:=hk' S _ (by simpa using hSI) gS;show wpAny _ X.A.in1 (updateSeq S (fun _=> #[]) >>= _) _ _ _;refine wpAny_bind ?_;refine wpAny_updateSeq Wc rfl (wpAny_bind (wpAny_letGo (wpAny_pure ?_)));refine hR i vb ub H1 _ hvb ZW (hin▸hbest) ?_ sm;exact J1.turned (t':=tk') (fun b o nb e=>(Heap.get?_update_other _ _ (Ne.symm nb)).trans e) fS.1 fS.2.1 fS.2.2.2.1 fS.2.2.2.2.1 fS.2.2.2.2.2
 | succ r ih=>
   intro j i H1 s1 vb ub kb c hr hj J sm fI fS gS hkb hit hvb ZW hij hbest;have hlt:j+1<xs.length:=by omega
   obtain ⟨its,rv,pl,_⟩:=J.list (yd hl sm);have hlen:its.length=xs.length:=rv.length.symm;have W:=Walks.list (prog:=X.prog) (w:=X.w) (A:=X.A.in1) hh I l hlI its.toArray;have hsz:its.toArray.size=its.length:=List.size_toArray ..;refine codeAny_builtin PySem.F.entry_min_loop ?_;rw [Around.under_plainId PySem.F.plain_min_loop _];show wpAny _ X.A.in1 (seqItems? (.ref S) >>= _) _ _ _;refine wpAny_bind (wpAny_seqItems gS rfl ?_);show wpAny _ X.A.in1 (tryCatch (pyNext (.ref I)) _ >>= _) _ _ _;refine wpAny_bind (wpAny_tryCatch (W.item (j+1) _ _ _ (by rw [hsz,hlen];exact hlt) ⟨hit,pl.isList⟩ fun u h' tk' hP hst' hk'=> ?_));have hu':its[j+1]? = some u:=by simpa using hP
   obtain ⟨v,hv,Ma⟩:∃v,xs[j+1]? = some v/\RelV v u:=by
    obtain ⟨u',e1,e2⟩:=rv.get (i:=j+1) (x:=xs[j+1]'hlt) (by simp [hlt]);rw [hu'] at e1;cases e1;exact ⟨_,by simp [hlt],e2⟩
   obtain ⟨oI',hoI',hoc,hod⟩:=id hst'.1;have J1:Inv X pins σ H1 {s1 with heap:=h',toks:=tk'}:=J.turned (fun b o nb e=>hk' b o (by simpa using nb) e) fI.1 fI.2.1 fI.2.2.2.1 fI.2.2.2.2.1 fI.2.2.2.2.2;have Wc:=hk' S _ (by simpa using hSI) gS
   have J2:Inv X (pins++[(I,oI'),(S,seqObj "list" #[ub,.ref kb] c)]) σ H1 {s1 with heap:=h',toks:=tk'}:=J1.qR fun p hp=>by
    rcases List.mem_append.mp hp with hp|hp
    ·exact J1.pin p (List.mem_append_right _ hp)
    ·rcases List.mem_cons.mp hp with rfl|hp
     ·exact ⟨hoI',fI.1,fI.2.1,fI.2.2.1,fun v z=>by rw [hod] at z;cases z⟩
     ·rw [List.mem_singleton.mp hp]
      exact ⟨Wc,fS.1,fS.2.1,fS.2.2.1,fun v z=>by cases z⟩
   show wpAny _ X.A.in1 (tryCatch (holding [u] (call (.ref q) [u])) _ >>= _) _ _ _;refine wpAny_bind (wpAny_tryCatch (wpAny_holding (wpAny_mono (turn _ (j+1) v u H1 _ hv J2 Ma sm) (fun x s'' he=> ?_) fun _ _ hF=>hF.elim)));obtain ⟨rr,H2,J3,rx,t,rfl,ht,s2⟩:=he;obtain rfl:x=Value.ref t:=rx;have pI:=J3.pin (I,oI') (List.mem_append_right _ (List.mem_append_right _ (.head _)));have pS:=J3.pin (S,seqObj "list" #[ub,.ref kb] c) (List.mem_append_right _ (List.mem_append_right _ (.tail _ (.head _))));have J4:Inv X pins σ H2 s'':=J3.iU;have Yn:fO X pins H2 I:=fI.of pI.2.1;have Eb:fO X pins H2 S:=fS.of pS.2.1;have V7:=s2 _ _ hkb;obtain ⟨is1,p1,i1⟩:=ints_of J4 ht;obtain ⟨is2,p2,i2⟩:=ints_of J4 V7;show wpAny _ X.A.in1 (tryCatch (holding [u,.ref t] (richCompare .Lt (.ref t) (.ref kb) >>= _)) _ >>= _) _ _ _;refine wpAny_bind (wpAny_tryCatch (wpAny_holding (wpAny_bind (HT.Bq p1 p2 i1 i2 hu ?_))));refine wpAny_bind (wpAny_holding (wpAny_truthy_bool ?_));refine wpAny_bind (wpAny_letGo (wpAny_pure ?_));cases hb':HT.lexLt (kf (j+1)) (kf i) with
   | true=>
     obtain ⟨c2,hc2⟩:∃c2,(s''.heap.update S (Obj.mapSeq fun _=> #[u,.ref t])).get? S=some (seqObj "list" #[u,.ref t] c2):=⟨_,get?_update_seq pS.1 fun _=> #[u,.ref t]⟩;simp only [if_true];refine wpAny_bind ?_;refine wpAny_updateSeq pS.1 rfl (wpAny_bind (wpAny_letGo ?_));rw [hname];have J5:Inv X pins σ H2 {s'' with heap:=s''.heap.update S (Obj.mapSeq fun _=> #[u,.ref t])}:=J4.turned (t':=s''.toks) (fun b o nb e=>(Heap.get?_update_other _ _ (Ne.symm nb)).trans e) Eb.1 Eb.2.1 Eb.2.2.2.1 Eb.2.2.2.2.1 Eb.2.2.2.2.2;exact wpAny_pure ⟨plainId_quiet PySem.F.plain_min_loop _,ih (j+1) (j+1) H2 _ v u t c2 (by omega) hlt J5 (sm.trans s2) Yn Eb hc2 ht ⟨oI',(Heap.get?_update_other _ _ hSI).trans pI.1,hoc,hod⟩ hv Ma (Nat.le_refl _) (hbest.more (by omega) hb')⟩
   | false=>
     simp only [Bool.false_eq_true,if_false];refine wpAny_bind (wpAny_letGo ?_);rw [hname];exact wpAny_pure ⟨plainId_quiet PySem.F.plain_min_loop _,ih (j+1) i H2 _ vb ub kb c (by omega) hlt J4 (sm.trans s2) Yn Eb pS.1 V7 ⟨oI',pI.1,hoc,hod⟩ hvb ZW (by omega) (hbest.less (by omega) hb')⟩
theorem Gf {s:Shared} {Q:Value->Shared->Prop} (kf:Nat->List Int) (hh:X.A.handled=none) (hu:X.A.in1.units<cLine) (J:Inv X pins σ H s) (hl:bh X.K H l xs) (hne:0<xs.length)
 (turn:∀(jE:List (Addr×Obj)) (i:Nat) (v:V) (u:Value) (H1:Hp) (s1:Shared),xs[i]? = some v->Inv X jE σ H1 s1->RelV v u->Same H H1 ->
   wpAny (model X.prog X.w) X.A.in1 (call (.ref q) [u]) (EP X jE σ fun r H2=>∃t,r = .ref t/\H2 t=some (.tup ((kf i).map V.int))/\Same H1 H2) (fun _ _=>False) s1)
 (hQ:∀(i:Nat) (v:V) (u:Value) (H1:Hp) (s1:Shared),xs[i]? = some v->RelV v u->cY kf xs.length i->Inv X pins σ H1 s1->Same H H1->Q u s1):
 wpAny (model X.prog X.w) X.A (call (.builtin "min") [.ref l] [(Str.ofString "key",.ref q)]) Q X.xe s:=by
 have hname:(toString "min" ++ toString ".loop" :String) = "min.loop" :=by decide
 obtain ⟨its,rv,pl,_⟩:=J.list hl;have hlen:its.length=xs.length:=rv.length.symm;have hls:=pl.isList;obtain ⟨ol,hol,_⟩:=id hls;have hll:l<s.heap.objs.size:=Heap.lt_size hol;refine kmk_tree PySem.F.kind_min PySem.F.plain_min PySem.F.entry_min (kmk_min_key _ _) ?_;show wpAny _ X.A.in1 (Builtin.Builtins.bindParams "min" ["key","default"] 0 ⟨[],[(Str.ofString "key",.ref q)]⟩ >>= _) _ _ s;refine wpAny_bind (wpAny_of_eq (show Builtin.Builtins.bindParams "min" ["key","default"] 0 ⟨[],[(Str.ofString "key",.ref q)]⟩=pure [some (.ref q),none] from rfl) ?_);refine wpAny_bind (wpAny_pure ?_);refine wpAny_bind (wpAny_pyIter_list hls ?_);refine wpAny_bind (wpAny_newList ?_ (Nat.zero_le _));rw [hname];have hS:(s.heap.push {cls:= .type "list_iterator",data:= .fields #[.ref l,.int 0 0]}).objs.size=s.heap.objs.size+1:=size_push' ..;have hlI:l≠s.heap.objs.size:=Nat.ne_of_lt hll;have hSI:(s.heap.push {cls:= .type "list_iterator",data:= .fields #[.ref l,.int 0 0]}).objs.size≠s.heap.objs.size:=by rw [hS];exact Nat.ne_of_gt (Nat.lt_succ_self _)
 refine wpAny_pure ⟨plainId_quiet PySem.F.plain_min_loop _, ?_⟩;have fI:fO X pins H s.heap.objs.size:=J.nY (Nat.le_refl _) (J.hok.fresh (Nat.le_refl _));have fS:fO X pins H (s.heap.push {cls:= .type "list_iterator",data:= .fields #[.ref l,.int 0 0]}).objs.size:=J.nY (by rw [hS];exact Nat.le_succ _) (J.hok.fresh (by rw [hS];exact Nat.le_succ _))
 have gI:((s.heap.push {cls:= .type "list_iterator",data:= .fields #[.ref l,.int 0 0]}).push (seqObj "list" #[] 0)).get? s.heap.objs.size=some {cls:= .type "list_iterator",data:= .fields #[.ref l,.int 0 0]}:=
  Heap.get?_push_of_some _ (Heap.get?_push_size _ rfl)
 have gS:((s.heap.push {cls:= .type "list_iterator",data:= .fields #[.ref l,.int 0 0]}).push (seqObj "list" #[] 0)).get? (s.heap.push {cls:= .type "list_iterator",data:= .fields #[.ref l,.int 0 0]}).objs.size=some (seqObj "list" #[] 0):=Heap.get?_push_size _ rfl;have J0:Inv X pins σ H {s with heap:=(s.heap.push {cls:= .type "list_iterator",data:= .fields #[.ref l,.int 0 0]}).push (seqObj "list" #[] 0)}:=J.kept (t':=s.toks) fun b u e=>Heap.get?_push_of_some _ (Heap.get?_push_of_some _ e);obtain ⟨JM,rv0,pl0,_⟩:=J0.list hl;have V6:JM.length=xs.length:=rv0.length.symm;have W:=Walks.list (prog:=X.prog) (w:=X.w) (A:=X.A.in1) hh s.heap.objs.size l hlI JM.toArray;have hsz:JM.toArray.size=JM.length:=List.size_toArray ..;refine codeAny_builtin PySem.F.entry_min_loop ?_;rw [Around.under_plainId PySem.F.plain_min_loop _];show wpAny _ X.A.in1 (seqItems? (.ref _) >>= _) _ _ _;refine wpAny_bind (wpAny_seqItems gS rfl ?_);show wpAny _ X.A.in1 (tryCatch (pyNext (.ref s.heap.objs.size)) _ >>= _) _ _ _;refine wpAny_bind (wpAny_tryCatch (W.item 0 _ _ _ (by rw [hsz,V6];exact hne) ⟨⟨_,gI,rfl,rfl⟩,pl0.isList⟩ fun u h' tk' hP hst' hk'=> ?_));have hu':JM[0]? = some u:=by simpa using hP
 obtain ⟨v,hv,Ma⟩:∃v,xs[0]? = some v/\RelV v u:=by
  obtain ⟨u',e1,e2⟩:=rv0.get (i:=0) (x:=xs[0]'hne) (by simp [hne]);rw [hu'] at e1;cases e1;exact ⟨_,by simp [hne],e2⟩
 obtain ⟨oI',hoI',hoc,hod⟩:=id hst'.1;have J1:Inv X pins σ H {s with heap:=h',toks:=tk'}:=J0.turned (fun b o nb e=>hk' b o (by simpa using nb) e) fI.1 fI.2.1 fI.2.2.2.1 fI.2.2.2.2.1 fI.2.2.2.2.2;have Wc:=hk' _ _ (by simpa using hSI) gS;generalize (s.heap.push {cls:= .type "list_iterator",data:= .fields #[.ref l,.int 0 0]}).objs.size=S at *;generalize s.heap.objs.size=I at *
 have J2:Inv X (pins++[(I,oI'),(S,seqObj "list" #[] 0)]) σ H {s with heap:=h',toks:=tk'}:=J1.qR fun p hp=>by
  rcases List.mem_append.mp hp with hp|hp
  ·exact J1.pin p (List.mem_append_right _ hp)
  ·rcases List.mem_cons.mp hp with rfl|hp
   ·exact ⟨hoI',fI.1,fI.2.1,fI.2.2.1,fun v z=>by rw [hod] at z;cases z⟩
   ·rw [List.mem_singleton.mp hp]
    exact ⟨Wc,fS.1,fS.2.1,fS.2.2.1,fun v z=>by cases z⟩
 show wpAny _ X.A.in1 (tryCatch (holding [u] (call (.ref q) [u])) _ >>= _) _ _ _;refine wpAny_bind (wpAny_tryCatch (wpAny_holding (wpAny_mono (turn _ 0 v u H _ hv J2 Ma (Same.refl _)) (fun x s'' he=> ?_) fun _ _ hF=>hF.elim)));obtain ⟨rr,H2,J3,rx,t,rfl,ht,s2⟩:=he;obtain rfl:x=Value.ref t:=rx;have pI:=J3.pin (I,oI') (List.mem_append_right _ (List.mem_append_right _ (.head _)));have pS:=J3.pin (S,seqObj "list" #[] 0) (List.mem_append_right _ (List.mem_append_right _ (.tail _ (.head _))));have J4:Inv X pins σ H2 s'':=J3.iU;have Yn:fO X pins H2 I:=fI.of pI.2.1;have Eb:fO X pins H2 S:=fS.of pS.2.1;obtain ⟨c2,hc2⟩:∃c2,(s''.heap.update S (Obj.mapSeq fun _=> #[u,.ref t])).get? S=some (seqObj "list" #[u,.ref t] c2):=⟨_,get?_update_seq pS.1 fun _=> #[u,.ref t]⟩;show wpAny _ X.A.in1 (updateSeq S (fun _=> #[u,.ref t]) >>= _) _ _ _;refine wpAny_bind ?_;refine wpAny_updateSeq pS.1 rfl ?_;rw [hname];have J5:Inv X pins σ H2 {s'' with heap:=s''.heap.update S (Obj.mapSeq fun _=> #[u,.ref t])}:=J4.turned (t':=s''.toks) (fun b o nb e=>(Heap.get?_update_other _ _ (Ne.symm nb)).trans e) Eb.1 Eb.2.1 Eb.2.2.2.1 Eb.2.2.2.2.1 Eb.2.2.2.2.2;exact wpAny_pure ⟨plainId_quiet PySem.F.plain_min_loop _,Ge (R:=fun r s'=>match r with | .ok (.ret v)=>Q v s' | .ok _=>False | .error e=>X.xe e s') kf hh hu hl hlI hSI turn hQ _ 0 0 H2 _ v u t c2 rfl hne J5 s2 Yn Eb hc2 ht ⟨oI',(Heap.get?_update_other _ _ hSI).trans pI.1,hoc,hod⟩ hv Ma (Nat.le_refl _) cY.one⟩
end
def Uj (K:PySem.W.Frag) (qual:Str) (params:Arguments) (body:Expr) (scope:Scope) (pm:Value) (sp:List V->Hp->VK->Prop) (ta:TA) (tk:TE):TE:=fun σ H Q=>ta σ H fun vs H1=>tk σ H1 fun kv H2=>∃(l q:Addr) (xs:List V) (kf:Nat->List Int),vs=[.ref l]/\kv = .ref q/\Cv H2 q qual params body scope pm/\bh K H2 l xs/\0<xs.length /\
 (∀(i:Nat) (v:V) (H3:Hp),xs[i]? = some v->Same H2 H3->sp [v] H3 fun r H4=>∃t,r = .ref t/\H4 t=some (.tup ((kf i).map V.int))/\Same H3 H4) /\
 ∀(i:Nat) (v:V) (H3:Hp),xs[i]? = some v->cY kf xs.length i->Same H2 H3->Q v H3
section
variable {X:Cx} {a:Expr} {ta:TA} {tk:TE} {p pos kp Vr:Pos} {k:Nat} {N ps:List Str} {qual:Str} {params:Arguments} {body:Expr} {scope:Scope} {sp:List V->Hp->VK->Prop} {pm:Value}
theorem Mv (L:Ep X.prog X.w X.K X.mg X.base k N ps qual params body scope sp) (hr:eZ (k+2) X.A) (hg:Gl X "min") (hm:X.mg "min" = none) (hv:bootBuiltins "min" = some (.builtin "min")) (ha:PA X [a] ta) (hd:PE X (.Lambda params body scope Vr) tk)
 (he:backTo pos (starEach [a] X.env)=(false,eval a X.env)::backTo pos (starEach [] X.env):=by rfl)
 (hplain:(backTo pos (starEach [a] X.env)).any (·.1)=false:=by rfl):
 PE X (.Call (.Name "min" p) [a] [⟨some "key",.Lambda params body scope Vr,kp⟩] pos) (Uj X.K qual params body scope pm sp ta tk):=by
 intro pins s σ H Q I h;refine wpAny_Call_Name_kw (m6 I hg hm hv ?_ (by decide) (by decide));refine PyProof.Rows.callWith_kw (cM (ha pos pins s σ H _ I h) fun us s1 ⟨vs,H1,I1,r1,q1⟩=> ?_) he hplain;refine PyProof.Rows.kws_cons (cM (hd pins s1 σ H1 _ I1 q1) fun dv s2 ⟨x,H2,I2,r2,q2⟩=>PyProof.Rows.kws_nil ?_);obtain ⟨l,q,xs,kf,rfl,rfl,F,hq,hne,hsp,qq⟩:=q2;obtain ⟨u,rfl,rx⟩:=vals1 r1;cases rx;cases r2;show wpAny (model X.prog X.w) X.A (call (.builtin "min") [.ref l] [(Str.ofString "key",Value.ref q)]) _ _ s2;refine Gf kf hr.hd (eZ.Qe (eZ.in1 hr)) I2 hq hne (fun jE i v u H3 s3 e J Ma sm=> ?_) fun i v u H3 s3 e Ma fm J sm=>⟨v,H3,J,Ma,qq i v H3 e fm sm⟩;exact M_ L hr J (F.same sm) (.cons Ma .nil) (hsp i v H3 e sm)
end
end L2
set_option Elab.async false
set_option linter.all false
set_option maxRecDepth 100000
set_option maxHeartbeats 1000000
namespace L2
open PySem PySem.Spec PyProof.Rows PySem.W
structure GK (K:PySem.W.Frag) (x qual:Str) (st:Stmt) (p:Addr) (f:Addr) (fd:FuncData):Prop where
 ex:∃(oc:Value) (od:Option Addr) (kV doc pm:Value) (an:Option Addr) (c:Addr) (ct:Value) (osl:Array (Option Value)),
  fd=PySem.W.fnOf x qual (aG st) (aF st) (ao st) .none kV doc pm an (.ref c) ct/\K.lookup f=some ⟨oc,od,.func fd,osl⟩/\PySem.W.codeIn K (.ref c) qual=true/\codeHdIn K c p=true
 kp:PySem.W.keepIn K (.ref f)=true
section
variable {P:Program} {w:World} {K:PySem.W.Frag} {mg:Str->Option Value} {base:Heap}
theorem GK.fun {x qual:Str} {st:Stmt} {p f:Addr} {fd:FuncData} (F:GK K x qual st p f fd):kJ K x qual st f fd:=by
 obtain ⟨oc,od,kV,doc,pm,an,c,ct,osl,e,l,cd,_⟩:=F.ex;exact ⟨⟨oc,od,kV,doc,pm,an,.ref c,ct,osl,e,l,cd⟩,F.kp⟩
theorem GK.ok {x qual:Str} {st:Stmt} {p f:Addr} {fd:FuncData} {N ps:List Str} {k:Nat} {sp:Sp} (F:GK K x qual st p f fd) (S:aX N ps (ao st)) (len:∀vs H Q E,sp vs H Q E->vs.length=ps.length)
 (hbody:∀(c:Addr) (A:Around) (outer:List Env) (s:Shared) (H:Hp) (vs:List V) (Q:VK) (E:XK),codeHdIn K c p=true->eZ k (A.deeper (envOfC qual (ao st) s.heap.objs.size f (.ref c)))->sp vs H Q E ->
   ∃t,Eo (wQ jx P w K mg base N qual (ao st) f (.ref c) A outer s H E).Rf (aF st) t/\t {nx:=fun _ H'=>Q .non H',rt:=Q} (start N vs) H):cX P w K mg base jx (k+1) f fd ps sp:=by
 obtain ⟨oc,od,kV,doc,pm,an,c,ct,osl,rfl,lk,hcd,hh⟩:=F.ex;refine Pq lk hcd S len fun A outer s H vs Q E hr hsp=> ?_;obtain ⟨t,h,q⟩:=hbody c A outer s H vs Q E hh hr hsp;exact ⟨t,h.Rf,q⟩
theorem Nz {x qual:Str} {st:Stmt} {p f c:Addr} {oc:Value} {od an:Option Addr} {osl:Array (Option Value)} {kV doc pm ct:Value} (l:K.lookup f=some ⟨oc,od,.func (PySem.W.fnOf x qual (aG st) (aF st) (ao st) .none kV doc pm an (.ref c) ct),osl⟩)
 (cd:PySem.W.codeIn K (.ref c) qual=true) (k:PySem.W.keepIn K (.ref f)=true) (h:codeHdIn K c p=true):GK K x qual st p f (PySem.W.fnOf x qual (aG st) (aF st) (ao st) .none kV doc pm an (.ref c) ct):=⟨⟨oc,od,kV,doc,pm,an,c,ct,osl,rfl,l,cd,h⟩,k⟩
end
def La (p:Addr) (H:Hp):Prop:=∀b,H b=none\/(∃o xs,H b=some (.gM o (.lst xs)))\/(b=p/\H b=some (.kE #[]))
theorem Gi {P:Program} {w:World} {K:PySem.W.Frag} {mg mb:Str->Option Value} {CX:G4} {k:Nat} {fa a p:Addr} {fd:FuncData} {x:Str} {sp:Sp} {s₁:Shared} {vs:List Value} {ns:List Int}
 (KX:K.In s₁.heap) (hns:s₁.heap.Ns mainGlobals mg) (hb:s₁.heap.Ns builtinsNs mb) (hbb:∀x:Str,x ≠ "__name__" -> mb x=bootBuiltins x) (hlim:s₁.heap.NoLimit) (hbm:Bm mg s₁.heap) (hg:s₁.gens = #[])
 (hp:s₁.heap.get? p=some (tabObj #[])) (hc:∃c,codeHdIn K c p=true)
 (ha:s₁.heap.get? a=some {cls:= .type "list",data:= .seq vs.toArray}) (hi:IntsAre vs ns) (hl:ns.length<=sizeLine) (hr:eZ k callerA) (hKp:K.lookup p=none)
 (F:∀base:Heap,K.In base->base.Ns mainGlobals mg->Bm mg base->cX P w K mg base CX k fa fd [x] sp) (hbind:∀(s:Shared) (u:Value),BindsTo s fd ⟨[u],[]⟩ [(x,u)])
 (hsp:∀H:Hp,La p H->bh K H a (ns.map V.int)->H p=some (.kE #[])->sp [.ref a] H (fun v _=>v = .bl true) fun _ _ _=>False)
 (R8:∀H e s',CX [] H s₁ (fun _ _ _=>False) e s'->False):
 codeAny (model P w) callerA (.call (.ref fa) ⟨[.ref a],[]⟩) (fun r s'=>r = .ok (.ret (.bool true))/\OldK s₁.heap s'.heap/\s'.os=s₁.os/\AllBare s'.gens) s₁:=by
 have rv:=uO hi;have lenV:=hi.length;have npa:p≠a:=fun z=>by rw [z,ha] at hp;cases hp
 obtain ⟨c,hc⟩:=hc;have CT:isCodeTable s₁.heap p:=((codeHd_of_K KX hc).tab hp).isCodeTable
 have core:∀H:Hp,La p H->bh K H a (ns.map V.int)->H p=some (.kE #[])->lM P w H s₁.heap->(∀b,H b≠none->b=a\/b=p)->(H a≠none->K.lookup a=none) ->
  codeAny (model P w) callerA (.call (.ref fa) ⟨[.ref a],[]⟩) (fun r s'=>r = .ok (.ret (.bool true))/\OldK s₁.heap s'.heap/\s'.os=s₁.os/\AllBare s'.gens) s₁:=by
  intro H hO hS hHp hok hA hK;have mz:∀{b:Addr} {o:Obj},s₁.heap.get? b=some o->H b=none->(m_ s₁.heap H).get? b=some o:=fun e n=>yW e n
  have noO:∀{b:Addr} {o:Obj},s₁.heap.get? b=some o->(∀vs n,o.data ≠ .seq vs n)->(∀vs,o.data ≠ .fields vs)->H b=none:=fun {b o} e d1 d2=>by
   cases q:H b with
   | none=>rfl
   | some u=>
     rcases hA b (by rw [q];simp) with e'|e'
     ·subst e'
      rw [ha] at e;cases e;exact absurd rfl (d1 _ _)
     ·subst e'
      rw [hp] at e;cases e;exact absurd rfl (d2 _)
  have Rh:∀{b:Addr} {o:Obj} {es:Array DictEntry} {ep:Nat},s₁.heap.get? b=some o->o.data = .dict es ep->H b=none:=fun {b o es ep} e d=>noO e (fun _ _ z=>by rw [d] at z;cases z) (fun _ z=>by rw [d] at z;cases z);have MP:∀{b:Addr} {m:Str->Option Value},s₁.heap.Ns b m->(m_ s₁.heap H).Ns b m:=fun {b m} ⟨o,es,ep,e,d,r⟩=>⟨o,es,ep,mz e (Rh e d),d,r⟩
  have Wb:K.In (m_ s₁.heap H):=fun b o e=>mz (KX b o e) (by
   cases q:H b with
   | none=>rfl
   | some u=>
     rcases hA b (by rw [q];simp) with e'|e'
     ·subst e'
      rw [hK (by rw [q];simp)] at e;cases e
     ·subst e'
      rw [hKp] at e;cases e)
  have hM:Mod K mg (m_ s₁.heap H):=⟨Wb,MP hns,⟨mb,MP hb,hbb⟩,let ⟨mc,h1,h2⟩:=hlim;⟨mc,MP h1,h2⟩⟩
  have hBm:Bm mg (m_ s₁.heap H):=by
   obtain ⟨bm,ob,b1,b2,b3,b4,b5,b6⟩:=hbm;exact ⟨bm,ob,b1,b2,mz b3 (noO b3 (fun _ _ z=>by rw [b6] at z;cases z) (fun _ z=>by rw [b6] at z;cases z)),b4,b5,b6⟩
  have e0:xu P w K mg (m_ s₁.heap H) callerA [] s₁ H:=⟨rfl,hM,fun b o e=>Dp e,Nat.le_of_eq (u_ _ _),trivial,fun b hb=>absurd (show b∈([]:List Addr) from hb) (by simp),hok,.of_eq hg⟩;refine codeAny_mono ((F _ Wb (MP hns) hBm).run callerA [] s₁ H ⟨[.ref a],[]⟩ [.ref a] [.ref a] _ _ hr e0 (hbind s₁ (.ref a)) (.cons rfl .nil) (hsp H hO hS hHp)) fun r s' h=> ?_;cases r with
  | error e=>exact (R8 H e s' h).elim
  | ok fl=>
    cases fl with
    | next=>exact False.elim h
    | brk=>exact False.elim h
    | cont=>exact False.elim h
    | ret u=>
      obtain ⟨v,H',os,bare,un,hok',r',q⟩:=h;have q':v = .bl true:=q;subst q';obtain rfl:u=Value.bool true:=r'
      have each:∀b o,s₁.heap.get? b=some o->s'.heap.get? b=some o\/(b=p /\ ∃more,s'.heap.get? b=some (tabObj (#[]++more))):=fun b o e=>by
       cases q:H b with
       | none=>exact .inl (un.keep b o e q (by intro z;exact absurd (show b∈([]:List Addr) from z) (by simp)) (by simp))
       | some u=>
         rcases hO b with z|⟨ob,xs,z⟩|⟨z1,z⟩
         ·rw [q] at z;cases z
         ·have z2:=un.ni b ob _ z
          obtain ⟨e1,_⟩:=hok b _ z;obtain ⟨e2,_⟩:=hok' b _ z2;rw [e] at e1;cases e1;exact .inl e2
         ·obtain ⟨more,z2⟩:=un.qt b _ z
          exact .inr ⟨z1,more,hok' b _ z2⟩
      refine ⟨rfl,⟨fun b o e=> ?_,fun b o e=> ?_⟩,os,bare⟩
      ·rcases each b o e with z|⟨rfl,more,z⟩
       ·exact .inl z
       ·rw [hp] at e
        cases e;exact .inr (.inl ⟨CT,rfl, #[],more,rfl,z⟩)
      ·rcases each b o e with z|⟨rfl,more,z⟩
       ·exact ⟨_,z⟩
       ·exact ⟨_,z⟩
 cases hk:K.lookup a with
 | some o=>
   have e:=KX a o hk;rw [ha] at e;cases e;refine core (fun b=>if b=p then some (.kE #[]) else none) (fun b=> ?_) (.inr ⟨_,vs.toArray,_,hk,rfl,rfl,rfl,by rw [List.size_toArray,lenV];exact hl,by simpa using rv⟩) (if_pos rfl) (fun b u z=> ?_) (fun b z=> ?_) fun z=>absurd (if_neg (Ne.symm npa)) z
   ·by_cases hb:b=p
    ·exact .inr (.inr ⟨hb,if_pos hb⟩)
    ·exact .inl (if_neg hb)
   ·by_cases hb:b=p
    ·have z':=(if_pos hb).symm.trans z
     cases z';subst hb;exact hp
    ·have z':=(if_neg hb).symm.trans z
     cases z'
   ·by_cases hb:b=p
    ·exact .inr hb
    ·exact absurd (if_neg hb) z
 | none=>
   refine core (fun b=>if b=p then some (.kE #[]) else if b=a then some (.gM {cls:= .type "list",data:= .seq vs.toArray} (.lst (ns.map V.int))) else none) (fun b=> ?_) (.inl (.inr ⟨{cls:= .type "list",data:= .seq vs.toArray},(if_neg (Ne.symm npa)).trans (if_pos rfl)⟩)) (if_pos rfl) (fun b u z=> ?_) (fun b z=> ?_) fun _=>hk
   ·by_cases hb:b=p
    ·exact .inr (.inr ⟨hb,if_pos hb⟩)
    ·by_cases hb2:b=a
     ·exact .inr (.inl ⟨_,_,(if_neg hb).trans (if_pos hb2)⟩)
     ·exact .inl ((if_neg hb).trans (if_neg hb2))
   ·by_cases hb:b=p
    ·have z':=(if_pos hb).symm.trans z
     cases z';subst hb;exact hp
    ·have z:=(if_neg hb).symm.trans z
     by_cases hb2:b=a
     ·have z':=(if_pos hb2).symm.trans z
      cases z';subst hb2;exact ⟨ha,by rw [List.length_map];exact hl,vs,_,rv,ha⟩
     ·have z':=(if_neg hb2).symm.trans z
      cases z'
   ·by_cases hb:b=p
    ·exact .inr hb
    ·by_cases hb2:b=a
     ·exact .inl hb2
     ·exact absurd ((if_neg hb).trans (if_neg hb2)) z
theorem Hq {l:PySem.W.OpenLaw} {n k:Nat} {q:Program} {loose:List Str} {XP:(Str->Option Value)->Heap->Prop} {YP:World->Heap->Prop} {d:DefRec} {K:Params->PySem.W.Frag} {CX:World->G4} {sp:World->Sp} {x:Str} {p:Addr}
 (hn:l.most=some n) (hn2:n<=sizeLine) (hdf:d.params.defaults=[]) (hr:eZ k callerA)
 (hY:∀(w:World) (h:Heap),YP w h->(K w.params).In h) (hT:∀(w:World) (h:Heap),YP w h->h.get? p=some (tabObj #[]))
 (F:∀(w:World) (mg:Str->Option Value) (fa:Addr) (h:Heap),(K w.params).In h->h.Ns mainGlobals mg->mg d.name=some (.ref fa) ->
   ((K w.params).lookup p=none /\ ∃c,codeHdIn (K w.params) c p=true) /\ ∃fd:FuncData,(∀(s:Shared) (u:Value),BindsTo s fd ⟨[u],[]⟩ [(x,u)]) /\
     ∀base:Heap,(K w.params).In base->base.Ns mainGlobals mg->Bm mg base->cX l.prog w (K w.params) mg base (CX w) k fa fd [x] (sp w))
 (hsp:∀(w:World) (H:Hp) (a:Addr) (ns:List Int),ns.length<=n->La p H->bh (K w.params) H a (ns.map V.int)->H p=some (.kE #[])->sp w [.ref a] H (fun v _=>v = .bl true) fun _ _ _=>False)
 (R8:∀(w:World) (H:Hp) (s:Shared) (e:Value) (s':Shared),CX w [] H s (fun _ _ _=>False) e s'->False):
 PySem.W.WalkO q loose XP YP l.row.toRowW d [] (fun f vs=>PySem.call f vs):=by
 refine Att.qj hn hdf fun w s₀ s₁ mg mb fa o pm cd doc a vs ns G Y ho hd hcd hmg hobj hints hlen hg=> ?_;have KX:=hY w _ Y;obtain ⟨⟨kp,hc⟩,fd,hb,hF⟩:=F w mg fa _ KX G.T.g hmg;exact Gi KX G.T.g G.T.b G.T.builtins G.T.nolimit G.T.bmain hg (hT w _ Y) hc hobj hints (Nat.le_trans hlen hn2) hr kp hF hb (fun H hO hS hH=>hsp w H a ns hlen hO hS hH) fun H e s'=>R8 w H s₁ e s'
end L2
set_option Elab.async false
set_option linter.all false
set_option maxRecDepth 100000
set_option maxHeartbeats 4000000
namespace Prf
open PySem L2
def top (i:Nat):Stmt:=PySem.Challenge.pw_fewnotes_k34_whole_strict_notes_are_enou.main.body.getD i (.Pass ⟨0,0,0,0⟩)
abbrev dI:Stmt:=top 4
abbrev iD:Stmt:=top 6
abbrev bQ:Stmt:=top 7
abbrev eN:Stmt:=top 8
abbrev iC:Stmt:=top 10
abbrev fQ:Stmt:=top 11
abbrev eO:Stmt:=top 12
abbrev cV:Stmt:=top 13
abbrev bT:Stmt:=top 14
abbrev cT:Stmt:=top 15
abbrev dG:Stmt:=top 16
abbrev cF:Stmt:=top 17
abbrev dF:Stmt:=top 18
abbrev cU:Stmt:=top 19
abbrev dJ:Stmt:=top 20
abbrev iH:Stmt:=top 21
abbrev cD:Stmt:=top 23
abbrev bR:Stmt:=top 24
abbrev cj:Stmt:=top 25
abbrev eG:Stmt:=top 26
abbrev iG:Stmt:=top 27
abbrev dM:Stmt:=top 28
abbrev aY:Stmt:=top 29
abbrev bG:Stmt:=top 30
abbrev dH:Stmt:=top 31
abbrev eU:Stmt:=top 33
abbrev iJ:Stmt:=top 34
abbrev jT:Stmt:=top 35
abbrev eV:Stmt:=top 36
abbrev cu:Stmt:=top 37
abbrev iI:Stmt:=top 38
abbrev lB:Stmt:=top 39
structure uM (mg:Str->Option Value):Prop where
 Oi:mg "ValueError" = none
 PK:mg "abs" = none
 PJ:mg "all" = none
 PB:mg "any" = none
 Tc:mg "bool" = none
 jw:mg "enumerate" = none
 K6:mg "int" = none
 j4:mg "isinstance" = none
 lG:mg "len" = none
 K5:mg "list" = none
 Pz:mg "max" = none
 K4:mg "min" = none
 ju:mg "range" = none
 ug:mg "sorted" = none
 Oh:mg "tuple" = none
theorem yp:aX ["value"] ["value"] (ao dI):=⟨rfl,rfl,rfl,by decide +kernel,rfl,by decide +kernel,by decide +kernel⟩
theorem lu:aX ["web","counts","told","touch","k"] ["web"] (ao iD):=⟨rfl,rfl,rfl,by decide +kernel,rfl,by decide +kernel,by decide +kernel⟩
theorem qu:aX ["one","other"] ["one","other"] (ao bQ):=⟨rfl,rfl,rfl,by decide +kernel,rfl,by decide +kernel,by decide +kernel⟩
theorem Am:aX ["web","place","later"] ["web","place","later"] (ao eN):=⟨rfl,rfl,rfl,by decide +kernel,rfl,by decide +kernel,by decide +kernel⟩
theorem iV:aX ["web","named","knowns","told","place","name","found"] ["web"] (ao iC):=⟨rfl,rfl,rfl,by decide +kernel,rfl,by decide +kernel,by decide +kernel⟩
theorem gq:aX ["web","some","places","named","knowns","later","known","earlier"] ["web","some"] (ao fQ):=⟨rfl,rfl,rfl,by decide +kernel,rfl,by decide +kernel,by decide +kernel⟩
theorem Ao:aX ["value"] ["value"] (ao eO):=⟨rfl,rfl,rfl,by decide +kernel,rfl,by decide +kernel,by decide +kernel⟩
theorem v8:aX ["places","note"] ["places","note"] (ao cV):=⟨rfl,rfl,rfl,by decide +kernel,rfl,by decide +kernel,by decide +kernel⟩
theorem qx:aX ["places","some"] ["places","some"] (ao bT):=⟨rfl,rfl,rfl,by decide +kernel,rfl,by decide +kernel,by decide +kernel⟩
theorem iB:aX ["web","places","place","name"] ["web"] (ao cT):=⟨rfl,rfl,rfl,by decide +kernel,rfl,by decide +kernel,by decide +kernel⟩
theorem yh:aX ["named","bare","name"] ["named","bare","name"] (ao dG):=⟨rfl,rfl,rfl,by decide +kernel,rfl,by decide +kernel,by decide +kernel⟩
theorem gH:aX ["web","named","knowns","place","bare","known","earlier"] ["web","named","knowns","place"] (ao cF):=⟨rfl,rfl,rfl,by decide +kernel,rfl,by decide +kernel,by decide +kernel⟩
theorem pY:aX ["places","some","steps"] ["places","some"] (ao dF):=⟨rfl,rfl,rfl,by decide +kernel,rfl,by decide +kernel,by decide +kernel⟩
theorem cR:aX ["named","steps","sources","step","knowns","place","name","known","source"] ["named","steps"] (ao cU):=⟨rfl,rfl,rfl,by decide +kernel,rfl,by decide +kernel,by decide +kernel⟩
theorem yq:aX ["name","known"] ["name","known"] (ao dJ):=⟨rfl,rfl,rfl,by decide +kernel,rfl,by decide +kernel,by decide +kernel⟩
theorem yj:aX ["known","more","hand"] ["known","more"] (ao iH):=⟨rfl,rfl,rfl,by decide +kernel,rfl,by decide +kernel,by decide +kernel⟩
theorem mK:aX ["web","note","want","places"] ["web","note","want"] (ao cD):=⟨rfl,rfl,rfl,by decide +kernel,rfl,by decide +kernel,by decide +kernel⟩
theorem qw:aX ["web"] ["web"] (ao bR):=⟨rfl,rfl,rfl,by decide +kernel,rfl,by decide +kernel,by decide +kernel⟩
theorem rM:aX ["web"] ["web"] (ao cj):=⟨rfl,rfl,rfl,by decide +kernel,rfl,by decide +kernel,by decide +kernel⟩
theorem Al:aX ["web","places","note"] ["web","places","note"] (ao eG):=⟨rfl,rfl,rfl,by decide +kernel,rfl,by decide +kernel,by decide +kernel⟩
theorem HW:aX ["note","want"] ["note","want"] (ao iG):=⟨rfl,rfl,rfl,by decide +kernel,rfl,by decide +kernel,by decide +kernel⟩
theorem yr:aX ["note"] ["note"] (ao dM):=⟨rfl,rfl,rfl,by decide +kernel,rfl,by decide +kernel,by decide +kernel⟩
theorem bf:aX ["web","places","wants","found","hands","left","want","note"] ["web"] (ao aY):=⟨rfl,rfl,rfl,by decide +kernel,rfl,by decide +kernel,by decide +kernel⟩
theorem cB:aX ["web","named","wants","later","earlier","want"] ["web"] (ao bG):=⟨rfl,rfl,rfl,by decide +kernel,rfl,by decide +kernel,by decide +kernel⟩
theorem pZ:aX ["web","places","want","ahead"] ["web","places","want"] (ao dH):=⟨rfl,rfl,rfl,by decide +kernel,rfl,by decide +kernel,by decide +kernel⟩
theorem gw:aX ["script","figures","stir","cell"] ["script"] (ao eU):=⟨rfl,rfl,rfl,by decide +kernel,rfl,by decide +kernel,by decide +kernel⟩
theorem rN:aX ["spring","many","found","stir"] ["spring","many"] (ao iJ):=⟨rfl,rfl,rfl,by decide +kernel,rfl,by decide +kernel,by decide +kernel⟩
theorem eF:aX ["spring","most","shape","size","hands","first","room","base","kinds","web","at","hand","kind"] ["spring","most"] (ao jT):=⟨rfl,rfl,rfl,by decide +kernel,rfl,by decide +kernel,by decide +kernel⟩
theorem mW:aX ["spring","web","one","other"] ["spring","web"] (ao eV):=⟨rfl,rfl,rfl,by decide +kernel,rfl,by decide +kernel,by decide +kernel⟩
theorem lA:aX ["web","cut","some","many"] ["web","cut","some"] (ao cu):=⟨rfl,rfl,rfl,by decide +kernel,rfl,by decide +kernel,by decide +kernel⟩
theorem HY:aX ["some","hand"] ["some","hand"] (ao iI):=⟨rfl,rfl,rfl,by decide +kernel,rfl,by decide +kernel,by decide +kernel⟩
theorem gn:aX ["script","spring","two","web","handed","told","fewest","cut","at","note","again"] ["script"] (ao lB):=⟨rfl,rfl,rfl,by decide +kernel,rfl,by decide +kernel,by decide +kernel⟩
section
variable {P:Program} {w:World} {K:PySem.W.Frag} {mg:Str->Option Value} {base:Heap}
def bA (H:Hp) (r:Addr):Prop:=∃f t c:Int,H r=some (.lst [.int f,.int t,.int c])/\0<=f/\0<=t/\t<2305843009213693951/\0<=c
theorem bA.keep {H H':Hp} {r:Addr} (h:bA H r) (k:Same H H'):bA H' r:=by
 obtain ⟨f,t,c,e,q⟩:=h;exact ⟨f,t,c,k _ _ e,q⟩
theorem bA.keep' {H H':Hp} {r x:Addr} (h:bA H r) (k:Kp x H H') (n:r≠x):bA H' r:=by
 obtain ⟨f,t,c,e,q⟩:=h;exact ⟨f,t,c,k _ _ e n,q⟩
def lq (K:PySem.W.Frag):Sp:=fun vs H Q _=>∃(r:Addr) (m:Int),vs=[.ref r,.int m]/\bA H r/\0<m/\m<1073741824 /\ ∀(n:Int) (H':Hp),0<=n->n<m->bA H' r->Kp r H H'->Q (.int n) H'
theorem MK {f:Addr} {fd:FuncData} (F:kJ K "_law_draw" "_law_draw" iJ f fd):cX P w K mg base jx 1 f fd ["spring","many"] (lq K):=by
 refine F.ok rN (fun vs H Q E h=> ?_) (fun cdv A outer s H vs Q E hr h=> ?_)
 ·obtain ⟨r,m,rfl,_⟩:=h
  rfl
 ·obtain ⟨r,m,rfl,⟨f,t,c,hs,hf,ht,xM,hc⟩,m0,m1,k⟩:=h
  refine ⟨_,(aB (fU (bZ I_ (aK (aP (K:=K) rfl) (pv 0) aA (fun _ _=>rfl)) aA (bC _)) (aB (aO (i:=2) rN.nd rfl (Or.inl rfl) (bx g8 (aK (aP (K:=K) rfl) (pv 0) aA (fun _ _=>rfl)) (pv 1)))
   (aB (Ar (bx Dm (aK (aP (K:=K) rfl) (pv 0) aA (fun _ _=>rfl)) (pv 1)) (Ax (pv 0) aA set_list))
   (aH (aZ (pv 2))))) cG)
   (aB (Ar (bx dj (aK (aP (K:=K) rfl) (pv 0) aA (fun _ _=>rfl)) aA) (Ax (pv 0) aA set_list))
   (aB (aO (i:=3) rN.nd rfl (Or.inl rfl) (bx g8 (bx o_ (aK (aP (K:=K) rfl) (pv 0) aA (fun _ _=>rfl)) (aK (aP (K:=K) rfl) (pv 0) aA (fun _ _=>rfl))) aA))
   (aB (Ar (bx g8 (bx dj (bx dj (pv 3) (bx o_ (bx o_ aA (aK (aP (K:=K) rfl) (pv 0) aA (fun _ _=>rfl))) (aK (aP (K:=K) rfl) (pv 0) aA (fun _ _=>rfl)))) aA) aA) (Ax (pv 0) aA set_list))
   (aH (aZ (bx g8 (bx Dm (aK (aP (K:=K) rfl) (pv 0) aA (fun _ _=>rfl)) aA) (pv 1)))))))), ?_⟩
  refine ⟨_,rfl,_,_,_,_,rfl,rfl,bh.of hs,rfl,_,_,rfl,rfl,_,rfl, ?_⟩;refine JN (fun h0=> ?_) (fun h0=> ?_)
  ·
   refine ⟨_,rfl,_,_,_,_,rfl,rfl,bh.of hs,rfl,_,rfl,_,_,rfl,rfl,m0, ?_⟩;refine ⟨_,rfl,_,_,_,_,rfl,rfl,bh.of hs,rfl,_,rfl,_,_,rfl,rfl,⟨m0,m1⟩,_,rfl,_,_,_,_,rfl,rfl,hs,rfl, ?_⟩;refine ⟨_,rfl, ?_⟩;exact k _ _ (Int.emod_nonneg _ (by omega)) (Int.emod_lt_of_pos _ m0) ⟨_,_,_,ak,Int.ediv_nonneg hf (by omega),ht,xM,hc⟩ Kp.set
  ·
   refine ⟨_,rfl,_,_,_,_,rfl,rfl,bh.of hs,rfl,_,_,rfl,rfl,_,rfl,_,_,_,_,rfl,rfl,hs,rfl, ?_⟩;refine ⟨_,rfl,_,_,_,_,rfl,rfl,bh.of ak,rfl,_,rfl,_,_,_,_,rfl,rfl,bh.of ak,rfl,_,_,rfl,rfl,.inl ⟨by omega,by omega⟩,_,_,rfl,rfl,(by show (0:Int)<2305843009213693951;decide), ?_⟩
   refine ⟨_,rfl,_,rfl,_,_,_,_,rfl,rfl,bh.of ak,rfl,_,_,rfl,rfl,.inl ⟨by decide,by decide⟩,_,rfl,_,_,_,_,rfl,rfl,bh.of ak,rfl,_,_,rfl,rfl,.inr ⟨by omega,by omega⟩,_,_,rfl,rfl,_,_,rfl,rfl,_,_,rfl,rfl,(by show (0:Int)<2305843009213693951;decide),
    _,rfl,_,_,_,_,rfl,rfl,ak,rfl, ?_⟩
   refine ⟨_,rfl,_,_,_,_,rfl,rfl,bh.of ak,rfl,_,_,rfl,rfl,(by show Xp _ 65537;exact ⟨by decide,by decide⟩),_,rfl,_,_,rfl,rfl,m0, ?_⟩;refine k _ _ (Int.emod_nonneg _ (by omega)) (Int.emod_lt_of_pos _ m0) ⟨_,_,_,ak,hf,Int.emod_nonneg _ (by decide),Int.emod_lt_of_pos _ (by decide), ?_⟩ ?_
   ·show 0<=c+1
    omega
   ·rw [vO]
    exact Kp.set
def rF (K:PySem.W.Frag):Sp:=fun vs H Q _=>∃(a:Addr) (ns:List Int),vs=[.ref a]/\bh K H a (ns.map V.int)/\ns.length<=63 /\ ∀(r:Addr) (H':Hp),H r=none->bA H' r->Same H H'->Q (.ref r) H'
theorem Cd:Builtin.Int.intBits ((10:Int) ^ ((60:Int).toNat))<=200:=PySem.intBits_le_iff.mpr (by decide)
theorem FN {f:Addr} {fd:FuncData} (F:kJ K "_law_spring" "_law_spring" eU f fd) (Bt:uM mg):cX P w K mg base jx 1 f fd ["script"] (rF K):=by
 refine F.ok gw (fun vs H Q E h=> ?_) (fun cdv A outer s H vs Q E hr h=> ?_)
 ·obtain ⟨a,ns,rfl,_⟩:=h
  rfl
 ·obtain ⟨a,ns,rfl,hs,hlen,k⟩:=h
  refine ⟨_,(aB (aO (i:=1) gw.nd rfl (Or.inl rfl) aA)
   (aB (aO (i:=2) gw.nd rfl (Or.inl rfl) aA)
   (aB (d8 PassesOwn.never rfl (bU (K:=K) rfl (b_ (gO (K:=K) rfl) (pv 0) cW (cH aA))) (aV (i:=3) gw.nd rfl (Or.inl rfl))
   (aB (fU (bZ Ja (bw zG (by rfl) Bt.PK KH (aj (pv 3) aq)) (bx A_ aA aA) (bC _)) (aH (aO (i:=1) gw.nd rfl (Or.inl rfl) (bx dj (bx Mx (pv 1) (bx A_ aA aA)) (bx g8 (bw zG (by rfl) Bt.PK KH (aj (pv 3) aq)) (bx A_ aA aA))))) cG)
   (aH (aO (i:=2) gw.nd rfl (Or.inl rfl) (bx g8 (bx dj (bx dj (bx o_ (pv 2) aA) (bx g8 (pv 3) aA)) aA) aA)))))
   (aH (aZ (fu (aj (pv 1) (aj (pv 2) (aj aA aq))))))))), ?_⟩
  refine ⟨_,rfl,_,rfl,_,_,rfl,hs,fun p hp=> ?_⟩
  have acM:fD (ns.map V.int) none (some 63)=ns.map V.int:=by
   unfold fD;rw [HT.rO,show (some (63:Int))=some ((63:Nat):Int) from rfl,HT.v9,List.length_map,List.drop_zero,Nat.min_eq_right hlen,Nat.sub_zero,List.take_of_length_le (by simp)]
  rw [acM]
  refine ⟨p,rfl,⟨_,bh.of ak⟩,jH (K:=K) (a:=p) (xs:=ns.map V.int) (fun i σ H2=>∃(f t:Int) (v:Option V),σ=[some (.ref a),some (.int f),some (.int t),v]/\H2=upd H p (.lst (ns.map V.int))/\0<=f/\Builtin.Int.intBits f<=201*i/\0<=t/\t<2305843009213693951)
   ⟨0,88651,none,rfl,rfl,by decide,by decide,by decide,by decide⟩ (fun i σ H2 _ ⟨_,_,_,_,e,_⟩=>by rw [e];exact bh.of ak) ?_ ?_⟩
  ·rintro i y σ H2 hi ⟨f,t,v,rfl,rfl,hf,hb,ht,xM⟩
   have hil:i<ns.length:=by have:=(List.getElem?_eq_some_iff.mp hi).1;rwa [List.length_map] at this
   obtain ⟨z,rfl⟩:∃z,y=V.int z:=by
    rw [List.getElem?_map] at hi;cases e:ns[i]? with
    | none=>rw [e] at hi;cases hi
    | some z=>rw [e] at hi;exact ⟨z,(Option.some.inj hi).symm⟩
   refine ⟨_,rfl,_,rfl,_,_,rfl,rfl,(by show Tr 10 18;exact ⟨by decide,by decide,by decide⟩),_,_,rfl,rfl,_,rfl, ?_⟩;have hcp:Tr 10 60:=⟨by decide,by decide,by decide⟩;refine JN (fun _=> ?_) (fun _=> ?_)
   ·have hmul:IntMulOk f ((10:Int) ^ ((60:Int).toNat)):=IntMulOk.of_le hb Cd (by omega)
    have hpos:(0:Int)<(10:Int) ^ ((60:Int).toNat):=by decide
    have habs:(0:Int)<=(if z<0 then -z else z) % ((10:Int) ^ ((60:Int).toNat)):=Int.emod_nonneg _ (Int.ne_of_gt hpos)
    have Wa:Builtin.Int.intBits ((if z<0 then -z else z) % ((10:Int) ^ ((60:Int).toNat)))<=200:=
     PySem.intBits_le_of_natAbs (y:=(10:Int) ^ ((60:Int).toNat)) (by have:=Int.emod_lt_of_pos (if z<0 then -z else z) hpos;omega) Cd
    refine ⟨_,rfl,_,_,rfl,rfl,hcp,_,_,rfl,rfl,hmul,_,rfl,_,rfl,_,_,rfl,rfl,hcp,_,_,rfl,rfl,hpos,_,_,rfl,rfl, ?_⟩;refine ⟨_,rfl,_,_,rfl,rfl,.inr ⟨by decide,by decide⟩,_,rfl,_,_,rfl,rfl,(by show (0:Int)<2305843009213693921;decide),_,_,rfl,rfl,_,_,rfl,rfl,_,_,rfl,rfl,(by show (0:Int)<2305843009213693951;decide), ?_⟩;refine ⟨_,_,_,rfl,rfl,Int.add_nonneg (Int.mul_nonneg hf (Int.le_of_lt hpos)) habs, ?_,Int.emod_nonneg _ (by decide),Int.emod_lt_of_pos _ (by decide)⟩;have q:=PySem.intBits_add_le (PySem.intBits_mul_le hb Cd) Wa;have:max (201*i+200) 200+1=201*(i+1):=by omega
    rw [this] at q;exact q
   ·refine ⟨_,rfl,_,_,rfl,rfl,.inr ⟨by decide,by decide⟩,_,rfl,_,_,rfl,rfl,(by show (0:Int)<2305843009213693921;decide),_,_,rfl,rfl,_,_,rfl,rfl,_,_,rfl,rfl,(by show (0:Int)<2305843009213693951;decide), ?_⟩
    exact ⟨_,_,_,rfl,rfl,hf,by omega,Int.emod_nonneg _ (by decide),Int.emod_lt_of_pos _ (by decide)⟩
  ·rintro σ H2 ⟨f,t,v,rfl,rfl,hf,hb,ht,xM⟩
   refine ⟨_,rfl,_,rfl,(by show 3<=sizeLine;decide),fun r hr'=> ?_⟩;exact k r _ ((aC hp).free hr') ⟨f,t,0,ak,hf,ht,xM,by decide⟩ ((aC hp).trans (aC hr'))
abbrev aW:=Int×Str×Int
def tD (x:aW):PyData:= .tuple [.int x.1,.str x.2.1,.int x.2.2]
theorem lD (x:aW):Bu (tD x)=true:=rfl
def lK (x:aW):Prop:=(0<=x.1/\x.1<8)/\(x.2.1 = "load" \/ x.2.1 = "store" \/ x.2.1 = "swap")/\(0<=x.2.2/\x.2.2<20)
theorem Eh {H:Hp} {t:Addr} {x:aW} (h:H t=some (.tup [.int x.1,.str x.2.1,.int x.2.2])):Dat H (.ref t) (tD x):=by
 simp only [tD,Dat];exact ⟨t,_,rfl,h,by simp only [aD,Dat,and_self]⟩
theorem zy {H:Hp} {v:V} {d:PyData} (h:Dat H v d):aD H [v] [d]:=by
 simp only [aD,and_true];exact h
def bY (H:Hp) (a:Addr) (ws:List aW):Prop:=∃vs,H a=some (.lst vs)/\aD H vs (ws.map tD)
theorem bY.same {H H':Hp} {a:Addr} {ws:List aW} (h:bY H a ws) (k:Same H H'):bY H' a ws:=by
 obtain ⟨vs,e,d⟩:=h;exact ⟨vs,k _ _ e,aD.keep k.tups _ (aQ _ lD ws) d⟩
theorem bY.kp {H H':Hp} {a r:Addr} {ws:List aW} {ys:List V} (h:bY H a ws) (hr:H r=some (.lst ys)) (k:Kp r H H') (n:a≠r):bY H' a ws:=by
 obtain ⟨vs,e,d⟩:=h;exact ⟨vs,k _ _ e n,aD.keep (k.tups hr) _ (aQ _ lD ws) d⟩
theorem bY.vX {H H':Hp} {a r:Addr} {ws:List aW} (h:bY H a ws) (hr:bA H r) (k:Kp r H H') (n:a≠r):bY H' a ws:=by
 obtain ⟨f,t,c,e,_⟩:=hr;exact h.kp e k n
def HD (K:PySem.W.Frag):Sp:=fun vs H Q _=>∃(r:Addr) (most:Int),vs=[.ref r,.int most]/\bA H r/\0<=most/\most<=300 /\
 ∀(a:Addr) (ws:List aW) (H':Hp),H a=none->bY H' a ws->(∀x∈ws,lK x)->ws.length<=300->bA H' r->Kp r H H'->Q (.ref a) H'
theorem Vk (most:Int) (h0:0<=most) (h1:most<=300) (b1 b2:Bool):∃v:Int,GD [V.int 31,V.int 101,V.int (most+1)] ((if b1 then 1 else 0)+(if b2 then 1 else 0))=some (V.int v)/\0<v/\v<=301:=by
 cases b1<;>cases b2
 ·exact ⟨31,rfl,by decide,by decide⟩
 ·exact ⟨101,rfl,by decide,by decide⟩
 ·exact ⟨101,rfl,by decide,by decide⟩
 ·exact ⟨most+1,rfl,by omega,by omega⟩
theorem Vj (n:Int) (h0:0<=n) (h1:n<5):∃v:Int,GD [V.int 1,V.int 2,V.int 3,V.int 5,V.int 20] n=some (V.int v)/\0<v/\v<=20:=by
 have:n=0\/n=1\/n=2\/n=3\/n=4:=by omega
 rcases this with rfl|rfl|rfl|rfl|rfl
 ·exact ⟨1,rfl,by decide,by decide⟩
 ·exact ⟨2,rfl,by decide,by decide⟩
 ·exact ⟨3,rfl,by decide,by decide⟩
 ·exact ⟨5,rfl,by decide,by decide⟩
 ·exact ⟨20,rfl,by decide,by decide⟩
def KindsOk (ks:List Str):Prop:=0<ks.length/\ks.length<=6 /\ ∀k∈ks,k = "load" \/ k = "store" \/ k = "swap"
theorem Oj {α:Type} {xs:List α} {n:Int} (h0:0<=n) (h1:n<xs.length):∃v,GD xs n=some v/\xs[n.toNat]? = some v:=by
 obtain ⟨m,rfl⟩:=Int.eq_ofNat_of_zero_le h0;have:m<xs.length:=by omega
 exact ⟨xs[m],dO (by simp [this]),by simp [this]⟩
def wSt (a0:Addr) (a1:Int) (a2:Int) (a3:Int) (a4:Int) (a5:Int) (a6:Int) (a7:Int) (a8:Addr) (x9:Option V) (x10:Option V) (x11:Option V) (x12:Option V):St:=[some (.ref a0),some (.int a1),some (.int a2),some (.int a3),some (.int a4),some (.int a5),some (.int a6),some (.int a7),some (.ref a8),x9,x10,x11,x12]
theorem Q9 {f:Addr} {fd:FuncData} (F:kJ K "_law_web" "_law_web" jT f fd) (cQ:FnAt P w K mg base 1 "_law_draw" ["spring","many"] (lq K)) (Bt:uM mg):cX P w K mg base jx 2 f fd ["spring","most"] (HD K):=by
 refine F.ok eF (fun vs H Q E h=> ?_) (fun cdv A outer s H vs Q E hr h=> ?_)
 ·obtain ⟨r,m,rfl,_⟩:=h
  rfl
 ·obtain ⟨r,most,rfl,S0,mo0,mo1,k⟩:=h
  refine ⟨_,(aB (aO (i:=2) eF.nd rfl (Or.inl rfl) (aU cQ (hr.mono (by decide)) (by rfl) (aj (pv 0) (aj aA aq))))
   (aB (aO (i:=3) eF.nd rfl (Or.inl rfl) (aU cQ (hr.mono (by decide)) (by rfl) (aj (pv 0) (aj (aK (aP (K:=K) rfl) (fu (aj aA (aj aA (aj (bx dj (pv 1) aA) aq)))) (bx dj (lW vC (by rfl) Bt.K6 Ca (aj (eX j8 (bx g8 (pv 2) aA) aA (bC _)) aq)) (lW vC (by rfl) Bt.K6 Ca (aj (eX j8 (pv 2) aA (bC _)) aq))) (fun _ _=>rfl)) aq))))
   (aB (aO (i:=4) eF.nd rfl (Or.inl rfl) (bx dj aA (aU cQ (hr.mono (by decide)) (by rfl) (aj (pv 0) (aj aA aq)))))
   (aB (aO (i:=5) eF.nd rfl (Or.inl rfl) (aU cQ (hr.mono (by decide)) (by rfl) (aj (pv 0) (aj aA aq))))
   (aB (aO (i:=6) eF.nd rfl (Or.inl rfl) (aK (aP (K:=K) rfl) (fu (aj aA (aj aA (aj aA (aj aA (aj aA aq)))))) (aU cQ (hr.mono (by decide)) (by rfl) (aj (pv 0) (aj aA aq))) (fun _ _=>rfl)))
   (aB (aO (i:=7) eF.nd rfl (Or.inl rfl) (aU cQ (hr.mono (by decide)) (by rfl) (aj (pv 0) (aj aA aq))))
   (aB (aO (i:=8) eF.nd rfl (Or.inl rfl) (fu (aj iY (aj iY (aj iY aq)))))
   (aB (fU (bZ j8 (aU cQ (hr.mono (by decide)) (by rfl) (aj (pv 0) (aj aA aq))) aA (bC _)) (aH (aO (i:=8) eF.nd rfl (Or.inl rfl) (fu (aj iY (aj iY (aj iY (aj iY (aj iY (aj iY aq))))))))) cG)
   (aB (aO (i:=9) eF.nd rfl (Or.inl rfl) (fu aq))
   (aB (d8 PassesOwn.never rfl (gA (by rfl) Bt.ju (aj (pv 3) aq)) (aV (i:=10) eF.nd rfl (Or.inl rfl))
   (aB (aO (i:=11) eF.nd rfl (Or.inl rfl) (bx g8 (bx dj (pv 5) (aU cQ (hr.mono (by decide)) (by rfl) (aj (pv 0) (aj (pv 4) aq)))) aA))
   (aB (aO (i:=12) eF.nd rfl (Or.inl rfl) (aK (aP (K:=K) rfl) (pv 8) (aU cQ (hr.mono (by decide)) (by rfl) (aj (pv 0) (aj (bw (bJ (K:=K) rfl) (by rfl) Bt.lG jf (aj (pv 8) aq)) aq))) (fun _ _=>rfl)))
   (aH (dN (d_ (K:=K) rfl (pv 9) (aj (iW (aj (pv 11) (aj (pv 12) (aj (bx g8 (bx dj (pv 7) (aU cQ (hr.mono (by decide)) (by rfl) (aj (pv 0) (aj (pv 6) aq)))) aA) aq)))) aq)))))))
   (aH (aZ (pv 9))))))))))))), ?_⟩
  refine jR (fun R g=> ?_);refine ⟨_,rfl,r,32,rfl,S0,by decide,by decide,fun n1 H1 a1 b1 S1 k1=> ?_⟩;refine g _ _ ?_;refine jR (fun R g=> ?_);refine ⟨_,rfl,_,rfl,_,_,rfl,rfl,(by show 3<=sizeLine;decide),fun p hp=> ?_⟩;obtain ⟨v1,e1,v10,v11⟩:=Vk most mo0 mo1 (decide (V.int (n1 % 8)=V.int 7)) (decide (V.int n1=V.int 31));have LQ:=aC (o:=HO.lst [V.int 31,V.int 101,V.int (most+1)]) hp;have S1':=S1.keep LQ;refine ⟨_,rfl,_,_,rfl,rfl,(by show (0:Int)<8;decide),rfl,Or.inr ⟨_,rfl,_,rfl,rfl,Or.inr ⟨_,rfl,_,_,rfl,rfl,_,_,_,_,rfl,rfl,bh.of ak,e1, ?_⟩⟩⟩;refine ⟨r,v1,rfl,S1',v10,by omega,fun n2 H2 a2 b2 S2 k2=> ?_⟩;refine g _ _ ?_;refine jR (fun R g=> ?_);refine ⟨_,rfl,r,8,rfl,S2,by decide,by decide,fun n3 H3 a3 b3 S3 k3=>⟨_,_,rfl,rfl, ?_⟩⟩;refine g _ _ ?_;refine jR (fun R g=> ?_);refine ⟨_,rfl,r,8,rfl,S3,by decide,by decide,fun n4 H4 a4 b4 S4 k4=> ?_⟩;refine g _ _ ?_;refine jR (fun R g=> ?_);refine ⟨(by show 5<=sizeLine;decide),fun p2 hp2=> ?_⟩;have Lg:=aC (o:=HO.lst [V.int 1,V.int 2,V.int 3,V.int 5,V.int 20]) hp2;refine ⟨_,rfl,r,5,rfl,S4.keep Lg,by decide,by decide,fun n5 H5 a5 b5 S5 k5=> ?_⟩;obtain ⟨v2,e2,v20,v21⟩:=Vj n5 a5 b5
  have np2:p2≠r:=by
   obtain ⟨f,t,c,e,_⟩:=S4;exact (au e hp2).symm
  refine ⟨_,_,_,_,rfl,rfl,bh.of (k5 _ _ ak np2),e2, ?_⟩;refine g _ _ ?_;refine jR (fun R g=> ?_);refine ⟨_,rfl,r,20,rfl,S5,by decide,by decide,fun n6 H6 a6 b6 S6 k6=> ?_⟩;refine g _ _ ?_;have kk:Kp r H H6:=((((((k1.trans (.of_same LQ)).trans k2).trans k3).trans k4).trans (.of_same Lg)).trans k5).trans k6;refine jR (fun R g=> ?_);refine ⟨(by show 3<=sizeLine;decide),fun q hq=> ?_⟩;have sm3:=aC (o:=HO.lst [V.str "load",V.str "store",V.str "swap"]) hq;refine g _ _ ?_
  have nq:q≠r:=by
   obtain ⟨f,t,c,e,_⟩:=S6;exact (au e hq).symm
  refine ⟨_,rfl,r,3,rfl,S6.keep sm3,by decide,by decide,fun n7 H7 a7 b7 S7 k7=> ?_⟩
  have rest:∀(kd:Addr) (ks:List Str) (H8:Hp),KindsOk ks->kd≠r->H8 kd=some (.lst (ks.map V.str))->bA H8 r->Kp r H H8 ->
   ∀t:TS,t=vP (Fd (Uk vR) (iz 9)) (vP (Um (Pb (jC (jh 3) vR)) (iz 10)
    (vP (Fd (vQ (rI (fun _ j=>0<j) fun i j=>V.int (i % j)) (vQ (Lh fun i j=>V.int (i+j)) (jh 5) (xZ (lq K) [] E0 (jC (jh 0) (jC (jh 4) vR)))) (tC (V.int 8))) (iz 11))
      (vP (Fd (vQ (QS K) (jh 8) (xZ (lq K) [] E0 (jC (jh 0) (jC (Zh (U3 K) (jC (jh 8) vR)) vR)))) (iz 12))
        (Hw (Ur K "list" wj (jh 9) (jC (Ue (jC (jh 11) (jC (jh 12) (jC (vQ (rI (fun _ j=>0<j) fun i j=>V.int (i % j)) (vQ (Lh fun i j=>V.int (i+j)) (jh 7) (xZ (lq K) [] E0 (jC (jh 0) (jC (jh 6) vR)))) (tC (V.int 20))) vR)))) vR))))))
    (Lw (jh 9))) ->
   t {nx:=fun _ H'=>Q .non H',rt:=Q} (wSt r most n1 n2 (1+n3) n4 v2 n6 kd none none none none) H8:=by
   intro kd ks H8 hks nk hk S8 k8 t et;subst et;refine ⟨(by show 0<=sizeLine;decide),fun w hw=> ?_⟩;have TF:=aC (o:=HO.lst []) hw
   have nw:w≠r:=by
    obtain ⟨f,t,c,e,_⟩:=S8;exact (au e hw).symm
   have nwk:w≠kd:=(au hk hw).symm
   have fresh:H w=none:=by
    cases e:H w with
    | none=>rfl
    | some o=>rw [k8 w o e nw] at hw;cases hw
   refine ⟨_,rfl,n2,rfl,by omega,by omega,jG (lo:=0) (n:=n2.toNat) (fun i σ H2=>∃(ws:List aW) (x1 x2 x3:Option V),σ=(wSt r most n1 n2 (1+n3) n4 v2 n6 kd (some (.ref w)) x1 x2 x3) /\
    bY H2 w ws/\(∀x∈ws,lK x)/\ws.length=i/\bA H2 r/\Kp r H H2/\H2 kd=some (.lst (ks.map V.str)))
    ⟨[],none,none,none,rfl,⟨[],ak,by simp only [List.map_nil,aD]⟩,by simp,rfl,S8.keep TF,k8.trans (.of_same TF),TF _ _ hk⟩ ?_ ?_⟩
   ·rintro i σ H2 hi ⟨ws,x1,x2,x3,rfl,W2,ok2,len2,S2',kp2,hk2⟩
    refine ⟨_,rfl,_,rfl,_,rfl,r,_,rfl,S2',by omega,by omega,fun m1 G1 c1 d1 T1 j1=>⟨_,_,rfl,rfl,_,_,rfl,rfl,(by show (0:Int)<8;decide), ?_⟩⟩;have hk3:=j1 _ _ hk2 nk;refine ⟨_,rfl,_,rfl,_,rfl,kd,_,rfl,.inl (bh.of hk3),r,_,rfl,T1, ?_, ?_,fun m2 G2 c2 d2 T2 j2=> ?_⟩
    ·have:=hks.1;rw [List.length_map];omega
    ·have:=hks.2.1;rw [List.length_map];omega
    rw [List.length_map] at d2;obtain ⟨kv,ek,ek'⟩:=Oj (xs:=ks.map V.str) c2 (by rw [List.length_map];exact d2)
    obtain ⟨kind,Wh,rfl⟩:∃kind,ks[m2.toNat]? = some kind/\V.str kind=kv:=by
     rw [List.getElem?_map] at ek';cases e:ks[m2.toNat]? with
     | none=>rw [e] at ek';cases ek'
     | some z=>rw [e] at ek';exact ⟨z,rfl,Option.some.inj ek'⟩
    have hk4:=j2 _ _ hk3 nk;refine ⟨_,_,_,_,rfl,rfl,bh.of hk4,ek, ?_⟩;have W3:=(W2.vX S2' j1 nw).vX T1 j2 nw;obtain ⟨vs3,hw3,dt3⟩:=id W3;refine ⟨_,rfl,.inl ⟨rfl,_,bh.of hw3⟩,_,rfl,_,rfl,_,rfl,_,rfl,_,rfl,r,v2,rfl,T2,v20,by omega,fun m3 G3 c3 d3 T3 j3=>⟨_,_,rfl,rfl,_,_,rfl,rfl,(by show (0:Int)<20;decide),(by show 3<=sizeLine;decide),fun tp htp=> ?_⟩⟩;have W4:=W3.vX T2 j3 nw;have smt:=aC (o:=HO.tup [V.int ((n4+m1) % 8),V.str kind,V.int ((n6+m3) % 20)]) htp;obtain ⟨Xu,RV,dt5⟩:=W4.same smt;have abn:Xu.length=i:=by rw [dt5.length,List.length_map,len2]
    refine ⟨w,Xu,_,rfl,rfl,RV,(by rw [abn,sizeLine_eq];omega), ?_⟩;have qz:Kp w (upd G3 tp (HO.tup [V.int ((n4+m1) % 8),V.str kind,V.int ((n6+m3) % 20)])) (upd (upd G3 tp (HO.tup [V.int ((n4+m1) % 8),V.str kind,V.int ((n6+m3) % 20)])) w (HO.lst (Xu++[V.ref tp]))):=Kp.set;refine ⟨ws++[((n4+m1) % 8,kind,(n6+m3) % 20)],_,_,_,rfl,⟨_,ak, ?_⟩, ?_, ?_, ?_, ?_, ?_⟩
    ·rw [List.map_append]
     refine aD.append (aD.keep (qz.tups RV) _ (aQ _ lD ws) dt5) ?_;exact zy (Eh (x:=((n4+m1) % 8,kind,(n6+m3) % 20)) (qz _ _ ak (dB ak RV (by intro z;cases z))))
    ·intro x hx
     rcases List.mem_append.mp hx with hx|hx
     ·exact ok2 x hx
     ·rw [List.mem_singleton] at hx
      subst hx;exact ⟨⟨Int.emod_nonneg _ (by decide),Int.emod_lt_of_pos _ (by decide)⟩,hks.2.2 kind (List.mem_of_getElem? Wh),⟨Int.emod_nonneg _ (by decide),Int.emod_lt_of_pos _ (by decide)⟩⟩
    ·rw [List.length_append,len2];rfl
    ·exact (T3.keep smt).keep' qz nw.symm
    ·have u1:Kp r H G3:=((kp2.trans j1).trans j2).trans j3
     intro b o e n;refine qz b o (smt b o (u1 b o e n)) ?_;rintro rfl;rw [fresh] at e;cases e
    ·exact qz _ _ (smt _ _ (j3 _ _ hk4 nk)) nwk.symm
   ·rintro σ H2 ⟨ws,x1,x2,x3,rfl,W2,ok2,len2,S2',kp2,hk2⟩
    exact ⟨_,rfl,k w ws H2 fresh W2 ok2 (by omega) S2' kp2⟩
  refine ⟨rfl,_,rfl, ?_⟩;have hq7:=k7 _ _ (ak (H:=H6) (a:=q) (o:=HO.lst [V.str "load",V.str "store",V.str "swap"])) nq;have k67:Kp r H H7:=(kk.trans (.of_same sm3)).trans k7;refine JN (fun _=> ?_) (fun _=> ?_)
  ·refine ⟨(by show 6<=sizeLine;decide),fun q2 hq2=> ?_⟩
   have HN:=aC (o:=HO.lst [V.str "load",V.str "load",V.str "load",V.str "load",V.str "store",V.str "swap"]) hq2
   have nq2:q2≠r:=by
    obtain ⟨f,t,c,e,_⟩:=S7;exact (au e hq2).symm
   exact rest q2 ["load","load","load","load","store","swap"] _ ⟨by decide,by decide,by simp⟩ nq2 ak (S7.keep HN) (k67.trans (.of_same HN)) _ rfl
  ·exact rest q ["load","store","swap"] _ ⟨by decide,by decide,by simp⟩ nq hq7 S7 k67 _ rfl
theorem gQ {H:Hp} {v:V} {x:aW} (h:Dat H v (tD x)):∃t,v = .ref t/\H t=some (.tup [.int x.1,.str x.2.1,.int x.2.2]):=by
 simp only [tD,Dat] at h;obtain ⟨t,vs,e,q,d⟩:=h
 match vs,d with
 | [a,b,c],d=>
   simp only [aD,Dat,and_true] at d;obtain ⟨rfl,rfl,rfl⟩:=d;exact ⟨t,e,q⟩
 | [],d=>simp only [aD] at d
 | [_],d=>simp only [aD,and_false] at d
 | [_,_],d=>simp only [aD,and_false] at d
 | _::_::_::_::_,d=>simp only [aD,and_false] at d
theorem Kc (x y:aW):PyData.eqv (tD x) (tD y)=decide (x=y):=by
 obtain ⟨a,b,c⟩:=x;obtain ⟨a',b',c'⟩:=y;simp only [tD,PyData.eqv,PyData.eqvAll,Bool.and_true]
 by_cases e1:a=a'
 ·subst e1
  by_cases e2:b=b'
  ·subst e2
   by_cases e3:c=c'
   ·subst e3;simp
   ·simp [e3]
  ·simp [e2]
 ·simp [e1]
theorem jP {ws:List aW} (ok:∀x∈ws,lK x):SeqAt.shaped (.list (ws.map tD))=true:=by
 refine pX tD 1 (by decide) (fun x hx=> ?_) (fun x _=>by show (max 0 (max 0 (max 0 0)))+1<=1;decide);have e:PyData.canLay0 (tD x)=(true&&(PyData.strOk x.2.1&&(true&&true))):=rfl;rw [e];rcases (ok x hx).2.1 with q|q|q<;>rw [q]<;>decide +kernel
theorem gD {H:Hp} {a:Addr} {ws:List aW} {i:Nat} {x:aW} (h:bY H a ws) (e:ws[i]? = some x):∃vs t,H a=some (.lst vs)/\vs[i]? = some (.ref t)/\H t=some (.tup [.int x.1,.str x.2.1,.int x.2.2]):=by
 obtain ⟨vs,ha,d⟩:=h;obtain ⟨v,ev,dv⟩:=d.getD (i:=i) (d:=tD x) (by rw [List.getElem?_map,e];rfl);obtain ⟨t,rfl,ht⟩:=gQ dv;exact ⟨vs,t,ha,ev,ht⟩
def mt (x y:aW):Bool:=if x.1=y.1 then false else if x.2.2=y.2.2 then (if x.2.1 = "load" then !decide (y.2.1 = "load") else true) else false
def Fg (K:PySem.W.Frag):Sp:=fun vs H Q _=>∃(a b:Addr) (x y:aW),vs=[.ref a,.ref b]/\H a=some (.tup [.int x.1,.str x.2.1,.int x.2.2])/\H b=some (.tup [.int y.1,.str y.2.1,.int y.2.2])/\Q (.bl (mt x y)) H
theorem M6 {K:PySem.W.Frag} {a b:Addr} {x y:aW} {H:Hp} {Q:VK} (ha:H a=some (.tup [.int x.1,.str x.2.1,.int x.2.2])) (hb:H b=some (.tup [.int y.1,.str y.2.1,.int y.2.2])) (k:Q (.bl (mt x y)) H) {D:Ends} (hD:D.rt=Q):
 (vP (Ul (tOr (Hu (vQ rEq (vQ (yu K) (jh 0) (tC (.int 0))) (vQ (yu K) (jh 1) (tC (.int 0))))) (Hu (vQ XD (vQ (yu K) (jh 0) (tC (.int 2))) (vQ (yu K) (jh 1) (tC (.int 2)))))) (Lw (tC (.bl false))) Hv)
   (Lw (Uh (vQ XD (vQ (yu K) (jh 0) (tC (.int 1))) (tC (.str "load"))) (vQ XD (vQ (yu K) (jh 1) (tC (.int 1))) (tC (.str "load")))))) D [some (.ref a),some (.ref b)] H:=by
 refine ⟨_,rfl,_,_,_,_,rfl,rfl,cJ.of ha,rfl,_,rfl,_,_,_,_,rfl,rfl,cJ.of hb,rfl,rfl,_,rfl, ?_⟩;refine JN (fun h1=> ?_) (fun h1=> ?_)
 ·have e:x.1=y.1:=by injection (of_decide_eq_true h1)
  have em:mt x y=false:=by unfold mt;rw [if_pos e]
  refine (show D.rt (.bl false) H from ?_);rw [hD,←em];exact k
 ·have e:¬x.1=y.1:=fun z=>h1 (decide_eq_true (by rw [z]))
  refine ⟨_,rfl,_,_,_,_,rfl,rfl,cJ.of ha,rfl,_,rfl,_,_,_,_,rfl,rfl,cJ.of hb,rfl,rfl,_,rfl, ?_⟩
  by_cases e2:x.2.2=y.2.2
  ·refine u6 (by rw [e2]) ?_
   refine ⟨_,rfl,_,_,_,_,rfl,rfl,cJ.of ha,rfl,rfl,_,rfl, ?_⟩
   by_cases e3:x.2.1 = "load"
   ·refine u6 (by rw [e3]) ?_
    refine ⟨_,rfl,_,_,_,_,rfl,rfl,cJ.of hb,rfl,rfl, ?_⟩
    have em:mt x y = !decide (V.str y.2.1=V.str "load"):=by
     unfold mt;rw [if_neg e,if_pos e2,if_pos e3];congr 1;rw [Bool.eq_iff_iff,decide_eq_true_iff,decide_eq_true_iff];exact ⟨fun z=>by rw [z],fun z=>by injection z⟩
    rw [←em,hD];exact k
   ·have ne:¬V.str x.2.1=V.str "load" :=fun z=>e3 (by injection z)
    rw [decide_eq_false ne];refine fG ?_;have em:mt x y=true:=by unfold mt;rw [if_neg e,if_pos e2,if_neg e3]
    rw [←em,hD];exact k
  ·have ne:¬V.int x.2.2=V.int y.2.2:=fun z=>e2 (by injection z)
   rw [decide_eq_false ne];refine fG ?_;have em:mt x y=false:=by unfold mt;rw [if_neg e,if_neg e2]
   refine (show D.rt (.bl false) H from ?_);rw [hD,←em];exact k
theorem qy {f:Addr} {fd:FuncData} (F:kJ K "touches_meet" "touches_meet" bQ f fd):cX P w K mg base jx 1 f fd ["one","other"] (Fg K):=by
 refine F.ok qu (fun vs H Q E h=> ?_) (fun cdv A outer s H vs Q E hr h=> ?_)
 ·obtain ⟨a,b,x,y,rfl,_⟩:=h
  rfl
 ·obtain ⟨a,b,x,y,rfl,ha,hb,k⟩:=h
  exact ⟨_,(aB (fU (PW.pt (yw (bZ j8 (aK (aM (K:=K) rfl) (pv 0) aA (fun _ _=>rfl)) (aK (aM (K:=K) rfl) (pv 1) aA (fun _ _=>rfl)) (bC _)) (wk (bZ uU (aK (aM (K:=K) rfl) (pv 0) aA (fun _ _=>rfl)) (aK (aM (K:=K) rfl) (pv 1) aA (fun _ _=>rfl)) (bC _))))) (aH (aZ jk)) cG)
   (aH (aZ (O5 (eX uU (aK (aM (K:=K) rfl) (pv 0) aA (fun _ _=>rfl)) iY (bC _)) (o8 (eX uU (aK (aM (K:=K) rfl) (pv 1) aA (fun _ _=>rfl)) iY (bC _))))))),M6 (K:=K) ha hb k rfl⟩
def Tz (ws:List aW) (i j:Nat):Bool:=match ws[i]?,ws[j]? with |some x,some y=>decide (x.1=y.1)||mt x y|_,_=>false
def qK (ws:List aW) (i j:Nat):Bool:=decide (i<j)&&Tz ws i j
theorem oM {ws:List aW} {i j:Nat} (h:qK ws i j=true):i<j/\j<ws.length:=by
 unfold qK Tz at h;simp only [Bool.and_eq_true,decide_eq_true_eq] at h;refine ⟨h.1, ?_⟩
 by_cases l:j<ws.length
 ·exact l
 ·have e:ws[j]? = none:=by simp;(clear h;omega)
  rw [e] at h;cases ws[i]? <;> simp at h
theorem j5 {vs:List V} {i:Nat} {v:V} (h:vs[i]? = some v):GD vs (i:Int)=some v:=dO h
def Ag (K:PySem.W.Frag):Sp:=fun vs H Q _=>∃(a:Addr) (ws:List aW) (i j:Nat),vs=[.ref a,.int i,.int j]/\bY H a ws/\i<ws.length/\j<ws.length/\Q (.bl (qK ws i j)) H
theorem Bf {f:Addr} {fd:FuncData} (F:kJ K "is_step" "is_step" eN f fd) (cN:FnAt P w K mg base 1 "touches_meet" ["one","other"] (Fg K)):cX P w K mg base jx 2 f fd ["web","place","later"] (Ag K):=by
 refine F.ok Am (fun vs H Q E h=> ?_) (fun cdv A outer s H vs Q E hr h=> ?_)
 ·obtain ⟨a,ws,i,j,rfl,_⟩:=h
  rfl
 ·obtain ⟨a,ws,i,j,rfl,W,hi,hj,k⟩:=h
  refine ⟨_,(aB (fU (bZ Ja (pv 1) (pv 2) (bC _)) (aH (aZ jk)) cG)
   (aH (aZ (O5 (eX j8 (aK (aM (K:=K) rfl) (aK (aP (K:=K) rfl) (pv 0) (pv 1) (fun _ _=>rfl)) aA (fun _ _=>rfl)) (aK (aM (K:=K) rfl) (aK (aP (K:=K) rfl) (pv 0) (pv 2) (fun _ _=>rfl)) aA (fun _ _=>rfl)) (bC _)) (o8 (aU cN (hr.mono (by decide)) (by rfl) (aj (aK (aP (K:=K) rfl) (pv 0) (pv 1) (fun _ _=>rfl)) (aj (aK (aP (K:=K) rfl) (pv 0) (pv 2) (fun _ _=>rfl)) aq)))))))), ?_⟩
  refine ⟨_,rfl,_,rfl,_,_,rfl,rfl,_,rfl, ?_⟩
  by_cases l:i<j
  ·rw [decide_eq_false (show ¬(j:Int)<=(i:Int) by omega)]
   refine fL ?_;obtain ⟨x,ex⟩:∃x,ws[i]? = some x:=⟨ws[i],by simp [hi]⟩;obtain ⟨y,ey⟩:∃y,ws[j]? = some y:=⟨ws[j],by simp [hj]⟩;obtain ⟨vs,t1,ha,e1,ht1⟩:=gD W ex;obtain ⟨vs',t2,ha',e2,xM⟩:=gD W ey;have ev:vs=vs':=by rw [ha] at ha';injection ha' with q;injection q
   subst ev;have es:qK ws i j=(decide (x.1=y.1)||mt x y):=by unfold qK Tz;rw [ex,ey,decide_eq_true l,Bool.true_and]
   refine ⟨_,rfl,_,rfl,_,_,_,_,rfl,rfl,bh.of ha,j5 e1,_,_,_,_,rfl,rfl,cJ.of ht1,rfl,_,rfl,_,rfl,_,_,_,_,rfl,rfl,bh.of ha,j5 e2,_,_,_,_,rfl,rfl,cJ.of xM,rfl,rfl,_,rfl, ?_⟩
   by_cases q:x.1=y.1
   ·rw [show decide (V.int x.1=V.int y.1)=true by simp [q]]
    refine fG ?_;rw [decide_eq_true q,Bool.true_or] at es;rw [←es];exact k
   ·rw [show decide (V.int x.1=V.int y.1)=false by simp [q]]
    refine fL ?_;rw [decide_eq_false q,Bool.false_or] at es;exact ⟨_,rfl,_,rfl,_,_,_,_,rfl,rfl,bh.of ha,j5 e1,_,rfl,_,rfl,_,_,_,_,rfl,rfl,bh.of ha,j5 e2,t1,t2,x,y,rfl,ht1,xM,by rw [←es];exact k⟩
  ·rw [decide_eq_true (show (j:Int)<=(i:Int) by omega)]
   refine fG ?_;have es:qK ws i j=false:=by unfold qK;rw [decide_eq_false l,Bool.false_and]
   rw [←es];exact k
inductive vL (ws:List aW) (j:Nat):Nat->Prop
 | one {i:Nat} (h:qK ws i j=true):vL ws j i
 | more {i k:Nat} (h:qK ws i k=true) (r:vL ws j k):vL ws j i
theorem vL.lt {ws:List aW} {i j:Nat} (r:vL ws j i):i<j/\j<ws.length:=by
 induction r with
 | one h=>exact oM h
 | more h _ ih=>exact ⟨Nat.lt_trans (oM h).1 ih.1,ih.2⟩
abbrev Nt:=Int×Int×Int×Int
def nD (x:Nt):PyData:= .tuple [.int x.1,.int x.2.1,.int x.2.2.1,.int x.2.2.2]
def nV (x:Nt):List V:=[.int x.1,.int x.2.1,.int x.2.2.1,.int x.2.2.2]
theorem h_ (x:Nt):Bu (nD x)=true:=rfl
theorem Kr {H:Hp} {v:V} {d:PyData} (h:Dat H v d):aD H [v] [d]:=by
 simp only [aD,and_true];exact h
theorem jd {H:Hp} {t:Addr} {x:Nt} (h:H t=some (.tup (nV x))):Dat H (.ref t) (nD x):=by
 simp only [nD,Dat];exact ⟨t,_,rfl,h,by simp only [nV,aD,Dat,and_self]⟩
theorem jX {H:Hp} {v:V} {x:Nt} (h:Dat H v (nD x)):∃t,v = .ref t/\H t=some (.tup (nV x)):=by
 simp only [nD,Dat] at h;obtain ⟨t,vs,e,q,d⟩:=h
 match vs,d with
 | [a,b,c,z],d=>
   simp only [aD,Dat,and_true] at d;obtain ⟨rfl,rfl,rfl,rfl⟩:=d;exact ⟨t,e,q⟩
 | [],d=>simp only [aD] at d
 | [_],d=>simp only [aD,and_false] at d
 | [_,_],d=>simp only [aD,and_false] at d
 | [_,_,_],d=>simp only [aD,and_false] at d
 | _::_::_::_::_::_,d=>simp only [aD,and_false] at d
def cg (H:Hp) (a:Addr) (ns:List Nt):Prop:=∃vs,H a=some (.lst vs)/\aD H vs (ns.map nD)
theorem cg.kp {H H':Hp} {a r:Addr} {ns:List Nt} (h:cg H a ns) (hr:∀a xs,H a=some (HO.tup xs)->H' a=some (HO.tup xs)) (k:Kp r H H') (n:a≠r):cg H' a ns:=by
 obtain ⟨vs,e,d⟩:=h;exact ⟨vs,k _ _ e n,aD.keep hr _ (aQ _ h_ ns) d⟩
theorem cg.same {H H':Hp} {a:Addr} {ns:List Nt} (h:cg H a ns) (k:Same H H'):cg H' a ns:=by
 obtain ⟨vs,e,d⟩:=h;exact ⟨vs,k _ _ e,aD.keep k.tups _ (aQ _ h_ ns) d⟩
theorem jm {H:Hp} {vs:List V} {ns:List Nt} {i:Nat} {v:V} (d:aD H vs (ns.map nD)) (e:vs[i]? = some v):∃x t,ns[i]? = some x/\v = .ref t/\H t=some (.tup (nV x)):=by
 obtain ⟨q,eq,dq⟩:=d.get e;rw [List.getElem?_map] at eq;cases ex:ns[i]? with
 | none=>rw [ex] at eq;cases eq
 | some x=>
   rw [ex] at eq;cases eq;obtain ⟨t,rfl,ht⟩:=jX dq;exact ⟨x,t,rfl,rfl,ht⟩
def gI (cs:List Int) (h:Int):Int:=(cs[h.toNat]?).getD 0
abbrev mF:=Int×Int
def pD (x:mF):PyData:= .tuple [.int x.1,.int x.2]
theorem jc (x:mF):Bu (pD x)=true:=rfl
theorem ou {H:Hp} {t:Addr} {x:mF} (h:H t=some (.tup [.int x.1,.int x.2])):Dat H (.ref t) (pD x):=by
 simp only [pD,Dat];exact ⟨t,_,rfl,h,by simp only [aD,Dat,and_self]⟩
theorem qd {H:Hp} {v:V} {x:mF} (h:Dat H v (pD x)):∃t,v = .ref t/\H t=some (.tup [.int x.1,.int x.2]):=by
 simp only [pD,Dat] at h;obtain ⟨t,vs,e,q,d⟩:=h
 match vs,d with
 | [a,b],d=>
   simp only [aD,Dat,and_true] at d;obtain ⟨rfl,rfl⟩:=d;exact ⟨t,e,q⟩
 | [],d=>simp only [aD] at d
 | [_],d=>simp only [aD,and_false] at d
 | _::_::_::_,d=>simp only [aD,and_false] at d
def gj (H:Hp) (a:Addr) (ps:List mF):Prop:=∃vs,H a=some (.lst vs)/\aD H vs (ps.map pD)
theorem gj.same {H H':Hp} {a:Addr} {ws:List mF} (h:gj H a ws) (k:Same H H'):gj H' a ws:=by
 obtain ⟨vs,e,d⟩:=h;exact ⟨vs,k _ _ e,aD.keep k.tups _ (aQ _ jc ws) d⟩
theorem gj.kp {H H':Hp} {a r:Addr} {ws:List mF} {ys:List V} (h:gj H a ws) (hr:H r=some (.lst ys)) (k:Kp r H H') (n:a≠r):gj H' a ws:=by
 obtain ⟨vs,e,d⟩:=h;exact ⟨vs,k _ _ e n,aD.keep (k.tups hr) _ (aQ _ jc ws) d⟩
theorem Sw (x y:mF):PyData.eqv (pD x) (pD y)=decide (x=y):=by
 obtain ⟨a,b⟩:=x;obtain ⟨c,d⟩:=y;simp only [pD,PyData.eqv,PyData.eqvAll,Bool.and_true]
 by_cases e1:a=c
 ·subst e1
  by_cases e2:b=d
  ·subst e2;simp
  ·simp [e2]
 ·simp [e1]
theorem qQ {H:Hp} {vs:List V} {ps:List mF} {i:Nat} {v:V} (d:aD H vs (ps.map pD)) (e:vs[i]? = some v):∃x t,ps[i]? = some x/\v = .ref t/\H t=some (.tup [.int x.1,.int x.2]):=by
 obtain ⟨q,eq,dq⟩:=d.get e;rw [List.getElem?_map] at eq;cases ex:ps[i]? with
 | none=>rw [ex] at eq;cases eq
 | some x=>
   rw [ex] at eq;cases eq;obtain ⟨t,rfl,ht⟩:=qd dq;exact ⟨x,t,rfl,rfl,ht⟩
def cnt (ws:List aW) (h:Int):Int:=((ws.filter fun x=>decide (x.1=h)).length:Int)
theorem gU (ws:List aW) (x:aW) (h:Int):cnt (ws++[x]) h=if h=x.1 then cnt ws h+1 else cnt ws h:=by
 unfold cnt;rw [List.filter_append,List.length_append]
 by_cases e:h=x.1
 ·subst e;simp
 ·rw [if_neg e]
  have:¬x.1=h:=fun z=>e z.symm;simp [this]
def hnd (ws:List aW) (i:Nat):Int:=match ws[i]? with |some x=>x.1|none=>0
theorem bO {ws:List aW} {i:Nat} {x:aW} (h:ws[i]? = some x):hnd ws i=x.1:=by unfold hnd;rw [h]
def nm (ws:List aW):List mF:=(List.range ws.length).map fun i=>(hnd ws i,cnt (ws.take i) (hnd ws i))
theorem M4 (ws:List aW) (x:aW):nm (ws++[x])=nm ws++[(x.1,cnt ws x.1)]:=by
 unfold nm;rw [List.length_append,List.length_singleton,List.range_succ,List.map_append];congr 1
 ·refine List.map_congr_left fun i hi=> ?_
  have hi':i<ws.length:=by simpa using hi
  unfold hnd;rw [List.getElem?_append_left hi',List.take_append_of_le_length (by omega)]
 ·simp [hnd]
theorem dz (ws:List aW):(nm ws).length=ws.length:=by unfold nm;simp
def lU (K:PySem.W.Frag):Sp:=fun vs H Q _=>∃(a:Addr) (ws:List aW),vs=[.ref a]/\bY H a ws/\ws.length<=1000 /\ ∀(r:Addr) (H':Hp),H r=none->gj H' r (nm ws)->Same H H'->Q (.ref r) H'
theorem Jd {f:Addr} {fd:FuncData} (F:kJ K "names" "names" iD f fd):cX P w K mg base jx 1 f fd ["web"] (lU K):=by
 refine F.ok lu (fun vs H Q E h=> ?_) (fun cdv A outer s H vs Q E hr h=> ?_)
 ·obtain ⟨a,ws,rfl,_⟩:=h
  rfl
 ·obtain ⟨a,ws,rfl,W,hlen,k⟩:=h
  have hu:=jr hr
  refine ⟨_,(aB (aO (i:=1) lu.nd rfl (Or.inl rfl) yF)
   (aB (aO (i:=2) lu.nd rfl (Or.inl rfl) (fu aq))
   (aB (d8 PassesOwn.never rfl (bU (K:=K) rfl (pv 0)) (aV (i:=3) lu.nd rfl (Or.inl rfl))
   (aB (aO (i:=4) lu.nd rfl (Or.inl rfl) (rT hu (pv 1) (aK (aM (K:=K) rfl) (pv 3) aA (fun _ _=>rfl)) aA ⟨rfl,rfl,rfl,rfl⟩))
   (aB (dN (d_ (K:=K) rfl (pv 2) (aj (iW (aj (aK (aM (K:=K) rfl) (pv 3) aA (fun _ _=>rfl)) (aj (pv 4) aq))) aq)))
   (aH (wz hu (pv 1) (aK (aM (K:=K) rfl) (pv 3) aA (fun _ _=>rfl)) (bx dj (pv 4) aA) rfl)))))
   (aH (aZ (pv 2)))))), ?_⟩
  obtain ⟨vs,ha,dv⟩:=id W;have Y_:vs.length=ws.length:=by rw [dv.length,List.length_map]
  intro d hd;have LQ:=aC (o:=HO.dK []) hd;refine ⟨(by show 0<=sizeLine;decide),fun p hp=> ?_⟩;have Lg:=aC (o:=HO.lst []) hp;have XQ:d≠p:=au ak hp;have hp0:H p=none:=LQ.free hp
  refine ⟨_,rfl,a,rfl,⟨_,bh.of (Lg _ _ (LQ _ _ ha))⟩,jH (K:=K) (a:=a) (xs:=vs) (fun i σ H2=>∃(kvs:List (Key×V)) (x1 x2:Option V),σ=[some (.ref a),some (.ref d),some (.ref p),x1,x2]/\Same H H2 /\
   H2 d=some (.dK kvs)/\kvs.length<=i/\(∀h:Int,(cZ kvs (Sum.inl h)).getD (.int 0) = .int (cnt (ws.take i) h))/\gj H2 p (nm (ws.take i)))
   ⟨[],none,none,rfl,LQ.trans Lg,Lg _ _ ak,Nat.zero_le _,fun h=>rfl,⟨[],ak,by simp only [List.take_zero,nm,List.length_nil,List.range_zero,List.map_nil,aD]⟩⟩ (fun i σ H2 _ ⟨_,_,_,_,sm,_⟩=>bh.of (sm _ _ ha)) ?_ ?_⟩
  ·rintro i y σ H2 hi ⟨kvs,x1,x2,rfl,sm,hd2,kl,hval,PA⟩
   have hil:i<ws.length:=by have:=(List.getElem?_eq_some_iff.mp hi).1;omega
   obtain ⟨x,ex⟩:∃x,ws[i]? = some x:=⟨ws[i],by simp [hil]⟩;obtain ⟨dd,ed,dy⟩:=dv.get hi;rw [List.getElem?_map,ex] at ed;cases ed;obtain ⟨t,rfl,ht⟩:=gQ dy;have xM:H2 t=some (.tup [.int x.1,.str x.2.1,.int x.2.2]):=sm.tups _ _ ht;have tk:ws.take (i+1)=ws.take i++[x]:=by rw [List.take_add_one,ex];rfl
   have Zc:(ws.take i).length=i:=by rw [List.length_take];omega
   refine ⟨_,rfl,d,rfl,.inl ⟨_,.inl hd2⟩,_,rfl,_,_,_,_,rfl,rfl,cJ.of xM,rfl,_,iw.k (k:=Sum.inl x.1) hd2, ?_⟩;rw [hval x.1];obtain ⟨ts,hts,Wk⟩:=id PA;refine ⟨_,rfl,.inl ⟨rfl,_,bh.of hts⟩,_,rfl,_,_,_,_,rfl,rfl,cJ.of xM,rfl,_,rfl,(by show 2<=sizeLine;decide),fun q hq=> ?_⟩;have sm3:=aC (o:=HO.tup [V.int x.1,V.int (cnt (ws.take i) x.1)]) hq;have JT:=sm3 _ _ hts;have Ua:ts.length=i:=by rw [Wk.length,List.length_map,dz,Zc]
   refine ⟨p,ts,_,rfl,rfl,JT,(by rw [Ua,sizeLine_eq];omega), ?_⟩;have qz:Kp p (upd H2 q (HO.tup [V.int x.1,V.int (cnt (ws.take i) x.1)])) (upd (upd H2 q (HO.tup [V.int x.1,V.int (cnt (ws.take i) x.1)])) p (HO.lst (ts++[V.ref q]))):=Kp.set;have hd4:=qz _ _ (sm3 _ _ hd2) XQ;refine ⟨_,rfl,_,_,rfl,rfl,_,rfl,_,rfl,_,_,_,_,rfl,rfl,cJ.of (qz.tups JT _ _ (sm3.tups _ _ xM)),rfl,d,_,rfl,xG.k (k:=Sum.inl x.1) hd4 (Fl (by omega)), ?_⟩;refine ⟨putK kvs (Sum.inl x.1) (V.int (cnt (ws.take i) x.1+1)),_,_,rfl, ?_,ak, ?_,fun h=> ?_, ?_⟩
   ·intro b o e
    have nb:b≠p:=au e hp0;have nb2:b≠d:=au e hd;rw [aJ nb2];exact qz b o (sm3 b o (sm b o e)) nb
   ·exact Nat.le_trans (eE ..) (by omega)
   ·rw [jA,tk,gU]
    by_cases e:h=x.1
    ·subst e
     rw [if_pos rfl,if_pos rfl];rfl
    ·rw [if_neg (fun z=>e (Sum.inl.inj z)),if_neg e]
     exact hval h
   ·rw [tk,M4]
    have kd2:Kp d (upd (upd H2 q (HO.tup [V.int x.1,V.int (cnt (ws.take i) x.1)])) p (HO.lst (ts++[V.ref q]))) (upd (upd (upd H2 q (HO.tup [V.int x.1,V.int (cnt (ws.take i) x.1)])) p (HO.lst (ts++[V.ref q]))) d (HO.dK (putK kvs (Sum.inl x.1) (V.int (cnt (ws.take i) x.1+1))))):=Kp.set
    have T_:∀a xs,(upd H2 q (HO.tup [V.int x.1,V.int (cnt (ws.take i) x.1)])) a=some (HO.tup xs)->(upd (upd (upd H2 q (HO.tup [V.int x.1,V.int (cnt (ws.take i) x.1)])) p (HO.lst (ts++[V.ref q]))) d (HO.dK (putK kvs (Sum.inl x.1) (V.int (cnt (ws.take i) x.1+1))))) a=some (HO.tup xs):=fun a xs hx=>
     kd2.tups' hd4 _ _ (qz.tups JT _ _ hx)
    refine ⟨_,kd2 _ _ ak XQ.symm, ?_⟩;rw [List.map_append];refine aD.append (aD.keep (fun a xs hx=>T_ a xs (sm3.tups _ _ hx)) _ (aQ _ jc _) Wk) (zy (ou (x:=(x.1,cnt (ws.take i) x.1)) ?_));exact kd2 _ _ (qz _ _ ak (dB ak JT (by intro z;cases z))) (dB (qz _ _ ak (dB ak JT (by intro z;cases z))) hd4 (by intro z;cases z))
  ·rintro σ H2 ⟨kvs,x1,x2,rfl,sm,hd2,kl,hval,PA⟩
   rw [Y_,List.take_length] at PA;exact ⟨_,rfl,k p H2 hp0 PA sm⟩
theorem Ia {ws:List aW} {j m:Nat} (r:vL ws j m):∃i,qK ws i j=true/\(m=i\/vL ws i m):=by
 induction r with
 | one h=>exact ⟨_,h,.inl rfl⟩
 | more h _ ih=>
   obtain ⟨i,st,q⟩:=ih;refine ⟨i,st,.inr ?_⟩;rcases q with rfl|q
   ·exact .one h
   ·exact .more h q
theorem H_ {ws:List aW} {i j m:Nat} (st:qK ws i j=true) (r:vL ws i m):vL ws j m:=by
 induction r with
 | one h=>exact .more h (.one st)
 | more h _ ih=>exact .more h ih
theorem lF (ws:List aW) (h:Int) (i:Nat):∀d:Nat,cnt (ws.take i) h<=cnt (ws.take (i+d)) h
 | 0=>Int.le_refl _
 | d+1=>by
   have ih:=lF ws h i d;have e:ws.take (i+(d+1))=ws.take (i+d)++(ws[i+d]?).toList:=by rw [←Nat.add_assoc,List.take_add_one]
   rw [e];cases ws[i+d]? with
   | none=>simpa using ih
   | some x=>
     show _<=cnt (ws.take (i+d)++[x]) h;rw [gU];split<;>(clear e;omega)
theorem jY (ws:List aW) (h:Int):0<=cnt ws h:=by unfold cnt;omega
theorem Ol {vs:List V} {i:Nat} {v:V} (h:vs[i]? = some v):GD vs (0+(i:Int))=some v:=by rw [Int.zero_add];exact dO h
theorem jV {ws:List aW} {i:Nat} {x:aW} (e:ws[i]? = some x):(nm ws)[i]? = some (x.1,cnt (ws.take i) x.1):=by
 have:i<ws.length:=(List.getElem?_eq_some_iff.mp e).1;unfold nm;rw [List.getElem?_map,List.getElem?_range this];simp only [Option.map_some,bO e]
theorem oZ {H:Hp} {a:Addr} {ps:List mF} {i:Nat} {x:mF} (h:gj H a ps) (e:ps[i]? = some x):∃vs t,H a=some (.lst vs)/\vs[i]? = some (.ref t)/\H t=some (.tup [.int x.1,.int x.2]):=by
 obtain ⟨vs,ha,d⟩:=h;obtain ⟨v,ev,dv⟩:=d.getD (i:=i) (d:=pD x) (by rw [List.getElem?_map,e];rfl);obtain ⟨t,rfl,ht⟩:=qd dv;exact ⟨vs,t,ha,ev,ht⟩
def mx (a b:Int):Int:=if b>a then b else a
theorem O9 {c a b:Int}:c<mx a b↔c<a\/c<b:=by unfold mx;split<;>omega
theorem Vi {a b:Int} (h:0<=a):0<=mx a b:=by unfold mx;split<;>omega
def qN (K:PySem.W.Frag):Sp:=fun vs H Q _=>∃(t d:Addr) (h k:Int) (g:Int->Int),vs=[.ref t,.ref d]/\H t=some (.tup [.int h,.int k])/\fY H d g/\Q (.bl (decide (k<g h))) H
theorem Jg {f:Addr} {fd:FuncData} (F:kJ K "is_known" "is_known" dJ f fd):cX P w K mg base jx 1 f fd ["name","known"] (qN K):=by
 refine F.ok yq (fun vs H Q E h=> ?_) (fun cdv A outer s H vs Q E hr h=> ?_)
 ·obtain ⟨t,d,h,k,g,rfl,_⟩:=h
  rfl
 ·obtain ⟨t,d,h,k,g,rfl,ht,kd,q⟩:=h
  have hu:=jr hr;refine ⟨_,(aH (aZ (eX IW (aK (aM (K:=K) rfl) (pv 0) aA (fun _ _=>rfl)) (rT hu (pv 1) (aK (aM (K:=K) rfl) (pv 0) aA (fun _ _=>rfl)) aA ⟨rfl,rfl,rfl,rfl⟩) (bC _)))), ?_⟩;obtain ⟨kvs,hd,_,val⟩:=kd.get;refine ⟨_,rfl,_,_,_,_,rfl,rfl,cJ.of ht,rfl,_,rfl,d,rfl,.inl ⟨_,.inl hd⟩,_,rfl,_,_,_,_,rfl,rfl,cJ.of ht,rfl,_,iw.k (k:=Sum.inl h) hd, ?_⟩;rw [val h];exact ⟨_,_,rfl,rfl,q⟩
def qM (K:PySem.W.Frag):Sp:=fun vs H Q _=>∃(d m:Addr) (g1 g2:Int->Int),vs=[.ref d,.ref m]/\fY H d g1/\fY H m g2/\d≠m /\ ∀H',fY H' d (fun h=>mx (g1 h) (g2 h))->Kp d H H'->Q .non H'
def TY (hs:List Int) (g1 g2:Int->Int):Int->Int:=fun h=>if h∈hs then mx (g1 h) (g2 h) else g1 h
theorem Jf {f:Addr} {fd:FuncData} (F:kJ K "learn" "learn" iH f fd) (Bt:uM mg):cX P w K mg base jx 1 f fd ["known","more"] (qM K):=by
 refine F.ok yj (fun vs H Q E h=> ?_) (fun cdv A outer s H vs Q E hr h=> ?_)
 ·obtain ⟨d,m,g1,g2,rfl,_⟩:=h
  rfl
 ·obtain ⟨d,m,g1,g2,rfl,k1,k2,ne,q⟩:=h
  have hu:=jr hr
  refine ⟨_,(aH (Mp (d8 PassesOwn.never rfl (Mu (pv 1)) (aV (i:=2) yj.nd rfl (Or.inl rfl))
   (aH (wz hu (pv 0) (pv 2) (bw (vB rfl) (by rfl) Bt.Pz Kz (aj (rT hu (pv 0) (pv 2) aA ⟨rfl,rfl,rfl,rfl⟩) (aj (fV hu (pv 1) (pv 2) (fun _ _=>rfl)) aq))) rfl))))), ?_⟩
  obtain ⟨hs,hm,nd,rg,zz⟩:=k2.ex;refine ⟨_,rfl,m,_,rfl,hm,fun o=> ?_⟩;have kf:Kp m H (upd H m (.gM o (.dK (qb hs g2)))):=Kp.set
  refine J_ (fun i σ H2=>∃v:Option V,σ=[some (.ref d),some (.ref m),v]/\fY H2 d (TY (hs.take i) g1 g2)/\H2 m=some (.gM o (.dK (qb hs g2)))/\Kp d (upd H m (.gM o (.dK (qb hs g2)))) H2)
   ⟨none,rfl,(k1.kp kf ne).ext (fun h=>by simp [TY]),ak,Kp.refl _ _⟩ (fun i σ H2 _ ⟨_,_,_,e,_⟩=>e) ?_ ?_
  ·rintro i kk v σ H2 hi ⟨x,rfl,kd,fz,kp⟩
   have hi':(qb hs g2)[i]? = some (kk,v):=hi;unfold qb at hi';rw [List.getElem?_map] at hi';cases eh:hs[i]? with
   | none=>rw [eh] at hi';cases hi'
   | some h=>
     rw [eh] at hi';cases hi';have hm':h∈hs:=List.mem_of_getElem? eh;obtain ⟨h0,h1⟩:=rg h hm';have tk:hs.take (i+1)=hs.take i++[h]:=by rw [List.take_add_one,eh];rfl
     have nin:h∉hs.take i:=by
      intro z;have:(hs.take i++[h]).Nodup:=by rw [←tk];exact nd.sublist (List.take_sublist _ _)
      rw [List.nodup_append] at this;exact this.2.2 h z h (by simp) rfl
     obtain ⟨kvs,hd2,_,val⟩:=kd.get;have gi:TY (hs.take i) g1 g2 h=g1 h:=by unfold TY;rw [if_neg nin]
     refine ⟨_,rfl,d,rfl,.inl ⟨_,.inl hd2⟩,_,rfl,_,iw.k (k:=Sum.inl h) hd2, ?_⟩;rw [val h,gi];have gm:iw H2 m (kV (Sum.inl h)) (some (V.int (g2 h))):= .inl ⟨_,Sum.inl h,.inr ⟨o,fz⟩,rfl,by rw [wH,if_pos hm']⟩;refine ⟨_,rfl,_,rfl,m,_,rfl,gm,_,_,rfl, ?_⟩;obtain ⟨kvs',V_,hz,put⟩:=kd.put (v:=mx (g1 h) (g2 h)) h0 h1 (Vi (k1.nn h));refine ⟨_,rfl,_,rfl,d,_,rfl,xG.k (k:=Sum.inl h) V_ hz, ?_⟩;refine ⟨_,rfl,(put _ ak).ext fun x=> ?_,by rw [aJ ne.symm];exact fz,kp.trans Kp.set⟩;unfold yZ TY;rw [tk]
     by_cases e:x=h
     ·subst e;simp
     ·simp [e]
  ·rintro σ H2 ⟨x,rfl,kd,fz,kp⟩
   refine ⟨_,⟨m,_,o,_,hm,fz,rfl⟩, ?_⟩;have kt:Kp m H2 (upd H2 m (.dK (qb hs g2))):=Kp.set;refine q _ ((kd.kp kt ne).ext fun h=> ?_) fun b u e nb=> ?_
   ·have el:hs.take (qb hs g2).length=hs:=by rw [qb,List.length_map,List.take_length]
    rw [el];unfold TY
    by_cases hh:h∈hs
    ·rw [if_pos hh]
    ·rw [if_neg hh,zz h hh]
     have:=k1.nn h;unfold mx;rw [if_neg (by (clear hh el fz hm hu ne;omega))]
   ·by_cases eb:b=m
    ·subst eb
     rw [hm] at e;rw [ak];exact e
    ·rw [aJ eb]
     exact kp _ _ (by rw [aJ eb];exact e) nb
def GJ (ws:List aW) (g:Int->Int) (R:Nat->Prop):Prop:=∀m x,ws[m]? = some x->(cnt (ws.take m) x.1<g x.1↔R m)
def Tj (ws:List aW) (j:Nat) (g:Int->Int):Prop:=GJ ws g (fun m=>m=j\/vL ws j m) /\ ∀h,g h<=cnt (ws.take (j+1)) h
def G9 (ws:List aW) (j lo m:Nat):Prop:=∃x,lo<=x/\qK ws x j=true/\(m=x\/vL ws x m)
def Bare (ws:List aW) (j e:Nat):Prop:=qK ws e j=true /\ ¬G9 ws j (e+1) e
noncomputable instance (ws:List aW) (j e:Nat):Decidable (Bare ws j e):=Classical.propDecidable _
theorem Fq {ws:List aW} {a b c:Nat} (h:vL ws b a) (g:vL ws c b):vL ws c a:=by
 induction h with
 | one h=>exact .more h g
 | more h _ ih=>exact .more h ih
theorem GJ.iff {ws:List aW} {g:Int->Int} {R S:Nat->Prop} (h:GJ ws g R) (e:∀m,R m↔S m):GJ ws g S:=fun m x ex=>(h m x ex).trans (e m)
theorem Ks {ws:List aW} {j e m:Nat} (h:¬qK ws e j=true):G9 ws j (e+1) m↔G9 ws j e m:=by
 constructor
 ·rintro ⟨x,a,b,c⟩
  exact ⟨x,by omega,b,c⟩
 ·rintro ⟨x,a,b,c⟩
  have:x≠e:=fun z=>h (z▸b);exact ⟨x,by omega,b,c⟩
theorem Gu {ws:List aW} {j e m:Nat} (k:G9 ws j (e+1) e):G9 ws j (e+1) m↔G9 ws j e m:=by
 constructor
 ·rintro ⟨x,a,b,c⟩
  exact ⟨x,by omega,b,c⟩
 ·rintro ⟨x,a,b,c⟩
  by_cases z:x=e
  ·subst z
   obtain ⟨y,y1,y2,y3⟩:=k;have r:vL ws y x:=y3.resolve_left (by (clear y3 y2 a c b;omega));rcases c with c|c
   ·subst c;exact ⟨y,y1,y2,.inr r⟩
   ·exact ⟨y,y1,y2,.inr (Fq c r)⟩
  ·exact ⟨x,by omega,b,c⟩
theorem Oc {ws:List aW} {j e m:Nat} (h:qK ws e j=true):(G9 ws j (e+1) m\/(m=e\/vL ws e m))↔G9 ws j e m:=by
 constructor
 ·rintro (⟨x,a,b,c⟩|c)
  ·exact ⟨x,by omega,b,c⟩
  ·exact ⟨e,Nat.le_refl _,h,c⟩
 ·rintro ⟨x,a,b,c⟩
  by_cases z:x=e
  ·subst z;exact .inr c
  ·exact .inl ⟨x,by (clear c b h;omega),b,c⟩
theorem DK {ws:List aW} {g g':Int->Int} {R S:Nat->Prop} (h:GJ ws g R) (h':GJ ws g' S):GJ ws (fun x=>mx (g x) (g' x)) fun m=>R m\/S m:=fun m x ex=>by
 show cnt _ _<mx _ _↔_;rw [O9,h m x ex,h' m x ex]
theorem Ob {ws:List aW} {j m:Nat}:G9 ws j 0 m↔vL ws j m:=by
 constructor
 ·rintro ⟨x,_,b,c|c⟩
  ·subst c;exact .one b
  ·exact H_ b c
 ·intro r
  obtain ⟨i,s,q⟩:=Ia r;exact ⟨i,Nat.zero_le _,s,q⟩
theorem Ng {ws:List aW} {j:Nat} {y:aW} {g:Int->Int} (h:GJ ws g (vL ws j)) (bd:∀h,g h<=cnt (ws.take j) h) (ey:ws[j]? = some y):Tj ws j (fun x=>mx (g x) (if x=y.1 then cnt (ws.take j) y.1+1 else 0)):=by
 have tk:ws.take (j+1)=ws.take j++[y]:=by rw [List.take_add_one,ey];rfl
 refine ⟨?_,fun h=> ?_⟩
 rotate_left
 ·have b1:=bd h
  have b2:=jY (ws.take j) h;rw [tk,gU];show mx _ _<=_;unfold mx
  by_cases e:h=y.1
  ·rw [if_pos e,if_pos e];subst e;split<;>(clear b2 tk ey;omega)
  ·rw [if_neg e,if_neg e];split<;>(clear e tk ey;omega)
 intro m x ex;show cnt _ _<mx _ _↔_;rw [O9,h m x ex]
 by_cases e:x.1=y.1
 ·rw [if_pos e]
  constructor
  ·rintro (z|z)
   ·exact .inr z
   ·rw [e] at z
    by_cases l:m<=j
    ·by_cases em:m=j
     ·exact .inl em
     ·refine .inr (.one ?_)
      unfold qK Tz;rw [ex,ey,decide_eq_true (show m<j by (clear z e ex tk ey;omega))];simp [e]
    ·have:=lF ws y.1 (j+1) (m - (j+1))
     rw [show j+1+(m - (j+1))=m by (clear this z e ex tk ey;omega)] at this;have t:ws.take (j+1)=ws.take j++[y]:=by rw [List.take_add_one,ey];rfl
     rw [t,gU,if_pos rfl] at this;omega
  ·rintro (z|z)
   ·subst z
    rw [e];exact .inr (by (clear tk ey e ex;omega))
   ·exact .inl z
 ·rw [if_neg e]
  constructor
  ·rintro (z|z)
   ·exact .inr z
   ·have:=jY (ws.take m) x.1;(clear e ex tk ey;omega)
  ·rintro (z|z)
   ·subst z
    rw [ex] at ey;cases ey;exact absurd rfl e
   ·exact .inl z
def qp (H:Hp) (kn:Addr) (ws:List aW) (n:Nat):Prop:=∃rs:List Addr,H kn=some (.lst (rs.map V.ref))/\rs.length=n /\ ∀j r,rs[j]? = some r -> ∃g,fY H r g/\Tj ws j g
theorem qp.same {H H':Hp} {kn:Addr} {ws:List aW} {n:Nat} (h:qp H kn ws n) (k:Same H H'):qp H' kn ws n:=by
 obtain ⟨rs,e,l,q⟩:=h;refine ⟨rs,k _ _ e,l,fun j r hj=> ?_⟩;obtain ⟨g,a,b⟩:=q j r hj;exact ⟨g,a.same k,b⟩
theorem qp.kp {H H':Hp} {kn r:Addr} {ys:List V} {ws:List aW} {n:Nat} (h:qp H kn ws n) (k:Kp r H H') (hr:H r=some (.lst ys)) (ne:kn≠r):qp H' kn ws n:=by
 obtain ⟨rs,e,l,q⟩:=h;refine ⟨rs,k _ _ e ne,l,fun j r' hj=> ?_⟩;obtain ⟨g,a,b⟩:=q j r' hj;obtain ⟨hs,e',_⟩:=a.ex;exact ⟨g,a.kp k (dB e' hr (by intro z;cases z)),b⟩
noncomputable def fH (ws:List aW) (j i:Nat):List Nat:=((List.range i).map fun t=>j - 1 - t).filter fun e=>decide (Bare ws j e)
theorem Cm (ws:List aW) (j i:Nat):fH ws j (i+1)=fH ws j i++(if Bare ws j (j - 1 - i) then [j - 1 - i] else []):=by
 unfold fH;rw [List.range_succ,List.map_append,List.filter_append];congr 1
 by_cases h:Bare ws j (j - 1 - i)<;>simp [h]
theorem pP (ws:List aW) (j i:Nat):(fH ws j i).length<=i:=by
 unfold fH;exact Nat.le_trans (List.length_filter_le _ _) (by simp)
def j9 (l:List Nat):List V:=l.map fun n:Nat=>V.int (n:Int)
def Ai (K:PySem.W.Frag):Sp:=fun vs H Q _=>∃(a nd kn:Addr) (ws:List aW) (j:Nat),vs=[.ref a,.ref nd,.ref kn,.int j]/\bY H a ws/\gj H nd (nm ws)/\qp H kn ws j/\j<ws.length/\ws.length<=300/\(∀x∈ws,0<=x.1/\x.1<8) /\
 ∀(p b d:Addr) (g:Int->Int) (H':Hp),H' p=some (.tup [.ref b,.ref d])->H' b=some (.lst (j9 (fH ws j j)))->fY H' d g->Tj ws j g->H b=none->H d=none->H p=none->Same H H'->Q (.ref p) H'
theorem RK {H:Hp} {d:Addr} (h:H d=some (.dK [])):fY H d fun _=>0:=⟨⟨[],h,List.nodup_nil,fun _ z=>absurd z (by simp),fun _ _=>rfl⟩,fun _=>Int.le_refl _⟩
theorem MN {f:Addr} {fd:FuncData} (F:kJ K "bare_steps" "bare_steps" cF f fd) (GQ:FnAt P w K mg base 2 "is_step" ["web","place","later"] (Ag K)) (nG:FnAt P w K mg base 1 "is_known" ["name","known"] (qN K)) (rA:FnAt P w K mg base 1 "learn" ["known","more"] (qM K)) (Bt:uM mg):cX P w K mg base jx 3 f fd ["web","named","knowns","place"] (Ai K):=by
 refine F.ok gH (fun vs H Q E h=> ?_) (fun cdv A outer s H vs Q E hr h=> ?_)
 ·obtain ⟨a,nd,kn,ws,j,rfl,_⟩:=h
  rfl
 ·obtain ⟨a,nd,kn,ws,j,rfl,W,N,Kn,jl,wl,qT,k⟩:=h
  have hu:=jr hr
  refine ⟨_,(aB (aO (i:=4) gH.nd rfl (Or.inl rfl) (fu aq))
   (aB (aO (i:=5) gH.nd rfl (Or.inl rfl) yF)
   (aB (d8 PassesOwn.never rfl (Fy (by rfl) Bt.ju (aj (bx Az (pv 3) aA) (aj (Iv z_ aA) (aj (Iv z_ aA) aq)))) (aV (i:=6) gH.nd rfl (Or.inl rfl))
   (aH (fU (PW.pt (wu (gZ (aU GQ (hr.mono (by decide)) (by rfl) (aj (pv 0) (aj (pv 6) (aj (pv 3) aq))))) (qO (lC (gZ (aU nG (hr.mono (by decide)) (by rfl) (aj (aK (aP (K:=K) rfl) (pv 1) (pv 6) (fun _ _=>rfl)) (aj (pv 5) aq)))))))) (aB (dN (d_ (K:=K) rfl (pv 4) (aj (pv 6) aq)))
   (aH (dN (aU rA (hr.mono (by decide)) (by rfl) (aj (pv 5) (aj (aK (aP (K:=K) rfl) (pv 2) (pv 6) (fun _ _=>rfl)) aq)))))) cG)))
   (aB (dN (aU rA (hr.mono (by decide)) (by rfl) (aj (pv 5) (aj (Di (yD (aK (aM (K:=K) rfl) (aK (aP (K:=K) rfl) (pv 1) (pv 3) (fun _ _=>rfl)) aA (fun _ _=>rfl)) (bx dj (aK (aM (K:=K) rfl) (aK (aP (K:=K) rfl) (pv 1) (pv 3) (fun _ _=>rfl)) aA (fun _ _=>rfl)) aA) Dg) rfl rfl (by simp) (by decide)) aq))))
   (aH (aZ (iW (aj (pv 4) (aj (pv 5) aq))))))))), ?_⟩
  refine ⟨(by show 0<=sizeLine;decide),fun b hb=> ?_⟩;have s1:=aC (o:=HO.lst []) hb;intro d hd;have s2:=aC (o:=HO.dK []) hd;have s12:=s1.trans s2;have hd0:H d=none:=s1.free hd;have yJ:b≠d:=au ak hd;refine ⟨_,rfl,_,_,rfl,rfl,_,rfl,_,rfl,(j:Int) - 1, -1,rfl,⟨by (clear yJ hd0 hd hb hu wl jl;omega),by (clear yJ hd0 hd hb hu;omega),by (clear yJ hd0 hd hb hu wl jl;omega),by (clear yJ hd0 hd hb hu wl jl;omega)⟩, ?_⟩;have en:((j:Int) - 1 - (-1)).toNat=j:=by (clear yJ hd0 hd hb hu wl jl;omega)
  rw [en]
  refine BL (hi:=(j:Int) - 1) (n:=j) (fun i σ H2=>∃(x1:Option V) (g:Int->Int),σ=[some (.ref a),some (.ref nd),some (.ref kn),some (.int j),some (.ref b),some (.ref d),x1]/\Same H H2/\H2 b=some (.lst (j9 (fH ws j i)))/\fY H2 d g/\GJ ws g (G9 ws j (j - i)) /\ ∀h,g h<=cnt (ws.take j) h)
   ⟨none,fun _=>0,rfl,s12,s2 _ _ (by rw [ak];rfl),RK ak,⟨fun m x ex=>⟨fun z=> ?_,fun ⟨x,x1,x2,_⟩=> ?_⟩,fun h=>jY _ _⟩⟩ ?_ ?_
  ·have:=jY (ws.take m) x.1
   have z:cnt (ws.take m) x.1<0:=z;omega
  ·have:=(oM x2).1
   omega
  ·rintro i σ H2 hi ⟨x1,g,rfl,sm,hb2,kd,kp,bd⟩
   have ee:(j:Int) - 1 - (i:Int)=((j - 1 - i:Nat):Int):=by (clear hb2 en yJ hd0 hd hb hu wl jl;omega)
   rw [ee];have bs:=Cm ws j i;have bl:=pP ws j i;generalize he:j - 1 - i=e at bs;have el:e<ws.length:=by (clear bs bl ee hb2 hi en yJ hd0 hd hb hu wl;omega)
   have e1:j - i=e+1:=by (clear el bs bl ee hb2 en yJ hd0 hd hb hu wl jl;omega)
   have e2:j - (i+1)=e:=by (clear e1 el bs bl ee hb2 hi en yJ hd0 hd hb hu wl jl;omega)
   rw [e1] at kp;rw [e2];obtain ⟨x,ex⟩:∃x,ws[e]? = some x:=⟨ws[e],by simp [el]⟩;refine ⟨_,rfl,_,rfl,_,rfl,a,ws,e,j,rfl,W.same sm,el,jl,_,rfl, ?_⟩
   by_cases st:qK ws e j=true
   ·rw [st]
    refine fG ?_;obtain ⟨ns,t,hn,en,ht⟩:=oZ (N.same sm) (jV ex);refine ⟨_,rfl,_,rfl,_,_,_,_,rfl,rfl,bh.of hn,dO en,_,rfl,t,d,_,_,g,rfl,ht,kd,_,rfl, ?_⟩;have kx:=kp e x ex
    by_cases kk:G9 ws j (e+1) e
    ·rw [decide_eq_true (kx.mpr kk)]
     refine fL ?_;have nb:¬Bare ws j e:=fun z=>z.2 kk;rw [if_neg nb,List.append_nil] at bs;exact ⟨_,g,rfl,sm,by rw [bs];exact hb2,kd,kp.iff fun m=>Gu kk,bd⟩
    ·rw [decide_eq_false (fun z=>kk (kx.mp z))]
     refine fG ?_;have nb:Bare ws j e:=⟨st,kk⟩;rw [if_pos nb] at bs;refine ⟨_,rfl,.inl ⟨rfl,_,bh.of hb2⟩,_,rfl,b,_,_,rfl,rfl,hb2,by rw [j9,List.length_map,sizeLine_eq];(clear kk kx ht en hn st ex e2 e1 el bs he ee hb2 yJ hd0 hd hb hu;omega), ?_⟩;have k3:Kp b H2 (upd H2 b (.lst (j9 (fH ws j i)++[V.int (e:Int)]))):=Kp.set;obtain ⟨rs,hk,rl,rq⟩:=id (Kn.same sm);have er:e<rs.length:=by (clear hk kk kx ht en hn st ex e2 e1 el bs bl ee hb2 yJ hd0 hd hb hu wl jl;omega)
     obtain ⟨r,err⟩:∃r,rs[e]? = some r:=⟨rs[e],by simp [er]⟩;obtain ⟨ge,kde,kne⟩:=rq e r err
     have nkb:kn≠b:=by
      obtain ⟨_,hk0,_⟩:=Kn;exact au hk0 hb
     obtain ⟨_,hre,_⟩:=kde.ex;have nrb:r≠b:=dB hre hb2 (by intro z;cases z)
     have Vf:d≠r:=by
      obtain ⟨rs0,hk0,_,rq0⟩:=Kn
      have er0:rs=rs0:=by
       have:=(sm _ _ hk0).symm.trans hk;injection this with this
       injection this with this
       exact (List.map_inj_right (fun x y e=>by injection e)).mp this.symm
      subst er0;obtain ⟨g0,X3,_⟩:=rq0 e r err;obtain ⟨_,h0,_⟩:=X3.ex;exact (au h0 hd0).symm
     have hk3:=k3 _ _ hk nkb;have kd3:=kd.kp k3 yJ.symm;have abS:=kde.kp k3 nrb;refine ⟨_,rfl,_,rfl,_,rfl,_,_,_,_,rfl,rfl,bh.of hk3,dO (by rw [List.getElem?_map,err];rfl),d,r,g,ge,rfl,kd3,abS,Vf,fun H4 kd4 k4=> ?_⟩;refine ⟨_,_,rfl,fun y u hy=>k4 _ _ (k3 _ _ (sm _ _ hy) (au hy hb)) (au hy hd0), ?_,kd4, ?_,fun h=> ?_⟩
     ·have:=k4 _ _ (ak (H:=H2) (a:=b) (o:= .lst (j9 (fH ws j i)++[V.int (e:Int)]))) yJ
      rw [this,bs];unfold j9;rw [List.map_append];rfl
     ·exact (DK kp kne.1).iff fun m=>Oc st
     ·have b1:=bd h
      have b2:=kne.2 h;have b3:=lF ws h (e+1) (j - (e+1));rw [show e+1+(j - (e+1))=j by (clear b3 b2 b1 hk3 Vf nrb hre nkb err er rl hk kk kx ht en hn st ex e2 e1 el bs bl ee hb2 yJ hd0 hd hb hu wl jl;omega)] at b3;show mx _ _<=_;unfold mx;split<;>(clear hk3 Vf nrb hre nkb err er rl hk kk kx ht en hn st ex e2 e1 el bs he bl ee hb2 hi yJ hd0 hd hb hu wl jl;omega)
   ·have st':qK ws e j=false:=by simpa using st
    rw [st'];refine fL ?_;have nb:¬Bare ws j e:=fun z=>st z.1;rw [if_neg nb,List.append_nil] at bs;exact ⟨_,g,rfl,sm,by rw [bs];exact hb2,kd,kp.iff fun m=>Ks st,bd⟩
  ·rintro σ H2 ⟨x1,g,rfl,sm,hb2,kd,kp,bd⟩
   rw [Nat.sub_self] at kp;obtain ⟨y,ey⟩:∃y,ws[j]? = some y:=⟨ws[j],by simp [jl]⟩;obtain ⟨y0,y1⟩:=qT y (List.mem_of_getElem? ey);obtain ⟨ns,t,hn,en,ht⟩:=oZ (N.same sm) (jV ey);refine ⟨_,rfl,fun m hm=> ?_⟩;have s3:=aC (o:=HO.dK []) hm;refine ⟨_,rfl,_,rfl,_,_,_,_,rfl,rfl,bh.of (s3 _ _ hn),dO en,_,_,_,_,rfl,rfl,cJ.of (s3 _ _ ht),rfl,_,rfl,_,rfl,_,_,_,_,rfl,rfl,bh.of (s3 _ _ hn),dO en,_,_,_,_,rfl,rfl,cJ.of (s3 _ _ ht),rfl,_,_,rfl,rfl,ak,[(Sum.inl y.1,V.int (cnt (ws.take j) y.1+1))],rfl,by show 1<=15;decide, ?_⟩
   have e1:upd (upd H2 m (.dK [])) m (.dK (mY [] [(Sum.inl y.1,V.int (cnt (ws.take j) y.1+1))]))=upd H2 m (.dK (qb [y.1] fun x=>if x=y.1 then cnt (ws.take j) y.1+1 else 0)):=by
    rw [vO];congr 2;show [(Sum.inl y.1,V.int (cnt (ws.take j) y.1+1))]=_;simp [qb]
   rw [e1];have s4:Same H2 (upd H2 m (.dK (qb [y.1] fun x=>if x=y.1 then cnt (ws.take j) y.1+1 else 0))):=aC hm
   have hmd:d≠m:=by
    obtain ⟨_,h,_⟩:=kd.ex;exact au h hm
   have kdm:fY (upd H2 m (.dK (qb [y.1] fun x=>if x=y.1 then cnt (ws.take j) y.1+1 else 0))) m (fun x=>if x=y.1 then cnt (ws.take j) y.1+1 else 0):=by
    refine ⟨⟨[y.1],ak,by simp,fun h hh=> ?_,fun h hh=> ?_⟩,fun h=> ?_⟩
    ·have:h=y.1:=by simpa using hh
     subst this;exact ⟨y0,y1⟩
    ·have:h≠y.1:=by simpa using hh
     rw [if_neg this]
    ·have:=jY (ws.take j) y.1
     show (0:Int)<=if h=y.1 then _ else 0;split<;>(clear hmd e1 hm ht en hn y1 y0 ey hb2 yJ hd0 hd hb hu wl jl;omega)
   refine ⟨d,m,g,_,rfl,kd.same s4,kdm,hmd,fun H5 kd5 k5=> ?_⟩;have hb5:H5 b=some (.lst (j9 (fH ws j j))):=k5 _ _ (s4 _ _ hb2) yJ;refine ⟨_,rfl,_,rfl,(by show 2<=sizeLine;decide),fun p hp=> ?_⟩;have s6:=aC (o:=HO.tup [V.ref b,V.ref d]) hp;have s05:Same H H5:=fun y u hy=>k5 _ _ (s4 _ _ (sm _ _ hy)) (au hy hd0);exact k p b d _ _ ak (s6 _ _ hb5) (kd5.same s6) (Ng (kp.iff fun m=>Ob) bd ey) hb hd0 (s05.free hp) (s05.trans s6)
def nK (x:Nt):List Int:=[x.1,x.2.1,x.2.2.1,x.2.2.2]
theorem Rk (x:Nt):(nK x).map V.int=nV x:=rfl
theorem Rm {x y:Nt} (h:nK x=nK y):x=y:=by
 obtain ⟨a,b,c,d⟩:=x;obtain ⟨a',b',c',d'⟩:=y;simp only [nK,List.cons.injEq,and_true] at h;obtain ⟨rfl,rfl,rfl,rfl⟩:=h;rfl
def GF (ns:List Nt):Prop:=ns.Pairwise fun x y=>Tim.eY (nK y) (nK x)=false
theorem uV:∀{a b:List Nt},a.Perm b->GF a->GF b->a=b
 | [],_,p,_,_=>p.nil_eq
 | x::r,b,p,ha,hb=>by
   cases b with
   | nil=>exact absurd p.length_eq (by simp)
   | cons y t=>
     have hx:x∈y::t:=p.mem_iff.mp (.head _);have hy:y∈x::r:=p.mem_iff.mpr (.head _)
     have e:x=y:=by
      rcases List.mem_cons.mp hx with h|h
      ·exact h
      ·rcases List.mem_cons.mp hy with h'|h'
       ·exact h'.symm
       ·exact Rm (Tim.sS _ _ ((List.pairwise_cons.mp hb).1 x h) ((List.pairwise_cons.mp ha).1 y h'))
     subst e;rw [uV (List.perm_cons _ |>.mp p) (List.pairwise_cons.mp ha).2 (List.pairwise_cons.mp hb).2]
def vInt:V->Int
 | .int n=>n
 | _=>0
def tupK (H:Hp) (v:V):List Int:=match v with
 | .ref t=>match H t with
   | some (.tup xs)=>xs.map vInt
   | _=>[]
 | _=>[]
def toN:List Int->Nt
 | [a,b,c,d]=>(a,b,c,d)
 | _=>(0,0,0,0)
theorem lR {H:Hp} {t:Addr} {x:Nt} (h:H t=some (.tup (nV x))):tupK H (.ref t)=nK x:=by
 unfold tupK;dsimp only;rw [h];rfl
theorem Ht (x:Nt):toN (nK x)=x:=rfl
theorem wD {H:Hp} {vs:List V} {ns:List Nt} (d:aD H vs (ns.map nD)) {v:V} (hv:v∈vs):∃t x,v = .ref t/\x∈ns/\H t=some (.tup (nV x)):=by
 obtain ⟨i,hi,e⟩:=List.getElem_of_mem hv;obtain ⟨x,t,ex,ev,ht⟩:=jm d (i:=i) (v:=v) (by rw [List.getElem?_eq_getElem hi,e]);exact ⟨t,x,ev,List.mem_of_getElem? ex,ht⟩
theorem Dq {H:Hp}:∀{vs:List V} {ns:List Nt},aD H vs (ns.map nD)->vs.map (fun v=>toN (tupK H v))=ns
 | [],[],_=>rfl
 | [],_::_,h=>by simp only [List.map_cons,aD] at h
 | _::_,[],h=>by simp only [List.map_nil,aD] at h
 | v::vs,n::ns,h=>by
   simp only [List.map_cons,aD] at h;obtain ⟨t,rfl,ht⟩:=jX h.1;rw [List.map_cons,Dq h.2,lR ht,Ht]
theorem Ji {H:Hp}:∀{vs:List V},(∀v∈vs,∃t x,v=V.ref t/\H t=some (.tup (nV x)))->aD H vs ((vs.map fun v=>toN (tupK H v)).map nD)
 | [],_=>by simp [aD]
 | v::vs,h=>by
   obtain ⟨t,x,rfl,ht⟩:=h v (.head _);simp only [List.map_cons,aD];exact ⟨by rw [lR ht,Ht];exact jd ht,Ji fun v hv=>h v (.tail _ hv)⟩
theorem yg {K:PySem.W.Frag} {H:Hp} {p:Addr} {ns:List Nt} {Q:VK} (N:cg H p ns) (k:∀l ns' H',H l=none->cg H' l ns'->ns'.Perm ns->GF ns'->Same H H'->Q (.ref l) H'):Aq K [.ref p] H Q:=by
 obtain ⟨ys,hp,d⟩:=N;refine ⟨p,ys,4,tupK H,rfl,bh.of hp,by decide,fun y hy=> ?_,fun l zs hl pz sz=> ?_⟩
 ·obtain ⟨t,x,rfl,_,ht⟩:=wD d hy
  exact ⟨t,rfl,by rw [lR ht,Rk];exact cJ.of ht,by rw [lR ht];rfl⟩
 ·have sm:=aC (o:=HO.lst zs) hl
  have all:∀v∈zs,∃t x,v=V.ref t/\H t=some (.tup (nV x)):=fun v hv=>by
   obtain ⟨t,x,e,_,ht⟩:=wD d (pz.mem_iff.mp hv);exact ⟨t,x,e,ht⟩
  refine k l (zs.map fun v=>toN (tupK H v)) _ hl ⟨zs,ak,aD.keep sm.tups _ (aQ _ h_ _) (Ji all)⟩ ?_ ?_ sm
  ·rw [←Dq d]
   exact pz.map _
  ·unfold GF
   rw [List.pairwise_map];refine List.Pairwise.imp_of_mem (fun {x y} hx hy h=> ?_) sz;obtain ⟨t,a,rfl,ht⟩:=all x hx;obtain ⟨u,b,rfl,hu⟩:=all y hy;rw [lR ht,lR hu] at h ⊢;exact h
def bH (ws:List aW) (i j:Nat):Nt:=(hnd ws i,cnt (ws.take i) (hnd ws i),hnd ws j,cnt (ws.take j) (hnd ws j))
def gJ (ws:List aW) (j:Nat) (l:List Nat):List Nt:=(l.filter fun e=>decide (¬hnd ws e=hnd ws j)).map fun e=>bH ws e j
def oU (K:PySem.W.Frag):Sp:=fun vs H Q _=>∃(nd b t:Addr) (ws:List aW) (j:Nat) (l:List Nat),vs=[.ref nd,.ref b,.ref t]/\gj H nd (nm ws)/\H b=some (.lst (j9 l))/\H t=some (.tup [.int (hnd ws j),.int (cnt (ws.take j) (hnd ws j))])/\(∀e∈l,e<ws.length)/\l.length<=300 /\
 ∀(r:Addr) (H':Hp),H r=none->cg H' r (gJ ws j l)->Same H H'->Q (.ref r) H'
theorem Ss {α β:Type} (l:List α) (f:α->Option β):(List.range l.length).filterMap (fun i=>(l[i]?).bind f)=l.filterMap f:=by
 induction l with
 | nil=>rfl
 | cons x l ih=>
   rw [List.length_cons,List.range_succ_eq_map,List.filterMap_cons,List.filterMap_map,List.filterMap_cons];have e:List.filterMap ((fun i=>((x::l)[i]?).bind f)∘Nat.succ) (List.range l.length)=l.filterMap f:=by rw [←ih];rfl
   rw [e];rfl
theorem Bj (ws:List aW) (j:Nat) (l:List Nat):(l.filterMap fun e=>if hnd ws e=hnd ws j then none else some (nD (bH ws e j)))=(gJ ws j l).map nD:=by
 unfold gJ
 induction l with
 | nil=>rfl
 | cons e l ih=>
   rw [List.filterMap_cons,List.filter_cons]
   by_cases h:hnd ws e=hnd ws j
   ·rw [if_pos h]
    simp only [h,not_true_eq_false,decide_false,Bool.false_eq_true,if_false];exact ih
   ·rw [if_neg h]
    simp only [h,not_false_eq_true,decide_true,if_true,List.map_cons];rw [ih]
theorem Bc {f:Addr} {fd:FuncData} (F:kJ K "notes_to" "notes_to" dG f fd):cX P w K mg base jx 1 f fd ["named","bare","name"] (oU K):=by
 refine F.ok yh (fun vs H Q E h=> ?_) (fun cdv A outer s H vs Q E hr h=> ?_)
 ·obtain ⟨nd,b,t,ws,j,l,rfl,_⟩:=h
  rfl
 ·obtain ⟨nd,b,t,ws,j,l,rfl,N,hb,ht,el,ll,k⟩:=h
  refine ⟨_,(aH (aZ (fJ rfl (N:=["earlier","name","named"]) (own:=["earlier"]) (caps:=[2,0]) (aR.of (by kernel_rfl)) (bU (K:=K) rfl (pv 1)) (fun _ _ _ _=>(aV (i:=0) (show List.Nodup (["earlier","name","named"]:List Str) by decide +kernel) rfl (Or.inl rfl))) (fun _ _ _ _=>(ji (bZ uU (aK (aM (K:=K) rfl) (aK (aP (K:=K) rfl) (pv 2) (pv 0) (fun _ _=>rfl)) aA (fun _ _=>rfl)) (aK (aM (K:=K) rfl) (pv 1) aA (fun _ _=>rfl)) (bC _)))) (fun _ _ _ _=>(bx (rY (K:=K) rfl) (aK (aP (K:=K) rfl) (pv 2) (pv 0) (fun _ _=>rfl)) (pv 1)))))), ?_⟩;have il:(j9 l).length=l.length:=by rw [j9,List.length_map]
  refine ⟨_,rfl,b,rfl,⟨_,bh.of hb⟩,fun D hD=> ?_⟩;refine gC (K:=K) (xs:=j9 l) (fun i=>(l[i]?).bind fun e=>if hnd ws e=hnd ws j then none else some (nD (bH ws e j))) (fun i d h=> ?_) hD (bh.of hb) (by omega) (fun i x H2 G F hi s2 kG kF=> ?_) (fun H2 vs s2 e2 d2=> ?_)
  ·cases e:l[i]? with
   | none=>rw [e] at h;cases h
   | some z=>
     rw [e] at h;simp only [Option.bind_some] at h;split at h
     ·cases h
     ·cases h;rfl
  ·unfold j9 at hi
   rw [List.getElem?_map] at hi;cases e:l[i]? with
   | none=>rw [e] at hi;cases hi
   | some z=>
     rw [e] at hi;cases hi;have zl:=el z (List.mem_of_getElem? e);obtain ⟨x,ex⟩:∃x,ws[z]? = some x:=⟨ws[z],by simp [zl]⟩;have hx:=bO ex;obtain ⟨ns,tz,hn,en,htz⟩:=oZ (N.same s2) (jV ex);rw [←hx] at htz;refine ⟨_,rfl,_,rfl,_,_,_,_,rfl,rfl,bh.of hn,dO en,_,_,_,_,rfl,rfl,cJ.of htz,rfl,_,rfl,_,_,_,_,rfl,rfl,cJ.of (s2 _ _ ht),rfl,rfl,_,rfl, ?_⟩
     by_cases eh:hnd ws z=hnd ws j
     ·rw [show (!decide (V.int (hnd ws z)=V.int (hnd ws j)))=false by simp [eh]]
      refine fL ?_;exact kG _ (Same.refl _) (by rw [e];simp [eh])
     ·rw [show (!decide (V.int (hnd ws z)=V.int (hnd ws j)))=true by simp [eh]]
      refine fG ?_;refine ⟨_,rfl,_,rfl,_,_,_,_,rfl,rfl,bh.of hn,dO en,_,rfl,tz,t,_,_,rfl,rfl,cJ.of htz,cJ.of (s2 _ _ ht),by simp,by show 4<=sizeLine;decide,fun z=>absurd z (by simp),fun _ p hp=> ?_⟩;exact kF _ (nD (bH ws z j)) _ (aC hp) (by rw [e];simp [eh]) (jd (x:=bH ws z j) (by rw [ak];rfl))
  ·rw [il,Ss,Bj] at d2
   exact k D H2 hD ⟨vs,e2,d2⟩ s2
noncomputable def lH (ws:List aW) (n:Nat):List Nt:=(List.range n).flatMap fun j=>gJ ws j (fH ws j j)
theorem vK (ws:List aW) (n:Nat):lH ws (n+1)=lH ws n++gJ ws n (fH ws n n):=by
 unfold lH;rw [List.range_succ,List.flatMap_append];simp
theorem p7 (ws:List aW) (j:Nat) (l:List Nat):(gJ ws j l).length<=l.length:=by
 unfold gJ;rw [List.length_map];exact List.length_filter_le _ _
theorem um (ws:List aW):∀n,(lH ws n).length<=n*n
 | 0=>Nat.le_refl _
 | n+1=>by
   rw [vK,List.length_append];have h1:=um ws n;have h2:=Nat.le_trans (p7 ws n (fH ws n n)) (pP ws n n);have:(n+1)*(n+1)=n*n+n+n+1:=by rw [Nat.add_mul,Nat.mul_add];omega
   omega
theorem K7 {ws:List aW} {j i e:Nat} (h:e∈fH ws j i):e<j\/j=0:=by
 unfold fH at h;obtain ⟨h1,_⟩:=List.mem_filter.mp h;obtain ⟨t,_,rfl⟩:=List.mem_map.mp h1;omega
def vY (K:PySem.W.Frag):Sp:=fun vs H Q _=>∃(a:Addr) (ws:List aW),vs=[.ref a]/\bY H a ws/\ws.length<=300/\(∀x∈ws,0<=x.1/\x.1<8) /\
 ∀(r:Addr) (ns:List Nt) (H':Hp),H r=none->cg H' r ns->ns.Perm (lH ws ws.length)->GF ns->Same H H'->Q (.ref r) H'
theorem Jc {f:Addr} {fd:FuncData} (F:kJ K "notes" "notes" iC f fd) (j6:FnAt P w K mg base 1 "names" ["web"] (lU K)) (xr:FnAt P w K mg base 3 "bare_steps" ["web","named","knowns","place"] (Ai K)) (Cy:FnAt P w K mg base 1 "notes_to" ["named","bare","name"] (oU K)) (Bt:uM mg):cX P w K mg base jx 4 f fd ["web"] (vY K):=by
 refine F.ok iV (fun vs H Q E h=> ?_) (fun cdv A outer s H vs Q E hr h=> ?_)
 ·obtain ⟨a,ws,rfl,_⟩:=h
  rfl
 ·obtain ⟨a,ws,rfl,W,wl,qT,k⟩:=h
  refine ⟨_,(aB (aO (i:=1) iV.nd rfl (Or.inl rfl) (aU j6 (hr.mono (by decide)) (by rfl) (aj (pv 0) aq)))
   (aB (aO (i:=2) iV.nd rfl (Or.inl rfl) (fu aq))
   (aB (aO (i:=3) iV.nd rfl (Or.inl rfl) (fu aq))
   (aB (d8 PassesOwn.never rfl (nJ (K:=K) rfl (by rfl) Bt.jw (aj (pv 1) aq)) (nO (K:=K) (n:=2) rfl rfl (d9 (aV (i:=4) iV.nd rfl (Or.inl rfl)) (d9 (aV (i:=5) iV.nd rfl (Or.inl rfl)) nM)))
   (aB (aO (i:=6) iV.nd rfl (Or.inl rfl) (aU xr (hr.mono (by decide)) (by rfl) (aj (pv 0) (aj (pv 1) (aj (pv 2) (aj (pv 4) aq))))))
   (aB (dN (IK (K:=K) rfl PySem.F.plainAttrs_list PySem.F.slot_list_extend PySem.F.type_list_extend uW (pv 3) (aj (aU Cy (hr.mono (by decide)) (by rfl) (aj (pv 1) (aj (aK (aM (K:=K) rfl) (pv 6) aA (fun _ _=>rfl)) (aj (pv 5) aq)))) aq)))
   (aH (dN (d_ (K:=K) rfl (pv 2) (aj (aK (aM (K:=K) rfl) (pv 6) aA (fun _ _=>rfl)) aq)))))))
   (aH (aZ (bw (qg (K:=K) rfl) (by rfl) Bt.ug pO (aj (pv 3) aq)))))))), ?_⟩
  refine ⟨_,rfl,a,ws,rfl,W,by omega,fun nd H1 acH N s1=> ?_⟩;refine ⟨(by show 0<=sizeLine;decide),fun kn hkn=> ?_⟩;have s2:=aC (o:=HO.lst []) hkn;refine ⟨(by show 0<=sizeLine;decide),fun tl htl=> ?_⟩;have s3:=aC (o:=HO.lst []) htl;have zY:=(s1.trans s2).trans s3;have Nu:H kn=none:=s1.free hkn;have acA:H tl=none:=(s1.trans s2).free htl;have nkt:kn≠tl:=au ak htl;obtain ⟨vs,hv,dv⟩:=id N;have vl:vs.length=ws.length:=by rw [dv.length,List.length_map,dz]
  have nnk:nd≠kn:=au hv hkn;have nnt:nd≠tl:=au (s2 _ _ hv) htl;refine ⟨_,rfl,nd,vs,rfl,bh.of (s3 _ _ (s2 _ _ hv)), ?_⟩
  refine nZ (K:=K) (a:=nd) (xs:=vs) (fun j σ H3=>∃(x1 x2 x3:Option V),σ=[some (.ref a),some (.ref nd),some (.ref kn),some (.ref tl),x1,x2,x3]/\Same H H3/\H3 nd=some (.lst vs)/\gj H3 nd (nm ws)/\qp H3 kn ws j/\cg H3 tl (lH ws j))
   ⟨none,none,none,rfl,zY,s3 _ _ (s2 _ _ hv),(N.same s2).same s3,⟨[],s3 _ _ ak,rfl,fun j r hj=>by simp at hj⟩,⟨[],ak,by simp [lH,aD]⟩⟩ (fun i σ H3 _ ⟨_,_,_,_,_,e,_⟩=>bh.of e) ?_ ?_
  ·rintro j v σ H3 q hj ⟨x1,x2,x3,rfl,sm,hv3,N3,Kn,T⟩ hq
   have jl:j<ws.length:=by have:=(List.getElem?_eq_some_iff.mp hj).1;omega
   obtain ⟨y,ey⟩:∃y,ws[j]? = some y:=⟨ws[j],by simp [jl]⟩;have hy:=bO ey;obtain ⟨vs',t,hv',et,ht⟩:=oZ N3 (jV ey);have ev:vs'=vs:=by rw [hv3] at hv';injection hv' with z;injection z with z;exact z.symm
   subst ev;rw [hj] at et;cases et;rw [←hy] at ht;have sq:=aC (o:=HO.tup [V.int j,V.ref t]) hq;refine ⟨q,_,rfl,cJ.of ak,rfl,_,_,rfl,_,_,rfl,rfl, ?_⟩;refine ⟨_,rfl,_,rfl,_,rfl,_,rfl,a,nd,kn,ws,j,rfl,W.same (sm.trans sq),N3.same sq,Kn.same sq,jl,wl,qT,fun p b d g H4 hp hb kd ko hb0 hd0 hp0 s4=> ?_⟩;have QJ:=sq.trans s4;obtain ⟨ts,hts,Wk⟩:=id (T.same QJ)
   have el:∀e∈fH ws j j,e<ws.length:=fun e he=>by
    rcases K7 he with h|h
    ·omega
    ·subst h;simp [fH] at he
   have bl:=pP ws j j;refine ⟨_,rfl,.inl ⟨rfl,_,bh.of hts⟩,_,rfl,_,rfl,_,_,_,_,rfl,rfl,cJ.of hp,rfl,_,rfl,nd,b,t,ws,j,_,rfl,N3.same QJ,hb,QJ _ _ ht,el,by omega,fun r H5 hr0 NT s5=> ?_⟩;obtain ⟨QL,hrs,drs⟩:=NT;have tll:=um ws j;have l1:ts.length=(lH ws j).length:=by rw [Wk.length,List.length_map]
   have l2:QL.length=(gJ ws j (fH ws j j)).length:=by rw [drs.length,List.length_map]
   have l3:=p7 ws j (fH ws j j);have jj:j*j<=300*300:=Nat.mul_le_mul (by omega) (by omega);refine ⟨tl,r,_,_,rfl,rfl,s5 _ _ hts,hrs,by rw [sizeLine_eq];omega, ?_⟩;have k6:Kp tl H5 (upd H5 tl (.lst (ts++QL))):=Kp.set;have Np:=s5 _ _ hts;have t6:=k6.tups Np;obtain ⟨rs,hk,rl,rq⟩:=id (((Kn.same QJ).same s5).kp k6 Np nkt);have hp6:(upd H5 tl (.lst (ts++QL))) p=some (.tup [.ref b,.ref d]):=t6 _ _ (s5 _ _ hp);refine ⟨_,rfl,.inl ⟨rfl,_,bh.of hk⟩,_,rfl,_,_,_,_,rfl,rfl,cJ.of hp6,rfl,kn,_,_,rfl,rfl,hk,by rw [List.length_map,sizeLine_eq];omega, ?_⟩;have k7:Kp kn (upd H5 tl (.lst (ts++QL))) (upd (upd H5 tl (.lst (ts++QL))) kn (.lst (rs.map V.ref++[V.ref d]))):=Kp.set;have t7:=k7.tups hk
   have kd6:fY (upd H5 tl (.lst (ts++QL))) d g:=by
    obtain ⟨_,h,_⟩:=kd.ex;exact (kd.same s5).kp k6 (dB (s5 _ _ h) Np (by intro z;cases z))
   refine ⟨_,_,_,rfl,fun x u e=>k7 _ _ (k6 _ _ (s5 _ _ (QJ _ _ (sm _ _ e))) (au e acA)) (au e Nu), ?_, ?_, ?_, ?_⟩
   ·exact k7 _ _ (k6 _ _ (s5 _ _ (QJ _ _ hv3)) nnt) nnk
   ·exact (((N3.same QJ).same s5).kp Np k6 nnt).kp hk k7 nnk
   ·refine ⟨rs++[d],by rw [ak,List.map_append];rfl,by simp [rl],fun m r' hm=> ?_⟩
    by_cases hml:m<rs.length
    ·rw [List.getElem?_append_left hml] at hm
     obtain ⟨g',kd',ko'⟩:=rq m r' hm;obtain ⟨_,h,_⟩:=kd'.ex;exact ⟨g',kd'.kp k7 (dB h hk (by intro z;cases z)),ko'⟩
    ·have hm2:=(List.getElem?_eq_some_iff.mp hm).1
     rw [List.length_append,List.length_singleton] at hm2;have em:m=rs.length:=by omega
     subst em;rw [List.getElem?_append_right (Nat.le_refl _)] at hm;simp at hm;subst hm;rw [rl];obtain ⟨_,h,_⟩:=kd6.ex;exact ⟨g,kd6.kp k7 (dB h hk (by intro z;cases z)),ko⟩
   ·refine ⟨ts++QL,k7 _ _ ak nkt.symm, ?_⟩
    rw [vK,List.map_append];refine aD.append (aD.keep (fun a xs h=>t7 _ _ (t6 _ _ (s5.tups _ _ h))) _ (aQ _ h_ _) Wk) (aD.keep (fun a xs h=>t7 _ _ (t6 _ _ h)) _ (aQ _ h_ _) drs)
  ·rintro σ H3 ⟨x1,x2,x3,rfl,sm,hv3,N3,Kn,T⟩
   rw [vl] at T;exact ⟨_,rfl,yg T fun l ns H4 hl NN pp ss s4=>k l ns H4 (sm.free hl) NN pp ss (sm.trans s4)⟩
def inP (i:Int) (n:Nat):Prop:=0<=i/\i<(n:Int)
instance (i:Int) (n:Nat):Decidable (inP i n):=inferInstanceAs (Decidable (_/\_))
def Qw (K:PySem.W.Frag):Sp:=fun vs H Q _=>∃i:Int,vs=[.int i]/\Q (.bl true) H
theorem yH {f:Addr} {fd:FuncData} (F:kJ K "is_whole" "is_whole" dI f fd) (Bt:uM mg):cX P w K mg base jx 1 f fd ["value"] (Qw K):=by
 refine F.ok yp (fun vs H Q E h=> ?_) (fun cdv A outer s H vs Q E hr h=> ?_)
 ·obtain ⟨i,rfl,_⟩:=h
  rfl
 ·obtain ⟨i,rfl,k⟩:=h
  refine ⟨_,(aH (aZ (rW (bw (pN (K:=K) (cv:= .ty "int") (c:= .type "int") rfl rfl) (by rfl) Bt.j4 jy (aj (pv 0) (aj (wA (v:= .ty "int") (by rfl) Bt.K6 Ca rfl) aq))) (o8 (QZ (bw (pN (K:=K) (cv:= .ty "bool") (c:= .type "bool") rfl rfl) (by rfl) Bt.j4 jy (aj (pv 0) (aj (wA (v:= .ty "bool") (by rfl) Bt.Tc Oe rfl) aq)))))))), ?_⟩;refine ⟨_,rfl,_,_,true,rfl,.int i,yV K,true,rfl, ?_⟩;refine fG ?_;exact ⟨_,rfl,_,_,false,rfl,.int i,wI K,false,rfl,k⟩
theorem Gz {ws:List aW} {m n:Nat} (h:m<=n) (g:Int):cnt (ws.take m) g<=cnt (ws.take n) g:=by
 have e:ws.take n=ws.take m++(ws.take n).drop m:=by
  have:=List.take_append_drop m (ws.take n);rw [List.take_take,Nat.min_eq_left h] at this;exact this.symm
 unfold cnt;rw [e,List.filter_append,List.length_append];omega
theorem qU {ws:List aW} {i:Nat} {x:mF} (h:(nm ws)[i]? = some x):∃y,ws[i]? = some y/\x=(y.1,cnt (ws.take i) y.1):=by
 have il:i<ws.length:=by have:=(List.getElem?_eq_some_iff.mp h).1;rw [dz] at this;exact this
 have e:ws[i]? = some ws[i]:=by simp [il]
 rw [jV e] at h;exact ⟨ws[i],e,(Option.some.inj h).symm⟩
theorem O8 {ws:List aW} {i j:Nat} {x:mF} (hi:(nm ws)[i]? = some x) (hj:(nm ws)[j]? = some x):¬i<j:=fun lt=>by
 obtain ⟨y,ey,e1⟩:=qU hi;obtain ⟨z,ez,e2⟩:=qU hj;rw [e1] at e2;injection e2 with h1 h2
 have tk:ws.take (i+1)=ws.take i++[y]:=by rw [List.take_add_one,ey];rfl
 have m:=Gz (ws:=ws) (m:=i+1) (n:=j) lt y.1;rw [tk,gU,if_pos rfl] at m;rw [←h1] at h2;omega
theorem g_ {ws:List aW} {i j:Nat} {x:mF} (hi:(nm ws)[i]? = some x) (hj:(nm ws)[j]? = some x):i=j:=by
 have:=O8 hi hj;have:=O8 hj hi;omega
def kx (x:mF):List Key:=[Sum.inl x.1,Sum.inl x.2]
theorem Jz {x y:mF} (h:kx x=kx y):x=y:=by
 unfold kx at h;injection h with h1 h2
 injection h2 with h2 _
 have a:x.1=y.1:=Sum.inl.inj h1;have b:x.2=y.2:=Sum.inl.inj h2;exact Prod.ext a b
def Cu (kvs:List (List Key×V)) (ps:List mF):Prop:=(∀(m:Nat) (x:mF),ps[m]? = some x->cZ kvs (kx x)=some (.int m)) /\ ∀x:mF,x∉ps->cZ kvs (kx x)=none
def Fx (ps:List mF):List (List Key×V):=(List.range ps.length).filterMap fun m:Nat=>(ps[m]?).map fun x=>(kx x,V.int (m:Int))
theorem Ip (ps:List mF) (x:mF):Fx (ps++[x])=Fx ps++[(kx x,V.int (ps.length:Int))]:=by
 unfold Fx;rw [List.length_append,List.length_singleton,dg];congr 1
 ·refine jJ _ trivial fun m hm=> ?_
  have:m<ps.length:=by simpa using hm
  rw [List.getElem?_append_left this]
 ·simp
theorem Mr {ps:List mF} {m:Nat} {k:List Key} {v:V} (h:(Fx ps)[m]? = some (k,v)):∃x,ps[m]? = some x/\k=kx x/\v = .int (m:Int):=by
 have e:Fx ps=(List.range ps.length).map fun m:Nat=>(kx (ps[m]?.getD (0,0)),V.int (m:Int)):=by
  unfold Fx;rw [←List.filterMap_eq_map];refine jJ _ trivial fun m hm=> ?_;have:m<ps.length:=by simpa using hm
  simp [List.getElem?_eq_getElem this]
 rw [e,List.getElem?_map] at h
 have hm:m<ps.length:=by
  refine Decidable.byContradiction fun n=> ?_;rw [List.getElem?_eq_none (by simp;omega)] at h;cases h
 rw [List.getElem?_range hm] at h;cases h;exact ⟨ps[m],by simp [hm],by simp [hm],rfl⟩
theorem Mq (ps:List mF):(Fx ps).length=ps.length:=by
 have e:Fx ps=(List.range ps.length).map fun m:Nat=>(kx (ps[m]?.getD (0,0)),V.int (m:Int)):=by
  unfold Fx;rw [←List.filterMap_eq_map];refine jJ _ trivial fun m hm=> ?_;have:m<ps.length:=by simpa using hm
  simp [List.getElem?_eq_getElem this]
 rw [e];simp
theorem Mj {kvs:List (List Key×V)} {k:List Key} {v:V} (h:cZ kvs k=none):putK kvs k v=kvs++[(k,v)]:=by
 unfold putK;rw [iT,h];rfl
def k_ (K:PySem.W.Frag):Sp:=fun vs H Q _=>∃(a:Addr) (ws:List aW),vs=[.ref a]/\bY H a ws/\ws.length<=300 /\ ∀(d:Addr) (kvs:List (List Key×V)) (H':Hp),H d=none->H' d=some (.dT kvs)->Cu kvs (nm ws)->kvs=Fx (nm ws)->Same H H'->Q (.ref d) H'
theorem FP {f:Addr} {fd:FuncData} (F:kJ K "places_of" "places_of" cT f fd) (j6:FnAt P w K mg base 1 "names" ["web"] (lU K)) (Bt:uM mg):cX P w K mg base jx 2 f fd ["web"] (k_ K):=by
 refine F.ok iB (fun vs H Q E h=> ?_) (fun cdv A outer s H vs Q E hr h=> ?_)
 ·obtain ⟨a,ws,rfl,_⟩:=h
  rfl
 ·obtain ⟨a,ws,rfl,W,wl,k⟩:=h
  have hu:=jr hr
  refine ⟨_,(aB (aO (i:=1) iB.nd rfl (Or.inl rfl) yE)
   (aB (d8 PassesOwn.never rfl (nJ (K:=K) rfl (by rfl) Bt.jw (aj (aU j6 (hr.mono (by decide)) (by rfl) (aj (pv 0) aq)) aq)) (nO (K:=K) (n:=2) rfl rfl (d9 (aV (i:=2) iB.nd rfl (Or.inl rfl)) (d9 (aV (i:=3) iB.nd rfl (Or.inl rfl)) nM)))
   (aH (wz hu (pv 1) (pv 3) (pv 2) rfl)))
   (aH (aZ (pv 1))))), ?_⟩
  intro d hd;have s1:=aC (o:=HO.dT []) hd;refine ⟨_,rfl,a,ws,rfl,W.same s1,by omega,fun p H2 hp PA s2=> ?_⟩;obtain ⟨vs,hp2,dv⟩:=id PA;have vl:vs.length=ws.length:=by rw [dv.length,List.length_map,dz]
  refine ⟨p,vs,rfl,bh.of hp2, ?_⟩;have XQ:d≠p:=au ak hp
  refine nZ (K:=K) (a:=p) (xs:=vs) (fun i σ H3=>∃(kvs:List (List Key×V)) (x1 x2:Option V),σ=[some (.ref a),some (.ref d),x1,x2]/\H3 d=some (.dT kvs)/\kvs.length<=i/\Cu kvs ((nm ws).take i)/\Kp d H2 H3/\kvs=Fx ((nm ws).take i))
   ⟨[],none,none,rfl,s2 _ _ ak,Nat.le_refl _,⟨fun m x e=>by simp at e,fun x _=>rfl⟩,Kp.refl _ _,by simp [Fx]⟩ (fun i σ H3 _ ⟨_,_,_,_,_,_,_,kp,_⟩=>bh.of (kp _ _ hp2 XQ.symm)) ?_ ?_
  ·rintro i v σ H3 q hi ⟨kvs,x1,x2,rfl,V_,kl,pl,kp,ek⟩ hq
   obtain ⟨x,t,ex,rfl,ht⟩:=qQ dv hi;have il:=(List.getElem?_eq_some_iff.mp hi).1;have sq:=aC (o:=HO.tup [V.int i,V.ref t]) hq;have Yk:H3 t=some (.tup [.int x.1,.int x.2]):=kp _ _ ht (dB ht (s2 _ _ ak) (by intro z;cases z));refine ⟨q,_,rfl,cJ.of ak,rfl,_,_,rfl,_,_,rfl,rfl, ?_⟩;refine ⟨_,rfl,_,rfl,_,rfl,d,_,rfl,xG.t (k:=kx x) (sq _ _ V_) (sq _ _ Yk) (by rw [sizeLine_eq];omega), ?_⟩;have tk:(nm ws).take (i+1)=(nm ws).take i++[x]:=by rw [List.take_add_one,ex];rfl
   have tl:((nm ws).take i).length=i:=by rw [List.length_take,dz];omega
   refine ⟨putK kvs (kx x) (V.int i),_,_,rfl,ak, ?_,⟨fun m y e=> ?_,fun y hy=> ?_⟩,fun b o e nb=> ?_, ?_⟩
   ·exact Nat.le_trans (eE ..) (by omega)
   ·rw [jA]
    rw [tk] at e
    by_cases hm:m<i
    ·rw [List.getElem?_append_left (by omega)] at e
     have ne:¬kx y=kx x:=fun z=>by
      have z:=Jz z;subst z;have e':(nm ws)[m]? = some y:=by rw [List.getElem?_take_of_lt hm] at e;exact e
      have:=g_ e' ex;omega
     rw [if_neg ne];exact pl.1 m y e
    ·rw [List.getElem?_append_right (by omega),tl] at e
     have ml:m - i<1:=(List.getElem?_eq_some_iff.mp e).1;have:m=i:=by omega
     subst this;rw [Nat.sub_self] at e;cases e;rw [if_pos rfl]
   ·rw [tk] at hy
    have n1:y∉(nm ws).take i:=fun z=>hy (List.mem_append.mpr (.inl z));have n2:y≠x:=fun z=>hy (List.mem_append.mpr (.inr (by rw [z];simp)));rw [jA,if_neg (fun z=>n2 (Jz z))];exact pl.2 y n1
   ·rw [aJ nb]
    exact sq _ _ (kp _ _ e nb)
   ·have nx:x∉(nm ws).take i:=fun z=>by
     obtain ⟨m,em⟩:=List.getElem?_of_mem z;have hm:m<i:=by have:=(List.getElem?_eq_some_iff.mp em).1;rw [List.length_take] at this;omega
     rw [List.getElem?_take_of_lt hm] at em;have:=g_ em ex;omega
    rw [Mj (pl.2 x nx),ek,tk,Ip,tl]
  ·rintro σ H3 ⟨kvs,x1,x2,rfl,V_,kl,pl,kp,ek⟩
   have e:(nm ws).take vs.length=nm ws:=by rw [vl,←dz ws,List.take_length]
   rw [e] at pl ek;exact ⟨_,rfl,k d kvs H3 hd V_ pl ek fun b o eb=>kp _ _ (s2 _ _ (s1 _ _ eb)) (au eb hd)⟩
theorem Ei (a b c d:V):fD [a,b,c,d] none (some 2)=[a,b]:=jK _ 2
theorem vo (a b c d:V):fD [a,b,c,d] (some 2) none=[c,d]:=zA _ 2
theorem wB {α:Type} (xs:List α) (h:xs.length=4):¬(HT.gb xs.length 0 none=0/\HT.gb xs.length xs.length (some 2)=xs.length):=by
 rw [h];decide
theorem o9 {α:Type} (xs:List α) (h:xs.length=4):¬(HT.gb xs.length 0 (some 2)=0/\HT.gb xs.length xs.length none=xs.length):=by
 rw [h];decide
def rH (K:PySem.W.Frag):Sp:=fun vs H Q _=>∃(t:Addr) (x:Nt),vs=[.ref t]/\H t=some (.tup (nV x)) /\ ∀H',Same H H'->Q (.bl (!decide (x.1=x.2.2.1))) H'
theorem Bg {f:Addr} {fd:FuncData} (F:kJ K "is_note" "is_note" eO f fd) (CG:FnAt P w K mg base 1 "is_whole" ["value"] (Qw K)) (Bt:uM mg):cX P w K mg base jx 2 f fd ["value"] (rH K):=by
 refine F.ok Ao (fun vs H Q E h=> ?_) (fun cdv A outer s H vs Q E hr h=> ?_)
 ·obtain ⟨t,x,rfl,_⟩:=h
  rfl
 ·obtain ⟨t,x,rfl,ht,k⟩:=h
  have Bv:=hr.units
  refine ⟨_,(aB (fU (PW.pt (yw (lC (gZ (bw (pN (K:=K) (cv:= .ty "tuple") (c:= .type "tuple") rfl rfl) (by rfl) Bt.j4 jy (aj (pv 0) (aj (wA (v:= .ty "tuple") (by rfl) Bt.Oh Ky rfl) aq))))) (wk (bZ uU (bw (bJ (K:=K) rfl) (by rfl) Bt.lG jf (aj (pv 0) aq)) aA (bC _))))) (aH (aZ jk)) cG)
   (aH (aZ (rW (bw (kh (K:=K) rfl rfl) (by rfl) Bt.PJ KD (aj (fJ rfl (N:=["number"]) (own:=["number"]) (caps:=[]) (aR.of (by kernel_rfl)) (Ms (K:=K) rfl (pv 0)) (fun _ _ _ _=>(aV (i:=0) (show List.Nodup (["number"]:List Str) by decide +kernel) rfl (Or.inl rfl))) (fun _ _ _ _=>iK) (fun _ _ _ _=>(aU CG (hr.mono (by decide)) (by rfl) (aj (pv 0) aq)))) aq)) (o8 (eX uU (aK (aM (K:=K) rfl) (pv 0) aA (fun _ _=>rfl)) (aK (aM (K:=K) rfl) (pv 0) aA (fun _ _=>rfl)) (bC _))))))), ?_⟩
  refine ⟨_,rfl,_,_,true,rfl,.tup ht,qC K,true,rfl, ?_⟩;refine fL ?_;refine ⟨_,rfl,t,_,rfl,.inr (cJ.of ht),rfl,_,rfl, ?_⟩;refine u6 (by rfl) ?_;refine ⟨_,rfl,t,rfl,⟨_,cJ.of ht⟩,fun D hD=> ?_⟩;refine Gv (K:=K) (fun i=>some (.bl true)) hD ht (by show 4<=100000;decide) (fun i v H2 G F hi s2 kG kF=> ?_) (fun H2 s2 e2=> ?_)
  ·obtain ⟨z,rfl⟩:∃z,v=V.int z:=by
    have hm:=List.mem_of_getElem? hi;simp only [nV,List.mem_cons,List.not_mem_nil,or_false] at hm;rcases hm with rfl|rfl|rfl|rfl<;>exact ⟨_,rfl⟩
   exact ⟨_,rfl,z,rfl,kF _ H2 (Same.refl _) rfl⟩
  ·refine ⟨D,[true,true,true,true],rfl,bh.of e2,true,rfl, ?_⟩
   refine fG ?_;refine ⟨_,rfl,_,_,_,_,rfl,rfl,cJ.of (s2 _ _ ht),rfl,_,rfl,_,_,_,_,rfl,rfl,cJ.of (s2 _ _ ht),rfl,rfl, ?_⟩
   have e:(!decide (V.int x.1=V.int x.2.2.1))=(!decide (x.1=x.2.2.1)):=by
    by_cases q:x.1=x.2.2.1
    ·simp [q]
    ·simp [q]
   show Q (.bl (!decide (V.int x.1=V.int x.2.2.1))) H2;rw [e];exact k H2 s2
theorem Kd (x y:Nt):PyData.eqv (nD x) (nD y)=decide (x=y):=by
 obtain ⟨a,b,c,d⟩:=x;obtain ⟨a',b',c',d'⟩:=y;simp only [nD,PyData.eqv,PyData.eqvAll,Bool.and_true]
 by_cases e1:a=a'
 ·subst e1
  by_cases e2:b=b'
  ·subst e2
   by_cases e3:c=c'
   ·subst e3
    by_cases e4:d=d'
    ·subst e4;simp
    ·simp [e4]
   ·simp [e3]
  ·simp [e2]
 ·simp [e1]
theorem jQ (ns:List Nt):SeqAt.shaped (.list (ns.map nD))=true:=
 pX nD 1 (by decide) (fun _ _=>rfl) (fun _ _=>by show (max 0 (max 0 (max 0 (max 0 0))))+1<=1;decide)
structure Qa (ws:List aW) (i j:Nat):Prop where
 lt:i<j
 jl:j<ws.length
 br:Bare ws j i
 ne:¬hnd ws i=hnd ws j
theorem Qa.st {ws:List aW} {i j:Nat} (h:Qa ws i j):qK ws i j=true:=h.br.1
theorem DP {ws:List aW} {i j:Nat} (h:Qa ws i j):bH ws i j∈lH ws ws.length:=by
 unfold lH;refine List.mem_flatMap.mpr ⟨j,List.mem_range.mpr h.jl, ?_⟩;unfold gJ fH;refine List.mem_map.mpr ⟨i,List.mem_filter.mpr ⟨List.mem_filter.mpr ⟨List.mem_map.mpr ⟨j - 1 - i,List.mem_range.mpr (by have:=h.lt;omega),by have:=h.lt;omega⟩,decide_eq_true h.br⟩,decide_eq_true h.ne⟩,rfl⟩
def n1 (x:Nt):mF:=(x.1,x.2.1)
def n2 (x:Nt):mF:=(x.2.2.1,x.2.2.2)
def kj (ws:List aW) (x:Nt) (i j:Nat):Prop:=x.1≠x.2.2.1/\(nm ws)[i]? = some (n1 x)/\(nm ws)[j]? = some (n2 x)/\i<j
def zT (ws:List aW) (x:Nt):Prop:=∃i j,kj ws x i j
def K9 (ws:List aW) (x:Nt):Prop:=∃i j y z,kj ws x i j/\ws[i]? = some y/\ws[j]? = some z/\mt y z=true
theorem Ds {α:Type} {x:α} {l:List α} (h:x∈l):∃i:Nat,l[i]? = some x:=List.getElem?_of_mem h
def nH (K:PySem.W.Frag):Sp:=fun vs H Q _=>∃(d t:Addr) (kvs:List (List Key×V)) (ws:List aW) (x:Nt),vs=[.ref d,.ref t]/\H d=some (.dT kvs)/\Cu kvs (nm ws)/\H t=some (.tup (nV x)) /\ ∀(bl:Bool) (H':Hp),(bl=true↔zT ws x)->Same H H'->Q (.bl bl) H'
theorem FJ {f:Addr} {fd:FuncData} (F:kJ K "is_strict" "is_strict" cV f fd) (GR:FnAt P w K mg base 2 "is_note" ["value"] (rH K)):cX P w K mg base jx 3 f fd ["places","note"] (nH K):=by
 refine F.ok v8 (fun vs H Q E h=> ?_) (fun cdv A outer s H vs Q E hr h=> ?_)
 ·obtain ⟨d,t,kvs,ws,x,rfl,_⟩:=h
  rfl
 ·obtain ⟨d,t,kvs,ws,x,rfl,hd,pl,ht,k⟩:=h
  have hu:=jr hr
  refine ⟨_,(aB (fU (PW.pt (yw (lC (gZ (aU GR (hr.mono (by decide)) (by rfl) (aj (pv 1) aq)))) (yw (Ik (uT hu (b_ (gG (K:=K) rfl) (pv 1) cW (cH aA)) (pv 0))) (wk (Ik (uT hu (b_ (gG (K:=K) rfl) (pv 1) (cH aA) cW) (pv 0))))))) (aH (aZ jk)) cG)
   (aH (aZ (eX IW (fV hu (pv 0) (b_ (gG (K:=K) rfl) (pv 1) cW (cH aA)) (fun _ _=>rfl)) (fV hu (pv 0) (b_ (gG (K:=K) rfl) (pv 1) (cH aA) cW) (fun _ _=>rfl)) (bC _))))), ?_⟩
  refine ⟨_,rfl,t,x,rfl,ht,fun H1 s1=>⟨_,rfl, ?_⟩⟩;have ht1:=s1 _ _ ht;have hd1:=s1 _ _ hd;have no:∀{H':Hp},Same H1 H' -> ¬zT ws x->Q (.bl false) H':=fun sm z=>k false _ ⟨fun w=>(by cases w),fun w=>absurd w z⟩ (s1.trans sm)
  by_cases hne:x.1=x.2.2.1
  ·rw [show (!decide (x.1=x.2.2.1))=false by simp [hne]]
   exact fG (no (Same.refl _) fun ⟨_,_,z,_⟩=>z hne)
  rw [show (!decide (x.1=x.2.2.1))=true by simp [hne]];refine fL ?_;refine ⟨_,rfl,_,rfl,_,_,rfl,cJ.of ht1,wB _ rfl,fun p1 hp1=> ?_⟩;rw [show fD (nV x) none (some 2)=[.int x.1,.int x.2.1] from Ei ..];have s2:=aC (o:=HO.tup [V.int x.1,V.int x.2.1]) hp1;refine ⟨_,rfl,d,_,rfl,iw.t (k:=kx (n1 x)) (s2 _ _ hd1) ak,_,rfl, ?_⟩
  by_cases m1:n1 x∈nm ws
  rotate_left
  ·rw [pl.2 _ m1]
   exact fG (no s2 fun ⟨i,j,_,z,_⟩=>m1 (List.mem_of_getElem? z))
  obtain ⟨i,ei⟩:=Ds m1;rw [pl.1 i _ ei];refine fL ?_;have xM:=s2 _ _ ht1;have hd2:=s2 _ _ hd1;refine ⟨_,rfl,_,rfl,_,_,rfl,cJ.of xM,o9 _ rfl,fun p2 hp2=> ?_⟩;rw [show fD (nV x) (some 2) none=[.int x.2.2.1,.int x.2.2.2] from vo ..];have s3:=aC (o:=HO.tup [V.int x.2.2.1,V.int x.2.2.2]) hp2;have UG:=s2.trans s3;refine ⟨_,rfl,d,_,rfl,iw.t (k:=kx (n2 x)) (s3 _ _ hd2) ak,_,rfl, ?_⟩
  by_cases m2:n2 x∈nm ws
  rotate_left
  ·rw [pl.2 _ m2]
   exact fG (no UG fun ⟨i,j,_,_,z,_⟩=>m2 (List.mem_of_getElem? z))
  obtain ⟨j,ej⟩:=Ds m2;rw [pl.1 j _ ej];refine fL ?_;refine ⟨_,rfl,_,rfl,_,rfl,_,_,rfl,cJ.of (s3 _ _ xM),wB _ rfl,fun p3 hp3=> ?_⟩;rw [show fD (nV x) none (some 2)=[.int x.1,.int x.2.1] from Ei ..];have s4:=aC (o:=HO.tup [V.int x.1,V.int x.2.1]) hp3;have OJ:=UG.trans s4;refine ⟨d,_,rfl,pl.1 i _ ei▸iw.t (k:=kx (n1 x)) (OJ _ _ hd1) ak, ?_⟩;refine ⟨_,rfl,_,rfl,_,rfl,_,_,rfl,cJ.of (OJ _ _ ht1),o9 _ rfl,fun p4 V3=> ?_⟩;rw [show fD (nV x) (some 2) none=[.int x.2.2.1,.int x.2.2.2] from vo ..];have s5:=aC (o:=HO.tup [V.int x.2.2.1,V.int x.2.2.2]) V3;have Uz:=OJ.trans s5;refine ⟨d,_,rfl,pl.1 j _ ej▸iw.t (k:=kx (n2 x)) (Uz _ _ hd1) ak,_,_,rfl,rfl, ?_⟩;refine k _ _ ?_ (s1.trans Uz);rw [decide_eq_true_iff];constructor
  ·intro z
   exact ⟨i,j,hne,ei,ej,by omega⟩
  ·rintro ⟨i',j',_,a,b,c⟩
   have:=g_ a ei;have:=g_ b ej;omega
theorem iy {ws:List aW} {i:Nat} (h:i<ws.length):(nm ws)[i]? = some (hnd ws i,cnt (ws.take i) (hnd ws i)):=by
 have e:ws[i]? = some ws[i]:=by simp [h]
 rw [jV e];rw [bO e]
def SE (ws:List aW) (ns:List Nt) (a b:Nat):Prop:=(a<b/\b<ws.length/\hnd ws a=hnd ws b/\cnt (ws.take b) (hnd ws b)=cnt (ws.take a) (hnd ws a)+1) \/ ∃x∈ns,kj ws x a b
theorem SE.lt {ws:List aW} {ns:List Nt} {a b:Nat} (h:SE ws ns a b):a<b/\b<ws.length:=by
 rcases h with ⟨h1,h2,_⟩|⟨x,_,_,_,h3,h4⟩
 ·exact ⟨h1,h2⟩
 ·have:=(List.getElem?_eq_some_iff.mp h3).1
  rw [dz] at this;exact ⟨h4,this⟩
def CV (K:PySem.W.Frag):Sp:=fun vs H Q _=>∃(d s:Addr) (kvs:List (List Key×V)) (ws:List aW) (ns:List Nt),vs=[.ref d,.ref s]/\H d=some (.dT kvs)/\Cu kvs (nm ws)/\cg H s ns/\ns.length<=100000/\(∀x∈ns,zT ws x) /\ ∀H',Same H H'->Q .non H'
theorem Rc {f:Addr} {fd:FuncData} (F:kJ K "check_strict" "check_strict" bT f fd) (lO:FnAt P w K mg base 3 "is_strict" ["places","note"] (nH K)) (Bt:uM mg):cX P w K mg base jx 4 f fd ["places","some"] (CV K):=by
 refine F.ok qx (fun vs H Q E h=> ?_) (fun cdv A outer s H vs Q E hr h=> ?_)
 ·obtain ⟨d,s,kvs,ws,ns,rfl,_⟩:=h
  rfl
 ·obtain ⟨d,sa,kvs,ws,ns,rfl,hd,pl,N,nl,st,k⟩:=h
  refine ⟨_,(aH (fU (lC (gZ (bw (kh (K:=K) rfl rfl) (by rfl) Bt.PJ KD (aj (fJ rfl (N:=["note","places"]) (own:=["note"]) (caps:=[0]) (aR.of (by kernel_rfl)) (bU (K:=K) rfl (pv 1)) (fun _ _ _ _=>(aV (i:=0) (show List.Nodup (["note","places"]:List Str) by decide +kernel) rfl (Or.inl rfl))) (fun _ _ _ _=>iK) (fun _ _ _ _=>(aU lO (hr.mono (by decide)) (by rfl) (aj (pv 1) (aj (pv 0) aq))))) aq)))) (aH yC) cG)), ?_⟩;obtain ⟨vs,hv,dv⟩:=id N;have vl:vs.length=ns.length:=by rw [dv.length,List.length_map]
  refine ⟨_,rfl,sa,rfl,⟨_,bh.of hv⟩,fun D hD=> ?_⟩;refine oA (K:=K) (a:=sa) (xs:=vs) (fun i=>(vs[i]?).map fun _=>V.bl true) hD (bh.of hv) (by omega) (fun i v H1 G F' hi s1 kG kF=> ?_) (fun H1 s1 e1=> ?_)
  ·obtain ⟨x,t,ex,rfl,ht⟩:=jm dv hi
   refine ⟨_,rfl,_,rfl,d,t,kvs,ws,x,rfl,s1 _ _ hd,pl,s1 _ _ ht,fun bl H2 hb s2=> ?_⟩;have:bl=true:=hb.mpr (st x (List.mem_of_getElem? ex));subst this;exact kF _ _ s2 (by rw [hi];rfl)
  ·rw [D_] at e1
   have e1':H1 D=some (.lst ((vs.map fun _=>true).map V.bl)):=by rw [e1,List.map_map];rfl
   refine ⟨D,_,rfl,bh.of e1',_,rfl, ?_⟩;rw [show (vs.map fun _=>true).all id=true by rw [List.all_eq_true];intro b hb;obtain ⟨_,_,rfl⟩:=List.mem_map.mp hb;rfl];exact (show if false=true then _ else _ from fL (k _ s1))
def uy (i j:Nat):mF:=((i:Int),(j:Int))
def Qx (K:PySem.W.Frag):Sp:=fun vs H Q _=>∃(d s:Addr) (kvs:List (List Key×V)) (ws:List aW) (ns:List Nt),vs=[.ref d,.ref s]/\H d=some (.dT kvs)/\kvs=Fx (nm ws)/\Cu kvs (nm ws)/\ws.length<=300/\cg H s ns/\ns.length<=90000/\(∀x∈ns,zT ws x) /\
 ∀(r:Addr) (es:List mF) H',H r=none->gj H' r es->es.length<=90300->(∀x∈es,∃a b,x=uy a b/\SE ws ns a b)->(∀a b,SE ws ns a b->uy a b∈es)->Same H H'->Q (.ref r) H'
theorem Rv (x:mF):(kx x).map kV=[.int x.1,.int x.2]:=rfl
theorem Bk {ws:List aW} {i:Nat} {x:mF} (e:(nm ws)[i]? = some x):i<ws.length/\x=(hnd ws i,cnt (ws.take i) (hnd ws i)):=by
 have hl:i<ws.length:=by have:=(List.getElem?_eq_some_iff.mp e).1;rwa [dz] at this
 rw [iy hl] at e;exact ⟨hl,(Option.some.inj e).symm⟩
theorem qW (ws:List aW) (h:Int):∀j,j<=ws.length->0<cnt (ws.take j) h -> ∃m,m<j/\hnd ws m=h/\cnt (ws.take m) h=cnt (ws.take j) h - 1
 | 0,_,hp=>by simp [cnt] at hp
 | j+1,hj,hp=>by
   have e:ws[j]? = some (ws[j]'(by omega)):=by simp
   have tk:ws.take (j+1)=ws.take j++[ws[j]'(by omega)]:=by rw [List.take_add_one,e];rfl
   rw [tk,gU] at hp ⊢
   by_cases q:h=(ws[j]'(by omega)).1
   ·rw [if_pos q]
    exact ⟨j,by omega,by rw [bO e,q],by omega⟩
   ·rw [if_neg q] at hp ⊢
    obtain ⟨m,m1,m2,m3⟩:=qW ws h j (by omega) hp;exact ⟨m,by omega,m2,m3⟩
def prv (ws:List aW) (i:Nat):Nat:=(nm ws).idxOf (hnd ws i,cnt (ws.take i) (hnd ws i) - 1)
theorem Av {ws:List aW} {i:Nat} (hi:i<ws.length) (hp:0<cnt (ws.take i) (hnd ws i)):(nm ws)[prv ws i]? = some (hnd ws i,cnt (ws.take i) (hnd ws i) - 1):=by
 obtain ⟨m,m1,m2,m3⟩:=qW ws (hnd ws i) i (by omega) hp;have hm:(hnd ws i,cnt (ws.take i) (hnd ws i) - 1)∈nm ws:=List.mem_of_getElem? (i:=m) (by rw [iy (show m<ws.length by omega),m2,m3]);have hl:=List.idxOf_lt_length_iff.mpr hm;unfold prv;rw [List.getElem?_eq_getElem hl,List.getElem_idxOf hl]
theorem QT {ws:List aW} {i:Nat} (ns:List Nt) (hi:i<ws.length) (hp:0<cnt (ws.take i) (hnd ws i)):SE ws ns (prv ws i) i:=by
 have e:=Av hi hp;obtain ⟨m,m1,m2,m3⟩:=qW ws (hnd ws i) i (by omega) hp;have e2:(nm ws)[m]? = some (hnd ws i,cnt (ws.take i) (hnd ws i) - 1):=by rw [iy (show m<ws.length by omega),m2,m3]
 rw [g_ e e2];exact .inl ⟨m1,hi,m2,by rw [m2,m3];omega⟩
theorem QD {ws:List aW} {a b:Nat} (h1:a<b) (h2:b<ws.length) (h3:hnd ws a=hnd ws b) (h4:cnt (ws.take b) (hnd ws b)=cnt (ws.take a) (hnd ws a)+1):0<cnt (ws.take b) (hnd ws b)/\a=prv ws b:=by
 have:=jY (ws.take a) (hnd ws a);refine ⟨by omega,g_ (x:=(hnd ws b,cnt (ws.take b) (hnd ws b) - 1)) ?_ (Av h2 (by omega))⟩;rw [iy (show a<ws.length by omega),h3];congr 2;rw [h3] at h4;omega
def p1 (ws:List aW) (x:Nt):Nat:=(nm ws).idxOf (n1 x)
def p2 (ws:List aW) (x:Nt):Nat:=(nm ws).idxOf (n2 x)
theorem Af {ws:List aW} {x:Nt} (h:zT ws x):kj ws x (p1 ws x) (p2 ws x):=by
 obtain ⟨i,j,ne,h1,h2,lt⟩:=h
 have get:∀{y:mF} {i:Nat},(nm ws)[i]? = some y->(nm ws)[(nm ws).idxOf y]? = some y:=fun {y i} e=>by
  have hl:=List.idxOf_lt_length_iff.mpr (List.mem_of_getElem? e);rw [List.getElem?_eq_getElem hl,List.getElem_idxOf hl]
 have e1:=get h1;have e2:=get h2;have q1:p1 ws x=i:=g_ e1 h1;have q2:p2 ws x=j:=g_ e2 h2;rw [q1,q2];exact ⟨ne,h1,h2,lt⟩
theorem kY {ws:List aW} {x:Nt} {i j i' j':Nat} (h:kj ws x i j) (h':kj ws x i' j'):i=i'/\j=j':=⟨g_ h.2.1 h'.2.1,g_ h.2.2.1 h'.2.2.1⟩
theorem Vc {f:Addr} {fd:FuncData} (F:kJ K "steps_by" "steps_by" dF f fd) (Bt:uM mg):cX P w K mg base jx 1 f fd ["places","some"] (Qx K):=by
 refine F.ok pY (fun vs H Q E h=> ?_) (fun cdv A outer s H vs Q E hr h=> ?_)
 ·obtain ⟨d,s,kvs,ws,ns,rfl,_⟩:=h
  rfl
 ·obtain ⟨d,sa,kvs,ws,ns,rfl,hd,ek,pl,wl,N,nl,st,k⟩:=h
  have hu:=jr hr
  refine ⟨_,(aB (Im (qP (i:=2) rfl pY.nd rfl (Or.inl rfl) (N:=["name","places"]) (own:=["name"]) (caps:=[0]) (aR.of (by kernel_rfl)) (Iu (pv 0)) (fun _ _ _ _=>(aV (i:=0) (show List.Nodup (["name","places"]:List Str) by decide +kernel) rfl (Or.inl rfl))) (fun _ _ _ _=>(ji (bZ I_ (aK (aM (K:=K) rfl) (pv 0) aA (fun _ _=>rfl)) aA (bC _)))) (fun _ _ _ _=>(iW (aj (fV hu (pv 1) (iW (aj (aK (aM (K:=K) rfl) (pv 0) aA (fun _ _=>rfl)) (aj (bx Az (aK (aM (K:=K) rfl) (pv 0) aA (fun _ _=>rfl)) aA) aq))) (fun _ _=>rfl)) (aj (fV hu (pv 1) (pv 0) (fun _ _=>rfl)) aq))))))
   (aB (dN (IK (K:=K) rfl PySem.F.plainAttrs_list PySem.F.slot_list_extend PySem.F.type_list_extend uW (pv 2) (aj (fJ rfl (N:=["note","places"]) (own:=["note"]) (caps:=[0]) (aR.of (by kernel_rfl)) (bU (K:=K) rfl (pv 1)) (fun _ _ _ _=>(aV (i:=0) (show List.Nodup (["note","places"]:List Str) by decide +kernel) rfl (Or.inl rfl))) (fun _ _ _ _=>iK) (fun _ _ _ _=>(iW (aj (fV hu (pv 1) (b_ (gG (K:=K) rfl) (pv 0) cW (cH aA)) (fun _ _=>rfl)) (aj (fV hu (pv 1) (b_ (gG (K:=K) rfl) (pv 0) (cH aA) cW) (fun _ _=>rfl)) aq))))) aq)))
   (aH (aZ (pv 2))))), ?_⟩
  have abP:kvs.length=ws.length:=by rw [ek,Mq,dz]
  refine ⟨_,rfl,d,kvs,rfl,hd,fun o D hD=> ?_⟩;have fz:(upd H d (.gM o (.dT kvs))) d=some (.gM o (.dT kvs)):=ak;have ndD:D≠d:=fun z=>by rw [z,ak] at hD;cases hD
  have hD0:H D=none:=by rwa [aJ ndD] at hD
  refine Gx (fun i=>if 0<cnt (ws.take i) (hnd ws i) then some (pD (uy (prv ws i) i)) else none) (fun i dd e=> ?_) hD fz (by omega) (fun i kk v b H1 G F' hi hb s1 kG kF=> ?_) (fun H1 vs s1 e1 d1=> ?_)
  ·by_cases z:0<cnt (ws.take i) (hnd ws i)
   ·rw [if_pos z] at e;cases e;rfl
   ·rw [if_neg z] at e;cases e
  ·rw [ek] at hi
   obtain ⟨x,ex,rfl,rfl⟩:=Mr hi;obtain ⟨il,rfl⟩:=Bk ex;rw [Rv] at hb;refine ⟨_,rfl,_,_,_,_,rfl,rfl,cJ.of hb,rfl,_,_,rfl,rfl,_,rfl, ?_⟩;refine JN (fun hp=> ?_) (fun hp=> ?_)
   ·have hp:0<cnt (ws.take i) (hnd ws i):=of_decide_eq_true hp
    have epv:=Av il hp;refine ⟨_,rfl,_,rfl,_,_,_,_,rfl,rfl,cJ.of hb,rfl,_,rfl,_,_,_,_,rfl,rfl,cJ.of hb,rfl,_,_,rfl,rfl,(by show 2<=sizeLine;decide),fun u hu'=> ?_⟩;have su:=aC (o:=HO.tup [V.int (hnd ws i),V.int (cnt (ws.take i) (hnd ws i) - 1)]) hu';refine ⟨d,V.int (prv ws i:Nat),rfl,.inr ⟨kvs,kx (hnd ws i,cnt (ws.take i) (hnd ws i) - 1),u,.inr ⟨o,su _ _ (s1 _ _ fz)⟩,rfl,ak,(pl.1 _ _ epv).symm⟩, ?_⟩;refine ⟨_,rfl,_,rfl,d,V.int (i:Nat),rfl,.inr ⟨kvs,kx (hnd ws i,cnt (ws.take i) (hnd ws i)),b,.inr ⟨o,su _ _ (s1 _ _ fz)⟩,rfl,su _ _ hb,(pl.1 _ _ ex).symm⟩,(by show 2<=sizeLine;decide),fun w hw=> ?_⟩;have sw:=aC (o:=HO.tup [V.int (prv ws i:Nat),V.int (i:Nat)]) hw;exact kF _ (pD (uy (prv ws i) i)) _ (su.trans sw) (if_pos hp) (ou (x:=uy (prv ws i) i) ak)
   ·have hp:¬0<cnt (ws.take i) (hnd ws i):=fun z=>hp (decide_eq_true z)
    exact kG _ (Same.refl _) (if_neg hp)
  ·
   have fz1:=s1 _ _ fz;refine ⟨_,⟨d,kvs,o,kvs,hd,fz1,rfl⟩, ?_⟩
   have sm:Same H (upd H1 d (.dT kvs)):=fun b u e=>by
    by_cases q:b=d
    ·subst q;rw [hd] at e;cases e;exact ak
    ·rw [aJ q];exact s1 _ _ (by rw [aJ q];exact e)
   have tk:∀a xs,H1 a=some (HO.tup xs)->(upd H1 d (.dT kvs)) a=some (HO.tup xs):=fun a xs h=>by
    have:a≠d:=fun z=>by rw [z,fz1] at h;cases h
    rw [aJ this];exact h
   have e2:(upd H1 d (.dT kvs)) D=some (.lst vs):=by rw [aJ ndD];exact e1
   have hfl:(List.range kvs.length).filterMap (fun i=>if 0<cnt (ws.take i) (hnd ws i) then some (pD (uy (prv ws i) i)) else none)=((List.range ws.length).filterMap fun i=>if 0<cnt (ws.take i) (hnd ws i) then some (uy (prv ws i) i) else none).map pD:=by
    rw [abP,List.map_filterMap];refine jJ _ trivial fun i _=> ?_;split<;>rfl
   rw [hfl] at d1;have P2:gj (upd H1 d (.dT kvs)) D ((List.range ws.length).filterMap fun i=>if 0<cnt (ws.take i) (hnd ws i) then some (uy (prv ws i) i) else none):=⟨vs,e2,aD.keep tk _ (aQ _ jc _) d1⟩;have hd2:(upd H1 d (.dT kvs)) d=some (.dT kvs):=ak;have len1:=nj (fun i:Nat=>if 0<cnt (ws.take i) (hnd ws i) then some (uy (prv ws i) i) else none) ws.length;generalize upd H1 d (.dT kvs)=H2 at sm P2 hd2 ⊢;clear e2 tk;have N2:=N.same sm;obtain ⟨nv,G6,G7⟩:=id N2;have TQ:nv.length=ns.length:=by rw [G7.length,List.length_map]
   obtain ⟨v2,hv2,dv2⟩:=id P2;have v2l:v2.length<=ws.length:=by rw [dv2.length,List.length_map];exact len1
   refine ⟨_,rfl,.inl ⟨rfl,_,bh.of hv2⟩,_,rfl,sa,rfl,⟨_,bh.of G6⟩,fun D2 hD2=> ?_⟩;have nDD:D≠D2:=au hv2 hD2;refine gC (K:=K) (fun i=>(ns[i]?).map fun x=>pD (uy (p1 ws x) (p2 ws x))) (fun i dd e=> ?_) hD2 (bh.of G6) (by omega) (fun i v H3 G F' hi s3 kG kF=> ?_) (fun H3 us s3 e3 d3=> ?_)
   ·cases ex:ns[i]? with
    | none=>rw [ex] at e;cases e
    | some x=>rw [ex] at e;cases e;rfl
   ·obtain ⟨x,t,ex,rfl,ht⟩:=jm G7 hi
    have sx:=Af (st x (List.mem_of_getElem? ex));have Yk:=s3 _ _ ht;refine ⟨_,rfl,_,rfl,_,rfl,t,_,rfl,cJ.of Yk,wB _ rfl,fun u hu'=> ?_⟩;rw [show fD (nV x) none (some 2)=[V.int x.1,V.int x.2.1] from Ei _ _ _ _];have su:=aC (o:=HO.tup [V.int x.1,V.int x.2.1]) hu';refine ⟨d,V.int (p1 ws x:Nat),rfl,by rw [←pl.1 _ _ sx.2.1];exact iw.t (su _ _ (s3 _ _ hd2)) ak, ?_⟩;refine ⟨_,rfl,_,rfl,_,rfl,t,_,rfl,cJ.of (su _ _ Yk),o9 _ rfl,fun w hw=> ?_⟩;rw [show fD (nV x) (some 2) none=[V.int x.2.2.1,V.int x.2.2.2] from vo _ _ _ _];have sw:=aC (o:=HO.tup [V.int x.2.2.1,V.int x.2.2.2]) hw;refine ⟨d,V.int (p2 ws x:Nat),rfl,by rw [←pl.1 _ _ sx.2.2.1];exact iw.t (sw _ _ (su _ _ (s3 _ _ hd2))) ak,(by show 2<=sizeLine;decide),fun y hy=> ?_⟩;have sy:=aC (o:=HO.tup [V.int (p1 ws x:Nat),V.int (p2 ws x:Nat)]) hy;exact kF _ (pD (uy (p1 ws x) (p2 ws x))) _ ((su.trans sw).trans sy) (by rw [ex];rfl) (ou (x:=uy (p1 ws x) (p2 ws x)) ak)
   ·rw [TQ,D_] at d3
    have d3':aD H3 us ((ns.map fun x=>uy (p1 ws x) (p2 ws x)).map pD):=by rw [List.map_map];exact d3
    have hD3:=s3 _ _ hv2;have dv3:=aD.keep s3.tups _ (aQ _ jc _) dv2;have Ey:us.length=ns.length:=by rw [d3'.length,List.length_map,List.length_map]
    refine ⟨D,D2,_,_,rfl,rfl,hD3,e3,by rw [sizeLine_eq];omega, ?_⟩;have kD:Kp D H3 (upd H3 D (.lst (v2++us))):=Kp.set;have tD':=kD.tups hD3;refine ⟨_,rfl,k D (((List.range ws.length).filterMap fun i=>if 0<cnt (ws.take i) (hnd ws i) then some (uy (prv ws i) i) else none)++ns.map fun x=>uy (p1 ws x) (p2 ws x)) _ hD0 ⟨v2++us,ak, ?_⟩ ?_ (fun x hx=> ?_) (fun a b h=> ?_) (fun b u e=>kD _ _ (s3 _ _ (sm _ _ e)) (au e hD0))⟩
    ·rw [List.map_append]
     exact aD.append (aD.keep tD' _ (aQ _ jc _) dv3) (aD.keep tD' _ (aQ _ jc _) d3')
    ·rw [List.length_append,List.length_map];omega
    ·rcases List.mem_append.mp hx with z|z
     ·obtain ⟨i,hi,e⟩:=List.mem_filterMap.mp z
      by_cases hp:0<cnt (ws.take i) (hnd ws i)
      ·rw [if_pos hp] at e
       cases e;exact ⟨_,_,rfl,QT ns (List.mem_range.mp hi) hp⟩
      ·rw [if_neg hp] at e;cases e
     ·obtain ⟨y,hy,rfl⟩:=List.mem_map.mp z
      exact ⟨_,_,rfl,.inr ⟨y,hy,Af (st y hy)⟩⟩
    ·rcases h with ⟨h1,h2,h3,h4⟩|⟨y,hy,hs⟩
     ·obtain ⟨q1,rfl⟩:=QD h1 h2 h3 h4
      exact List.mem_append_left _ (List.mem_filterMap.mpr ⟨b,List.mem_range.mpr h2,if_pos q1⟩)
     ·obtain ⟨rfl,rfl⟩:=kY hs (Af (st y hy))
      exact List.mem_append_right _ (List.mem_map.mpr ⟨y,hy,rfl⟩)
def LI (H:Hp) (a:Addr) (os:List Int):Prop:=H a=some (.lst (os.map V.int))
def nI (l:List Nat):List Int:=l.map fun n:Nat=>(n:Int)
theorem Jq (l:List Nat):(nI l).length=l.length:=by simp [nI]
theorem R9 {os:List Nat} {t:Nat} {p:Int} (e:(nI os)[t]? = some p):∃q:Nat,os[t]? = some q/\p=(q:Int):=by
 unfold nI at e;rw [List.getElem?_map] at e;cases h:os[t]? with
 | none=>rw [h] at e;cases e
 | some q=>rw [h] at e;exact ⟨q,rfl,(Option.some.inj e).symm⟩
inductive iu (ws:List aW) (ns:List Nt) (j:Nat):Nat->Prop
 | one {i:Nat} (h:SE ws ns i j):iu ws ns j i
 | more {i k:Nat} (h:SE ws ns i k) (r:iu ws ns j k):iu ws ns j i
theorem Ft {ws:List aW} {ns:List Nt} {j m:Nat} (r:iu ws ns j m):∃a,SE ws ns a j/\(m=a\/iu ws ns a m):=by
 induction r with
 | one h=>exact ⟨_,h,.inl rfl⟩
 | more h _ ih=>
   obtain ⟨a,s,q⟩:=ih;refine ⟨a,s,.inr ?_⟩;rcases q with rfl|q
   ·exact .one h
   ·exact .more h q
theorem oY {ws:List aW} {ns:List Nt} {a j m:Nat} (s:SE ws ns a j) (r:iu ws ns a m):iu ws ns j m:=by
 induction r with
 | one h=>exact .more h (.one s)
 | more h _ ih=>exact .more h ih
theorem tU {ws:List aW} {m j:Nat} (h:m<j) (hj:j<=ws.length):cnt (ws.take m) (hnd ws m)+1<=cnt (ws.take j) (hnd ws m):=by
 have e:ws[m]? = some (ws[m]'(by omega)):=by simp
 have tk:ws.take (m+1)=ws.take m++[ws[m]'(by omega)]:=by rw [List.take_add_one,e];rfl
 have:=lF ws (hnd ws m) (m+1) (j - (m+1));rw [show m+1+(j - (m+1))=j by omega,tk,gU,if_pos (bO e)] at this;exact this
theorem tE {ws:List aW} (ns:List Nt):∀(j m:Nat),j<ws.length->m<j->hnd ws m=hnd ws j->iu ws ns j m:=fun j=>by
 induction j using Nat.strongRecOn with
 | _ j ih=>
   intro m hj hm e;have c1:=tU (ws:=ws) hm (by omega);rw [e] at c1;have nn:=jY (ws.take m) (hnd ws j);have hp:0<cnt (ws.take j) (hnd ws j):=by omega
   obtain ⟨a,a1,a2,a3⟩:=qW ws (hnd ws j) j (by omega) hp;have sa:SE ws ns a j:= .inl ⟨a1,hj,a2,by rw [a2,a3];omega⟩
   by_cases q:m=a
   ·subst q;exact .one sa
   ·by_cases l:m<a
    ·exact oY sa (ih a a1 m (by omega) l (e.trans a2.symm))
    ·have c2:=tU (ws:=ws) (show a<m by omega) (by omega)
     rw [a2] at c2;omega
def Lb (H:Hp) (kn:Addr) (ws:List aW) (ns:List Nt) (n:Nat):Prop:=∃rs:List Addr,H kn=some (.lst (rs.map V.ref))/\rs.length=n /\ ∀j r,rs[j]? = some r -> ∃g,fY H r g/\GJ ws g fun m=>m=j\/iu ws ns j m
theorem Lb.same {H H':Hp} {kn:Addr} {ws:List aW} {ns:List Nt} {n:Nat} (h:Lb H kn ws ns n) (k:Same H H'):Lb H' kn ws ns n:=by
 obtain ⟨rs,e,l,q⟩:=h;refine ⟨rs,k _ _ e,l,fun j r hj=> ?_⟩;obtain ⟨g,a,b⟩:=q j r hj;exact ⟨g,a.same k,b⟩
structure SrcAt (H:Hp) (S:Addr) (n:Nat) (f:Nat->List Nat) (rs:List Addr):Prop where
 hS:H S=some (.lst (rs.map V.ref))
 len:rs.length=n
 nd:rs.Nodup
 ns:S∉rs
 li:∀b r,rs[b]? = some r->LI H r (nI (f b))
theorem SrcAt.same {H H':Hp} {S:Addr} {n:Nat} {f:Nat->List Nat} {rs:List Addr} (h:SrcAt H S n f rs) (k:Same H H'):SrcAt H' S n f rs:=⟨k _ _ h.hS,h.len,h.nd,h.ns,fun b r e=>k _ _ (h.li b r e)⟩
def jD (es:List mF) (k b:Nat):List Nat:=(es.take k).filterMap fun x=>if x.2=(b:Int) then some x.1.toNat else none
theorem JG {ws:List aW} {j:Nat} (hj:j<ws.length):GJ ws (fun x=>if x=hnd ws j then cnt (ws.take j) (hnd ws j)+1 else 0) fun m=>hnd ws m=hnd ws j/\m<=j:=fun m x ex=>by
 have hm:m<ws.length:=(List.getElem?_eq_some_iff.mp ex).1;have eh:=bO ex;show cnt (ws.take m) x.1<(if x.1=hnd ws j then _ else 0)↔_
 by_cases e:x.1=hnd ws j
 ·rw [if_pos e,e]
  constructor
  ·intro h
   refine ⟨eh.trans e, ?_⟩;refine Decidable.byContradiction fun n=> ?_;have:=tU (ws:=ws) (show j<m by omega) (by omega);omega
  ·rintro ⟨_,l⟩
   have:=lF ws (hnd ws j) m (j - m);rw [show m+(j - m)=j by omega] at this;omega
 ·rw [if_neg e]
  have:=jY (ws.take m) x.1;exact ⟨fun h=>by omega,fun h=>absurd (eh.symm.trans h.1) e⟩
def Qy (K:PySem.W.Frag):Sp:=fun vs H Q _=>∃(nd st:Addr) (ws:List aW) (ns:List Nt) (es:List mF),vs=[.ref nd,.ref st]/\gj H nd (nm ws)/\gj H st es/\es.length<=90300/\(∀x∈es,∃a b,x=uy a b/\SE ws ns a b)/\(∀a b,SE ws ns a b->uy a b∈es)/\ws.length<=300/\(∀x∈ws,0<=x.1/\x.1<8) /\
 ∀(r:Addr) H',H r=none->Lb H' r ws ns ws.length->Same H H'->Q (.ref r) H'
theorem Vd {f:Addr} {fd:FuncData} (F:kJ K "knowns_by" "knowns_by" cU f fd) (rA:FnAt P w K mg base 1 "learn" ["known","more"] (qM K)) (Bt:uM mg):cX P w K mg base jx 2 f fd ["named","steps"] (Qy K):=by
 refine F.ok cR (fun vs H Q E h=> ?_) (fun cdv A outer s H vs Q E hr h=> ?_)
 ·obtain ⟨nd,st,ws,ns,es,rfl,_⟩:=h
  rfl
 ·obtain ⟨nd,st,ws,ns,es,rfl,N,Es,el,es1,es2,wl,qT,k⟩:=h
  have hu:=jr hr
  refine ⟨_,(aB (qP (i:=2) rfl cR.nd rfl (Or.inl rfl) (N:=["name"]) (own:=["name"]) (caps:=[]) (aR.of (by kernel_rfl)) (bU (K:=K) rfl (pv 0)) (fun _ _ _ _=>(aV (i:=0) (show List.Nodup (["name"]:List Str) by decide +kernel) rfl (Or.inl rfl))) (fun _ _ _ _=>iK) (fun _ _ _ _=>(fu aq)))
   (aB (d8 PassesOwn.never rfl (bU (K:=K) rfl (pv 1)) (aV (i:=3) cR.nd rfl (Or.inl rfl))
   (aH (dN (d_ (K:=K) rfl (aK (aP (K:=K) rfl) (pv 2) (aK (aM (K:=K) rfl) (pv 3) aA (fun _ _=>rfl)) (fun _ _=>rfl)) (aj (aK (aM (K:=K) rfl) (pv 3) aA (fun _ _=>rfl)) aq)))))
   (aB (aO (i:=4) cR.nd rfl (Or.inl rfl) (fu aq))
   (aB (d8 PassesOwn.never rfl (nJ (K:=K) rfl (by rfl) Bt.jw (aj (pv 0) aq)) (nO (K:=K) (n:=2) rfl rfl (d9 (aV (i:=5) cR.nd rfl (Or.inl rfl)) (d9 (aV (i:=6) cR.nd rfl (Or.inl rfl)) nM)))
   (aB (aO (i:=7) cR.nd rfl (Or.inl rfl) (Di (yD (aK (aM (K:=K) rfl) (pv 6) aA (fun _ _=>rfl)) (bx dj (aK (aM (K:=K) rfl) (pv 6) aA (fun _ _=>rfl)) aA) Dg) rfl rfl (by simp) (by decide)))
   (aB (d8 PassesOwn.never rfl (bU (K:=K) rfl (aK (aP (K:=K) rfl) (pv 2) (pv 5) (fun _ _=>rfl))) (aV (i:=8) cR.nd rfl (Or.inl rfl))
   (aH (dN (aU rA (hr.mono (by decide)) (by rfl) (aj (pv 7) (aj (aK (aP (K:=K) rfl) (pv 4) (pv 8) (fun _ _=>rfl)) aq))))))
   (aH (dN (d_ (K:=K) rfl (pv 4) (aj (pv 7) aq)))))))
   (aH (aZ (pv 4))))))), ?_⟩
  obtain ⟨nv,G6,G7⟩:=id N;have TQ:nv.length=ws.length:=by rw [G7.length,List.length_map,dz]
  refine ⟨_,rfl,nd,rfl,⟨_,bh.of G6⟩,fun S hS=> ?_⟩
  refine lZ (K:=K) (a:=nd) (xs:=nv) (fun i σ H2=>(∃v,σ=[v]) /\ ∃rs:List Addr,rs.length=i/\rs.Nodup/\H2 S=some (.lst (rs.map V.ref))/\(∀r∈rs,r≠S/\H r=none/\LI H2 r [])/\Same H H2)
   ⟨⟨none,rfl⟩,[],rfl,List.nodup_nil,ak,by simp,aC hS⟩ (fun i σ H2 _ ⟨_,_,_,_,_,_,sm⟩=>bh.of (sm _ _ G6)) ?_ (fun σ H2 h2=> ?_)
  ·rintro i v σ H2 hi ⟨⟨v0,rfl⟩,rs,rl,Z0,hS2,all,sm⟩
   have il:i<nv.length:=(List.getElem?_eq_some_iff.mp hi).1;refine ⟨(by show 0<=sizeLine;decide),fun q hq=> ?_⟩;have sq:=aC (o:=HO.lst []) hq;have nqS:q≠S:=(au hS2 hq).symm;have kS:Kp S (upd H2 q (.lst [])) (upd (upd H2 q (.lst [])) S (.lst (rs.map V.ref++[V.ref q]))):=Kp.set;refine ⟨_,sq _ _ hS2,by rw [List.length_map,sizeLine_eq];omega,⟨_,rfl⟩,rs++[q],by simp [rl], ?_,by rw [ak];simp,fun r hr'=> ?_,fun b o e=>kS _ _ (sq _ _ (sm _ _ e)) (au e hS)⟩
   ·rw [List.nodup_append]
    refine ⟨Z0,by simp,fun a ha b hb e=> ?_⟩;simp at hb;subst hb;subst e;have:=(all a ha).2.2;rw [show H2 a=_ from this] at hq;cases hq
   ·rcases List.mem_append.mp hr' with z|z
    ·obtain ⟨q1,q2,q3⟩:=all r z
     exact ⟨q1,q2,kS _ _ (sq _ _ q3) q1⟩
    ·simp at z
     subst z;exact ⟨nqS,sm.free hq,kS _ _ ak nqS⟩
  obtain ⟨_,rs,rl,Z0,hS2,all,Lg⟩:=h2;have Zm:SrcAt H2 S ws.length (jD es 0) rs:=⟨hS2,by rw [rl,TQ],Z0,fun z=>(all S z).1 rfl,fun b r e=>(all r (List.mem_of_getElem? e)).2.2⟩;have ZX:∀r∈rs,H r=none:=fun r hr'=>(all r hr').2.1;obtain ⟨ev,hev,dev⟩:=id (Es.same Lg);have evl:ev.length=es.length:=by rw [dev.length,List.length_map]
  have Pu:H st=some (.lst ev):=by
   obtain ⟨ev0,h0,_⟩:=Es;have:=(Lg _ _ h0).symm.trans hev;rw [h0,←Option.some.inj this]
  dsimp only;refine CW (fun σ H3=>∃(x3:Option V),σ=[some (.ref nd),some (.ref st),some (.ref S),x3,none,none,none,none,none]/\Same H H3/\SrcAt H3 S ws.length (jD es es.length) rs) (fun D' hD' _=> ?_) ?_
  ·refine ⟨_,rfl,st,rfl,⟨_,bh.of hev⟩, ?_⟩
   refine jH (K:=K) (a:=st) (xs:=ev) (fun q σ H3=>∃(x3:Option V),σ=[some (.ref nd),some (.ref st),some (.ref S),x3,none,none,none,none,none]/\Same H H3/\SrcAt H3 S ws.length (jD es q) rs)
    ⟨none,rfl,Lg,Zm⟩ (fun q σ H3 _ ⟨_,_,sm,_⟩=>bh.of (sm _ _ Pu)) ?_ ?_
   ·rintro q v σ H3 hq ⟨x3,rfl,sm3,src⟩
    have d3:aD H3 ev (es.map pD):=by
     obtain ⟨ev0,h0,d0⟩:=Es;rw [Pu] at h0;cases h0;exact aD.keep sm3.tups _ (aQ _ jc _) d0
    obtain ⟨y,ty,ey,rfl,hty⟩:=qQ d3 hq;obtain ⟨a,b,rfl,se⟩:=es1 y (List.mem_of_getElem? ey)
    replace hty:H3 ty=some (.tup [.int (a:Int),.int (b:Int)]):=hty
    have sl:=se.lt;have ql:q<es.length:=(List.getElem?_eq_some_iff.mp ey).1;obtain ⟨r,er⟩:∃r,rs[b]? = some r:=⟨rs[b]'(by rw [src.len];exact sl.2),by simp⟩;have hr':=src.li b r er
    have ahf:(jD es q b).length<=q:=by
     unfold jD;refine Nat.le_trans (List.length_filterMap_le _ _) ?_;rw [List.length_take];omega
    refine ⟨_,rfl,_,rfl,_,_,_,_,rfl,rfl,cJ.of hty,rfl,_,_,_,_,rfl,rfl,bh.of src.hS,dO (by rw [List.getElem?_map,er];rfl), ?_⟩;refine ⟨.inl ⟨rfl,_,bh.of hr'⟩,_,rfl,_,_,_,_,rfl,rfl,cJ.of hty,rfl,r,_,_,rfl,rfl,hr',by rw [List.length_map,Jq,sizeLine_eq];omega, ?_⟩;have kr:Kp r H3 (upd H3 r (.lst ((nI (jD es q b)).map V.int++[V.int (a:Int)]))):=Kp.set;have hr0:=ZX r (List.mem_of_getElem? er);have nSr:S≠r:=fun z=>src.ns (by rw [z];exact List.mem_of_getElem? er)
    have sf:∀b',jD es (q+1) b'=jD es q b'++(if (b:Int)=(b':Int) then [a] else []):=fun b'=>by
     unfold jD;rw [List.take_add_one,ey,Option.toList_some,List.filterMap_append];congr 1
     by_cases z:(b:Int)=(b':Int)<;>simp [uy,z]
    refine ⟨_,rfl,fun c o e=>kr _ _ (sm3 _ _ e) (au e hr0),kr _ _ src.hS nSr,src.len,src.nd,src.ns,fun b' r' Px=> ?_⟩
    by_cases eb:b'=b
    ·subst eb
     rw [er] at Px;cases Px;show upd _ _ _ _=_;rw [ak,sf,if_pos rfl];simp [nI]
    ·have nrr:r'≠r:=fun z=>by
      subst z;obtain ⟨h1,e1⟩:=List.getElem?_eq_some_iff.mp er;obtain ⟨h2,e2⟩:=List.getElem?_eq_some_iff.mp Px;rcases Nat.lt_or_gt_of_ne eb with l|l
      ·exact List.pairwise_iff_getElem.mp src.nd b' b h2 h1 l (e2.trans e1.symm)
      ·exact List.pairwise_iff_getElem.mp src.nd b b' h1 h2 l (e1.trans e2.symm)
     rw [sf,if_neg (by omega),List.append_nil];exact kr _ _ (src.li b' r' Px) nrr
   ·rintro σ H3 ⟨x3,rfl,sm3,src⟩
    rw [evl] at src;exact hD' _ _ ⟨x3,rfl,sm3,src⟩
  ·rintro σ H3 ⟨x3,rfl,sm3,src⟩
   have Qs:∀a j,a∈jD es es.length j↔SE ws ns a j:=fun a j=>by
    unfold jD;rw [List.take_length,List.mem_filterMap];constructor
    ·rintro ⟨x,hx,e⟩
     obtain ⟨a',b',rfl,se⟩:=es1 x hx
     by_cases z:(uy a' b').2=(j:Int)
     ·rw [if_pos z] at e
      have z:(b':Int)=(j:Int):=z;have e:a'=a:=by have:=Option.some.inj e;simpa [uy] using this
      have z:b'=j:=by omega
      subst e z;exact se
     ·rw [if_neg z] at e;cases e
    ·intro se
     exact ⟨uy a j,es2 a j se,by rw [if_pos (show (uy a j).2=(j:Int) from rfl)];rfl⟩
   refine ⟨(by show 0<=sizeLine;decide),fun kn hkn=> ?_⟩;have s4:=aC (o:=HO.lst []) hkn;have TF:=sm3.trans s4;have Nu:H kn=none:=sm3.free hkn;have Zk:=src.same s4;refine ⟨_,rfl,nd,_,rfl,bh.of (TF _ _ G6), ?_⟩
   refine nZ (K:=K) (a:=nd) (xs:=nv) (fun j σ H5=>∃(x5 x6 x7 x8:Option V),σ=[some (.ref nd),some (.ref st),some (.ref S),x3,some (.ref kn),x5,x6,x7,x8]/\Same H H5/\Lb H5 kn ws ns j/\SrcAt H5 S ws.length (jD es es.length) rs/\kn∉rs/\kn≠S)
    ⟨none,none,none,none,rfl,TF,⟨[],ak,rfl,fun j r h=>by simp at h⟩,Zk,(fun z=>by
      obtain ⟨b,hb⟩:=List.getElem?_of_mem z;have:=src.li b kn hb;rw [show H3 kn=_ from this] at hkn;cases hkn),(au src.hS hkn).symm⟩ (fun j σ H5 _ ⟨_,_,_,_,_,sm,_⟩=>bh.of (sm _ _ G6)) ?_ ?_
   ·rintro j v σ H5 p hj ⟨x5,x6,x7,x8,rfl,HN,KN,Uu,nkr,nkS⟩ hp
    have jl:j<ws.length:=by have:=(List.getElem?_eq_some_iff.mp hj).1;omega
    have dn5:aD H5 nv ((nm ws).map pD):=aD.keep HN.tups _ (aQ _ jc _) G7;obtain ⟨y,ty,ey,rfl,hty⟩:=qQ dn5 hj;obtain ⟨_,rfl⟩:=Bk ey
    replace hty:H5 ty=some (.tup [.int (hnd ws j),.int (cnt (ws.take j) (hnd ws j))]):=hty
    have sp:=aC (o:=HO.tup [V.int (j:Int),V.ref ty]) hp;refine ⟨p,_,rfl,cJ.of ak,rfl,_,_,rfl,_,_,rfl,rfl, ?_⟩;have RW:=sp _ _ hty;have YT:=KN.same sp;have LC:=Uu.same sp;have LK:=HN.trans sp;generalize upd H5 p (.tup [V.int (j:Int),V.ref ty])=H6 at RW YT LC LK ⊢;intro d hd;have s7:=aC (o:=HO.dK []) hd;refine ⟨_,rfl,_,_,_,_,rfl,rfl,cJ.of (s7 _ _ RW),rfl,_,rfl,_,_,_,_,rfl,rfl,cJ.of (s7 _ _ RW),rfl,_,_,rfl,rfl,ak,[(Sum.inl (hnd ws j),V.int (cnt (ws.take j) (hnd ws j)+1))],rfl,by show 1<=15;decide, ?_⟩
    have e1:upd (upd H6 d (.dK [])) d (.dK (mY [] [(Sum.inl (hnd ws j),V.int (cnt (ws.take j) (hnd ws j)+1))]))=upd H6 d (.dK (qb [hnd ws j] fun x=>if x=hnd ws j then cnt (ws.take j) (hnd ws j)+1 else 0)):=by
     rw [vO];congr 2;show [(Sum.inl (hnd ws j),V.int (cnt (ws.take j) (hnd ws j)+1))]=_;simp [qb]
    rw [e1];have s8:Same H6 (upd H6 d (.dK (qb [hnd ws j] fun x=>if x=hnd ws j then cnt (ws.take j) (hnd ws j)+1 else 0))):=aC hd;have ey':ws[j]? = some ws[j]:=by simp [jl]
    have h08:0<=hnd ws j/\hnd ws j<8:=by rw [bO ey'];exact qT _ (List.mem_of_getElem? ey')
    have X3:fY (upd H6 d (.dK (qb [hnd ws j] fun x=>if x=hnd ws j then cnt (ws.take j) (hnd ws j)+1 else 0))) d (fun x=>if x=hnd ws j then cnt (ws.take j) (hnd ws j)+1 else 0):=by
     refine ⟨⟨[hnd ws j],ak,by simp,fun h hh=> ?_,fun h hh=> ?_⟩,fun h=> ?_⟩
     ·have:h=hnd ws j:=by simpa using hh
      subst this;exact h08
     ·have:h≠hnd ws j:=by simpa using hh
      rw [if_neg this]
     ·have:=jY (ws.take j) (hnd ws j)
      show 0<=if h=hnd ws j then _ else _;split<;>omega
    have hd0:H d=none:=LK.free hd;have KN8:=YT.same s8;have vW:=LC.same s8;have G5:=LK.trans s8;have Rj:d≠kn:=by obtain ⟨rs',h',_⟩:=YT;exact (au h' hd).symm
    have ndS:d≠S:=(au LC.hS hd).symm
    have ndr:∀r∈rs,r≠d:=fun r hr'=>by
     obtain ⟨b,hb⟩:=List.getElem?_of_mem hr';exact au (LC.li b r hb) hd
    obtain ⟨ks,hks,TV,kq⟩:=id YT
    have ndk:∀(i:Nat) (r:Addr),ks[i]? = some r->d≠r:=fun i r hi=>by
     obtain ⟨g,kd,_⟩:=kq i r hi;obtain ⟨_,h',_⟩:=kd.ex;exact (au h' hd).symm
    generalize upd H6 d (.dK (qb [hnd ws j] fun x=>if x=hnd ws j then cnt (ws.take j) (hnd ws j)+1 else 0))=H8 at X3 s8 KN8 vW G5 ⊢;clear s7 e1;obtain ⟨r,er⟩:∃r,rs[j]? = some r:=⟨rs[j]'(by rw [vW.len];exact jl),by simp⟩;have hr8:=vW.li j r er;have Vf:=ndr r (List.mem_of_getElem? er);dsimp only;refine CW (fun σ H9=>∃(x8:Option V) (g:Int->Int),σ=[some (.ref nd),some (.ref st),some (.ref S),x3,some (.ref kn),some (.int (j:Int)),some (.ref ty),some (.ref d),x8]/\Kp d H8 H9/\fY H9 d g/\GJ ws g fun m=>m=j\/iu ws ns j m) (fun D' hD' _=> ?_) ?_
    ·refine ⟨_,rfl,_,rfl,_,_,_,_,rfl,rfl,bh.of vW.hS,dO (by rw [List.getElem?_map,er];rfl),r,rfl,⟨_,bh.of hr8⟩, ?_⟩
     refine jH (K:=K) (a:=r) (xs:=(nI (jD es es.length j)).map V.int) (fun q σ H9=>∃(x8:Option V) (g:Int->Int),σ=[some (.ref nd),some (.ref st),some (.ref S),x3,some (.ref kn),some (.int (j:Int)),some (.ref ty),some (.ref d),x8]/\Kp d H8 H9/\fY H9 d g/\GJ ws g fun m=>(hnd ws m=hnd ws j/\m<=j) \/ ∃a∈(jD es es.length j).take q,m=a\/iu ws ns a m)
      ⟨_,_,rfl,Kp.refl _ _,X3,(JG jl).iff fun m=>by simp⟩ (fun q σ H9 _ ⟨_,_,_,kp,_⟩=>bh.of (kp _ _ hr8 Vf)) ?_ ?_
     ·rintro q v σ H9 hq ⟨y8,g,rfl,JF,Vz,TX⟩
      rw [List.getElem?_map] at hq;cases ea:(nI (jD es es.length j))[q]? with
      | none=>rw [ea] at hq;cases hq
      | some z=>
        rw [ea] at hq;cases hq;obtain ⟨a,ea',rfl⟩:=R9 ea;have se:SE ws ns a j:=(Qs a j).mp (List.mem_of_getElem? ea');have al:a<ks.length:=by rw [TV];exact se.lt.1
        obtain ⟨u,eu⟩:∃u,ks[a]? = some u:=⟨ks[a],by simp [al]⟩;obtain ⟨ga,kda,kna⟩:=kq a u eu;have ndu:=ndk a u eu;have hk9:=JF _ _ (s8 _ _ hks) Rj.symm;have Nh:=(kda.same s8).kp JF ndu.symm;refine ⟨_,rfl,_,rfl,_,rfl,_,_,_,_,rfl,rfl,bh.of hk9,dO (by rw [List.getElem?_map,eu];rfl),d,u,g,ga,rfl,Vz,Nh,ndu,fun HA kdA kA=> ?_⟩;refine ⟨_,_,rfl,JF.trans kA,kdA,(DK TX kna).iff fun m=> ?_⟩;have tk:(jD es es.length j).take (q+1)=(jD es es.length j).take q++[a]:=by rw [List.take_add_one,ea'];rfl
        rw [tk];constructor
        ·rintro ((h|⟨a',h1,h2⟩)|h)
         ·exact .inl h
         ·exact .inr ⟨a',List.mem_append_left _ h1,h2⟩
         ·exact .inr ⟨a,by simp,h⟩
        ·rintro (h|⟨a',h1,h2⟩)
         ·exact .inl (.inl h)
         ·rcases List.mem_append.mp h1 with z|z
          ·exact .inl (.inr ⟨a',z,h2⟩)
          ·simp at z;subst z;exact .inr h2
     ·rintro σ H9 ⟨y8,g,rfl,JF,Vz,TX⟩
      have e:(jD es es.length j).take ((nI (jD es es.length j)).map V.int).length=jD es es.length j:=by rw [List.length_map,Jq,List.take_length]
      rw [e] at TX;refine hD' _ _ ⟨y8,g,rfl,JF,Vz,TX.iff fun m=> ?_⟩;constructor
      ·rintro (⟨h1,h2⟩|⟨a,h1,h2⟩)
       ·by_cases q:m=j
        ·exact .inl q
        ·exact .inr (tE ns j m jl (by omega) h1)
       ·have se:=(Qs a j).mp h1
        rcases h2 with rfl|h2
        ·exact .inr (.one se)
        ·exact .inr (oY se h2)
      ·rintro (rfl|h)
       ·exact .inl ⟨rfl,Nat.le_refl _⟩
       ·obtain ⟨a,se,q⟩:=Ft h
        exact .inr ⟨a,(Qs a j).mpr se,q⟩
    ·rintro σ H9 ⟨y8,g,rfl,JF,Vz,TX⟩
     have hk9:=JF _ _ (s8 _ _ hks) Rj.symm;refine ⟨_,rfl,.inl ⟨rfl,_,bh.of hk9⟩,_,rfl,kn,_,_,rfl,rfl,hk9,by rw [List.length_map,sizeLine_eq];omega, ?_⟩;have kK:Kp kn H9 (upd H9 kn (.lst (ks.map V.ref++[V.ref d]))):=Kp.set;have smZ:Same H (upd H9 kn (.lst (ks.map V.ref++[V.ref d]))):=fun b o e=>kK _ _ (JF _ _ (G5 _ _ e) (au e hd0)) (au e Nu);refine ⟨_,_,_,_,rfl,smZ,⟨ks++[d],by rw [ak];simp,by simp [TV],fun i u hu'=> ?_⟩,⟨kK _ _ (JF _ _ vW.hS ndS.symm) nkS.symm,vW.len,vW.nd,vW.ns,fun b r' Px=>kK _ _ (JF _ _ (vW.li b r' Px) (ndr r' (List.mem_of_getElem? Px))) (fun z=>nkr (by rw [←z];exact List.mem_of_getElem? Px))⟩,nkr,nkS⟩
     by_cases il:i<ks.length
     ·rw [List.getElem?_append_left il] at hu'
      obtain ⟨ga,kda,kna⟩:=kq i u hu';have Nh:=(kda.same s8).kp JF (ndk i u hu').symm;obtain ⟨_,h',_⟩:=Nh.ex;exact ⟨ga,Nh.kp kK (dB h' hk9 (by intro z;cases z)),kna⟩
     ·rw [List.getElem?_append_right (by omega)] at hu'
      have:i - ks.length<1:=(List.getElem?_eq_some_iff.mp hu').1;have hi:i=j:=by omega
      subst hi;rw [TV,Nat.sub_self] at hu';cases hu';exact ⟨g,Vz.kp kK Rj,TX⟩
   ·rintro σ H5 ⟨x5,x6,x7,x8,rfl,HN,KN,Uu,nkr,nkS⟩
    rw [TQ] at KN;exact ⟨_,rfl,k kn H5 Nu KN HN⟩
def EnP (ws:List aW) (ns:List Nt):Prop:=∀(i j:Nat) (x y:aW),i<j->ws[i]? = some x->ws[j]? = some y->mt x y=true->iu ws ns j i
def Qz (K:PySem.W.Frag):Sp:=fun vs H Q _=>∃(a s:Addr) (ws:List aW) (ns:List Nt),vs=[.ref a,.ref s]/\bY H a ws/\ws.length<=300/\(∀x∈ws,0<=x.1/\x.1<8)/\cg H s ns/\ns.length<=90000/\(∀x∈ns,zT ws x) /\
 ∀(b:Bool) H',(b=true↔EnP ws ns)->Same H H'->Q (.bl b) H'
theorem Ve {f:Addr} {fd:FuncData} (F:kJ K "enough" "enough" fQ f fd) (gY:FnAt P w K mg base 2 "places_of" ["web"] (k_ K)) (jg:FnAt P w K mg base 4 "check_strict" ["places","some"] (CV K)) (j6:FnAt P w K mg base 1 "names" ["web"] (lU K)) (Cw:FnAt P w K mg base 1 "steps_by" ["places","some"] (Qx K)) (zV:FnAt P w K mg base 2 "knowns_by" ["named","steps"] (Qy K)) (cN:FnAt P w K mg base 1 "touches_meet" ["one","other"] (Fg K)) (nG:FnAt P w K mg base 1 "is_known" ["name","known"] (qN K)) (Bt:uM mg):cX P w K mg base jx 5 f fd ["web","some"] (Qz K):=by
 refine F.ok gq (fun vs H Q E h=> ?_) (fun cdv A outer s H vs Q E hr h=> ?_)
 ·obtain ⟨a,s,ws,ns,rfl,_⟩:=h
  rfl
 ·obtain ⟨a,sa,ws,ns,rfl,W,wl,qT,N,nl,st,k⟩:=h
  have hu:=jr hr
  refine ⟨_,(aB (aO (i:=2) gq.nd rfl (Or.inl rfl) (aU gY (hr.mono (by decide)) (by rfl) (aj (pv 0) aq)))
   (aB (dN (aU jg (hr.mono (by decide)) (by rfl) (aj (pv 2) (aj (pv 1) aq))))
   (aB (aO (i:=3) gq.nd rfl (Or.inl rfl) (aU j6 (hr.mono (by decide)) (by rfl) (aj (pv 0) aq)))
   (aB (aO (i:=4) gq.nd rfl (Or.inl rfl) (aU zV (hr.mono (by decide)) (by rfl) (aj (pv 3) (aj (aU Cw (hr.mono (by decide)) (by rfl) (aj (pv 2) (aj (pv 1) aq))) aq))))
   (aB (d8 PassesOwn.never rfl (nJ (K:=K) rfl (by rfl) Bt.jw (aj (pv 4) aq)) (nO (K:=K) (n:=2) rfl rfl (d9 (aV (i:=5) gq.nd rfl (Or.inl rfl)) (d9 (aV (i:=6) gq.nd rfl (Or.inl rfl)) nM)))
   (aH (d8 PassesOwn.never rfl (gA (by rfl) Bt.ju (aj (pv 5) aq)) (aV (i:=7) gq.nd rfl (Or.inl rfl))
   (aH (fU (PW.pt (wu (gZ (aU cN (hr.mono (by decide)) (by rfl) (aj (aK (aP (K:=K) rfl) (pv 0) (pv 7) (fun _ _=>rfl)) (aj (aK (aP (K:=K) rfl) (pv 0) (pv 5) (fun _ _=>rfl)) aq)))) (qO (lC (gZ (aU nG (hr.mono (by decide)) (by rfl) (aj (aK (aP (K:=K) rfl) (pv 3) (pv 7) (fun _ _=>rfl)) (aj (pv 6) aq)))))))) (aH (aZ jk)) cG)))))
   (aH (aZ jk))))))), ?_⟩
  refine ⟨_,rfl,a,ws,rfl,W,wl,fun d kvs H1 _ h1 pl ek s1=> ?_⟩;refine ⟨_,rfl,_,rfl,d,sa,kvs,ws,ns,rfl,h1,pl,N.same s1,by omega,st,fun H2 s2=> ?_⟩;have s12:=s1.trans s2;refine ⟨_,rfl,a,ws,rfl,W.same s12,by omega,fun nd H3 _ ND s3=> ?_⟩;have zY:=s12.trans s3;refine ⟨_,rfl,_,rfl,_,rfl,d,sa,kvs,ws,ns,rfl,s3 _ _ (s2 _ _ h1),ek,pl,wl,N.same zY,nl,st,fun e es H4 _ Es el es1 es2 s4=> ?_⟩;refine ⟨nd,e,ws,ns,es,rfl,ND.same s4,Es,el,es1,es2,wl,qT,fun kn H5 _ KN s5=> ?_⟩;have Xz:=(zY.trans s4).trans s5;have ND5:=(ND.same s4).same s5;obtain ⟨ks,hks,TV,kq⟩:=id KN;refine ⟨_,rfl,kn,_,rfl,bh.of hks, ?_⟩
  refine nZ (K:=K) (a:=kn) (xs:=ks.map V.ref) (fun j σ H6=>∃(x5 x6 x7:Option V),σ=[some (.ref a),some (.ref sa),some (.ref d),some (.ref nd),some (.ref kn),x5,x6,x7]/\Same H5 H6 /\ ∀(i j':Nat) (x y:aW),j'<j->i<j'->ws[i]? = some x->ws[j']? = some y->mt x y=true->iu ws ns j' i)
   ⟨none,none,none,rfl,Same.refl _,fun i j' x y h=>absurd h (Nat.not_lt_zero _)⟩ (fun j σ H6 _ ⟨_,_,_,_,sm,_⟩=>bh.of (sm _ _ hks)) ?_ ?_
  ·rintro j v σ H6 p hj ⟨x5,x6,x7,rfl,LK,inv⟩ hp
   rw [List.getElem?_map] at hj;cases eu:ks[j]? with
   | none=>rw [eu] at hj;cases hj
   | some u=>
   rw [eu] at hj;cases hj;have jl:j<ws.length:=by rw [←TV];exact (List.getElem?_eq_some_iff.mp eu).1
   obtain ⟨g,kd,knp⟩:=kq j u eu;have sp:=aC (o:=HO.tup [V.int (j:Int),V.ref u]) hp;refine ⟨p,_,rfl,cJ.of ak,rfl,_,_,rfl,_,_,rfl,rfl, ?_⟩;have Uv:=LK.trans sp;generalize upd H6 p (.tup [V.int (j:Int),V.ref u])=H7 at Uv ⊢;refine ⟨_,rfl,_,rfl,by omega,by omega, ?_⟩
   refine jG (lo:=0) (n:=_) (fun i σ H8=>∃(x7:Option V),σ=[some (.ref a),some (.ref sa),some (.ref d),some (.ref nd),some (.ref kn),some (.int (j:Int)),some (.ref u),x7]/\Same H5 H8 /\ ∀(i':Nat) (x y:aW),i'<i->ws[i']? = some x->ws[j]? = some y->mt x y=true->iu ws ns j i')
    ⟨_,rfl,Uv,fun i' x y h=>absurd h (Nat.not_lt_zero _)⟩ ?_ ?_
   ·rintro i σ H8 hi ⟨y7,rfl,G5,Nj⟩
    have hi:i<j:=by omega
    have il:i<ws.length:=by omega
    obtain ⟨x,ex⟩:∃x,ws[i]? = some x:=⟨ws[i],by simp [il]⟩;obtain ⟨y,ey⟩:∃y,ws[j]? = some y:=⟨ws[j],by simp [jl]⟩;obtain ⟨vs,t1,ha,e1,ht1⟩:=gD (W.same (Xz.trans G5)) ex;obtain ⟨vs',t2,ha',e2,xM⟩:=gD (W.same (Xz.trans G5)) ey;have ev:vs=vs':=by rw [ha] at ha';injection ha' with q;injection q
    subst ev;rw [Int.zero_add];refine ⟨_,rfl,_,rfl,_,_,_,_,rfl,rfl,bh.of ha,j5 e1,_,rfl,_,rfl,_,_,_,_,rfl,rfl,bh.of ha,j5 e2,t1,t2,x,y,rfl,ht1,xM,_,rfl, ?_⟩;cases em:mt x y with
    | false=>
      refine (show if false=true then _ else _ from fL ?_);refine ⟨_,rfl,G5,fun i' x' y' hi' ex' ey' m'=> ?_⟩
      by_cases z:i'=i
      ·subst z
       rw [ex] at ex';rw [ey] at ey';cases ex';cases ey';rw [em] at m';cases m'
      ·exact Nj i' x' y' (by omega) ex' ey' m'
    | true=>
      refine (show if true=true then _ else _ from fG ?_);obtain ⟨nv,G6,G7⟩:=id (ND5.same G5);have nil:i<nv.length:=by rw [G7.length,List.length_map,dz];exact il
      obtain ⟨vn,evn⟩:∃vn,nv[i]? = some vn:=⟨nv[i],by simp [nil]⟩;obtain ⟨yy,ty,ey2,rfl,hty⟩:=qQ G7 evn;obtain ⟨_,rfl⟩:=Bk ey2;have kn:=knp i x ex;rw [←bO ex] at kn;refine ⟨_,rfl,_,rfl,_,_,_,_,rfl,rfl,bh.of G6,j5 evn,_,rfl,ty,u,_,_,g,rfl,hty,kd.same G5,_,rfl, ?_⟩
      by_cases q:cnt (ws.take i) (hnd ws i)<g (hnd ws i)
      ·rw [decide_eq_true q]
       refine (show if false=true then _ else _ from fL ?_);refine ⟨_,rfl,G5,fun i' x' y' hi' ex' ey' m'=> ?_⟩
       by_cases z:i'=i
       ·subst z
        exact (kn.mp q).resolve_left (by omega)
       ·exact Nj i' x' y' (by omega) ex' ey' m'
      ·rw [decide_eq_false q]
       refine (show if true=true then _ else _ from fG ?_);refine k false _ ⟨fun z=>Bool.noConfusion z,fun z=>absurd (kn.mpr (.inr (z i j x y hi ex ey em))) q⟩ (Xz.trans G5)
   ·rintro σ H8 ⟨y7,rfl,G5,Nj⟩
    refine ⟨_,_,_,rfl,G5,fun i j' x y hj' hij ex ey m=> ?_⟩
    by_cases z:j'=j
    ·subst z
     exact Nj i x y (by omega) ex ey m
    ·exact inv i j' x y (by omega) hij ex ey m
  ·rintro σ H6 ⟨x5,x6,x7,rfl,LK,inv⟩
   refine k true _ ⟨fun _=>fun i j x y hij ex ey m=> ?_,fun _=>rfl⟩ (Xz.trans LK);have jl:=(List.getElem?_eq_some_iff.mp ey).1;exact inv i j x y (by rw [List.length_map,TV];exact jl) hij ex ey m
theorem uY {ws:List aW} {x:Nt} (h:x∈lH ws ws.length):∃i j,x=bH ws i j/\Qa ws i j:=by
 unfold lH at h;obtain ⟨j,hj,h⟩:=List.mem_flatMap.mp h;unfold gJ fH at h;obtain ⟨i,hi,rfl⟩:=List.mem_map.mp h;obtain ⟨h1,h2⟩:=List.mem_filter.mp hi;obtain ⟨h3,h4⟩:=List.mem_filter.mp h1;have b:=of_decide_eq_true h4;exact ⟨i,j,rfl,(oM b.1).1,List.mem_range.mp hj,b,of_decide_eq_true h2⟩
theorem Qp {ws:List aW} {i j:Nat} {x y:aW} (ex:ws[i]? = some x) (ey:ws[j]? = some y) (ne:¬hnd ws i=hnd ws j) (st:qK ws i j=true):mt x y=true:=by
 unfold qK Tz at st;rw [ex,ey] at st;rw [bO ex,bO ey] at ne;simp [ne] at st;exact st.2
theorem Ro {ws:List aW} {i j:Nat} {x y:aW} (h:i<j) (ex:ws[i]? = some x) (ey:ws[j]? = some y) (m:mt x y=true):qK ws i j=true /\ ¬hnd ws i=hnd ws j:=by
 constructor
 ·unfold qK Tz
  rw [ex,ey,decide_eq_true h];simp [m]
 ·rw [bO ex,bO ey]
  intro e;unfold mt at m;rw [if_pos e] at m;cases m
theorem mX {ws:List aW} {ns:List Nt} {i k j:Nat} (h:iu ws ns k i) (r:iu ws ns j k):iu ws ns j i:=by
 induction h with
 | one h=>exact .more h r
 | more h _ ih=>exact .more h ih
theorem Sx {ws:List aW} {ns:List Nt} (hp:∀i j,Qa ws i j->bH ws i j∈ns):∀(d p q:Nat),q - p<=d->vL ws q p->iu ws ns q p:=by
 intro d
 induction d with
 | zero=>intro p q hd r;have:=r.lt;omega
 | succ d ih=>
   intro p q hd r;have rl:=r.lt
   have step:qK ws p q=true->iu ws ns q p:=fun st=>by
    by_cases eh:hnd ws p=hnd ws q
    ·exact tE ns q p rl.2 rl.1 eh
    ·by_cases b:Bare ws q p
     ·have np:Qa ws p q:=⟨rl.1,rl.2,b,eh⟩
      refine .one (.inr ⟨_,hp p q np,eh,iy (by omega),iy rl.2,rl.1⟩)
     ·have:G9 ws q (p+1) p:=Classical.byContradiction fun n=>b ⟨st,n⟩
      obtain ⟨x,x1,x2,x3⟩:=this;have rx:vL ws x p:=x3.resolve_left (by omega);have xl:=oM x2;exact mX (ih p x (by omega) rx) (ih x q (by omega) (.one x2))
   cases r with
   | one st=>exact step st
   | @more _ k st r'=>
     have kl:=r'.lt;have sl:=oM st;exact mX (ih p k (by omega) (.one st)) (ih k q (by omega) r')
theorem mj {ws:List aW} {m n:Nat} (h:m<=n) (g:Int):cnt (ws.take m) g<=cnt (ws.take n) g:=by
 have e:ws.take n=ws.take m++(ws.take n).drop m:=by
  have:=List.take_append_drop m (ws.take n);rw [List.take_take,Nat.min_eq_left h] at this;exact this.symm
 unfold cnt;rw [e,List.filter_append,List.length_append];omega
def mB (x y:Nt):Bool:=decide (x.1=y.1/\x.2.2.1=y.2.2.1)&&(decide (x.2.1≥y.2.1)&&decide (x.2.2.2<=y.2.2.2))
def lV (K:PySem.W.Frag):Sp:=fun vs H Q _=>∃(t:Addr) (x:Nt),vs=[.ref t]/\H t=some (.tup (nV x)) /\ ∀p,H p=none->Q (.ref p) (upd H p (.tup [.int x.1,.int x.2.2.1]))
theorem Bh {f:Addr} {fd:FuncData} (F:kJ K "hands_of" "hands_of" dM f fd):cX P w K mg base jx 1 f fd ["note"] (lV K):=by
 refine F.ok yr (fun vs H Q E h=> ?_) (fun cdv A outer s H vs Q E hr h=> ?_)
 ·obtain ⟨t,x,rfl,_⟩:=h
  rfl
 ·obtain ⟨t,x,rfl,ht,k⟩:=h
  refine ⟨_,(aH (aZ (iW (aj (aK (aM (K:=K) rfl) (pv 0) aA (fun _ _=>rfl)) (aj (aK (aM (K:=K) rfl) (pv 0) aA (fun _ _=>rfl)) aq))))), ?_⟩;refine ⟨_,rfl,_,_,_,_,rfl,rfl,cJ.of ht,rfl,_,rfl,_,_,_,_,rfl,rfl,cJ.of ht,rfl,(by show 2<=sizeLine;decide),fun p hp=>k p hp⟩
def qL (K:PySem.W.Frag):Sp:=fun vs H Q _=>∃(t u:Addr) (x y:Nt),vs=[.ref t,.ref u]/\H t=some (.tup (nV x))/\H u=some (.tup (nV y)) /\ ∀H',Same H H'->Q (.bl (mB x y)) H'
theorem Je {f:Addr} {fd:FuncData} (F:kJ K "meets" "meets" iG f fd) (j7:FnAt P w K mg base 1 "hands_of" ["note"] (lV K)):cX P w K mg base jx 2 f fd ["note","want"] (qL K):=by
 refine F.ok HW (fun vs H Q E h=> ?_) (fun cdv A outer s H vs Q E hr h=> ?_)
 ·obtain ⟨t,u,x,y,rfl,_⟩:=h
  rfl
 ·obtain ⟨t,u,x,y,rfl,ht,hu',k⟩:=h
  have Bv:=hr.units;refine ⟨_,(aH (aZ (rW (eX (Dn (K:=K) rfl Bv) (aU j7 (hr.mono (by decide)) (by rfl) (aj (pv 0) aq)) (aU j7 (hr.mono (by decide)) (by rfl) (aj (pv 1) aq)) (bC _)) (rW (eX Ja (aK (aM (K:=K) rfl) (pv 0) aA (fun _ _=>rfl)) (aK (aM (K:=K) rfl) (pv 1) aA (fun _ _=>rfl)) (bC _)) (o8 (eX U9 (aK (aM (K:=K) rfl) (pv 0) aA (fun _ _=>rfl)) (aK (aM (K:=K) rfl) (pv 1) aA (fun _ _=>rfl)) (bC _))))))), ?_⟩;refine ⟨_,rfl,t,x,rfl,ht,fun p hp=> ?_⟩;have s1:=aC (o:=HO.tup [V.int x.1,V.int x.2.2.1]) hp;refine ⟨_,rfl,u,y,rfl,s1 _ _ hu',fun q hq=> ?_⟩;have s2:=aC (o:=HO.tup [V.int y.1,V.int y.2.2.1]) hq;have s12:=s1.trans s2;refine ⟨_,_,ou (x:=(x.1,x.2.2.1)) (s2 _ _ ak),ou (x:=(y.1,y.2.2.1)) ak,rfl,rfl,_,rfl, ?_⟩
  have e:(if false=true then !PyData.eqv (pD (x.1,x.2.2.1)) (pD (y.1,y.2.2.1)) else PyData.eqv (pD (x.1,x.2.2.1)) (pD (y.1,y.2.2.1)))=decide (x.1=y.1/\x.2.2.1=y.2.2.1):=by
   rw [if_neg (by decide),Sw,Bool.eq_iff_iff,decide_eq_true_iff,decide_eq_true_iff,Prod.mk.injEq]
  rw [e];have kk:=k _ s12
  by_cases w:x.1=y.1/\x.2.2.1=y.2.2.1
  rotate_left
  ·rw [decide_eq_false w]
   refine fL ?_;have:mB x y=false:=by simp only [mB,decide_eq_false w,Bool.false_and]
   rw [this] at kk;exact kk
  rw [decide_eq_true w];refine fG ?_;refine ⟨_,rfl,_,_,_,_,rfl,rfl,cJ.of (s12 _ _ ht),rfl,_,rfl,_,_,_,_,rfl,rfl,cJ.of (s12 _ _ hu'),rfl,_,_,rfl,rfl,_,rfl, ?_⟩
  by_cases w2:x.2.1≥y.2.1
  rotate_left
  ·rw [decide_eq_false w2]
   refine fL ?_;have:mB x y=false:=by simp only [mB,decide_eq_false w2,Bool.false_and,Bool.and_false]
   rw [this] at kk;exact kk
  rw [decide_eq_true w2];refine fG ?_;refine ⟨_,rfl,_,_,_,_,rfl,rfl,cJ.of (s12 _ _ ht),rfl,_,rfl,_,_,_,_,rfl,rfl,cJ.of (s12 _ _ hu'),rfl,_,_,rfl,rfl, ?_⟩;have:mB x y=decide (x.2.2.2<=y.2.2.2):=by simp only [mB,decide_eq_true w,decide_eq_true w2,Bool.true_and]
  rw [this] at kk;exact kk
abbrev PN:=Nat×Nat
def wN (ws:List aW) (x:PN):Nt:=bH ws x.1 x.2
def nR (ws:List aW) (i j:Nat):Bool:=match ws[i]?,ws[j]? with
 | some y,some z=>mt y z
 | _,_=>false
theorem nQ {ws:List aW} {i j:Nat} {y z:aW} (hi:ws[i]? = some y) (hj:ws[j]? = some z):nR ws i j=mt y z:=by unfold nR;rw [hi,hj]
theorem jq {ws:List aW} {i j:Nat} (h:nR ws i j=true):i<ws.length/\j<ws.length /\ ¬hnd ws i=hnd ws j:=by
 unfold nR at h;cases ei:ws[i]? with
 | none=>rw [ei] at h;cases h
 | some y=>
   cases ej:ws[j]? with
   | none=>rw [ei,ej] at h;cases h
   | some z=>
     rw [ei,ej] at h;refine ⟨(List.getElem?_eq_some_iff.mp ei).1,(List.getElem?_eq_some_iff.mp ej).1,fun e=> ?_⟩;rw [bO ei,bO ej] at e;have h:mt y z=true:=h;unfold mt at h;rw [if_pos e] at h;cases h
def rP (ws:List aW) (j m:Nat):List PN:=((List.range m).filter fun i=>nR ws i j).map fun i=>(i,j)
def nu (ws:List aW) (n:Nat):List PN:=(List.range n).flatMap fun j=>rP ws j j
theorem vJ (ws:List aW) (n:Nat):nu ws (n+1)=nu ws n++rP ws n n:=by
 unfold nu;rw [List.range_succ,List.flatMap_append];simp
theorem Fp (ws:List aW) (j m:Nat):rP ws j (m+1)=rP ws j m++(if nR ws m j=true then [(m,j)] else []):=by
 unfold rP;rw [List.range_succ,List.filter_append,List.map_append];congr 1
 by_cases h:nR ws m j=true
 ·simp [h]
 ·simp [h]
theorem yt (ws:List aW) (j m:Nat):(rP ws j m).length<=m:=by
 unfold rP;rw [List.length_map];have:=List.length_filter_le (fun i=>nR ws i j) (List.range m);rw [List.length_range] at this;exact this
theorem uh (ws:List aW):∀n,n<=300->(nu ws n).length<=n*300
 | 0,_=>Nat.le_refl _
 | n+1,h=>by
   rw [vJ,List.length_append];have h1:=uh ws n (by omega);have h2:=yt ws n n;omega
def grp (ns:List Nt) (g h:Int):List Nt:=ns.filter fun x=>decide (x.1=g)&&decide (x.2.2.1=h)
theorem JV (ns:List Nt) (x:Nt) (g h:Int):grp (ns++[x]) g h=grp ns g h++(if x.1=g/\x.2.2.1=h then [x] else []):=by
 unfold grp;rw [List.filter_append];congr 1
 by_cases e:x.1=g/\x.2.2.1=h
 ·simp [e.1,e.2]
 ·rw [if_neg e]
  by_cases e1:x.1=g
  ·have e2:¬x.2.2.1=h:=fun z=>e ⟨e1,z⟩
   simp [e2]
  ·simp [e1]
theorem Ny (ns:List Nt) (g h:Int):(grp ns g h).length<=ns.length:=List.length_filter_le _ _
def XF (ws:List aW) (g h:Int) (x:PN):Bool:=decide (hnd ws x.1=g)&&decide (hnd ws x.2=h)
def pM (ws:List aW) (g h:Int):List PN:=(nu ws ws.length).filter (XF ws g h)
theorem wK (ws:List aW) (g h:Int):grp ((nu ws ws.length).map (wN ws)) g h=(pM ws g h).map (wN ws):=by
 unfold grp pM;rw [List.filter_map];rfl
def z6 (ws:List aW) (g h:Int) (x:PN):Prop:=x.2<ws.length/\x.1<x.2/\nR ws x.1 x.2=true/\hnd ws x.1=g/\hnd ws x.2=h
theorem wG {ws:List aW} {g h:Int} {x:PN}:x∈pM ws g h↔z6 ws g h x:=by
 unfold pM nu rP XF z6;rw [List.mem_filter,List.mem_flatMap,Bool.and_eq_true,decide_eq_true_iff,decide_eq_true_iff];constructor
 ·rintro ⟨⟨j,hj,hx⟩,a,b⟩
  obtain ⟨i,hi,rfl⟩:=List.mem_map.mp hx;obtain ⟨h1,h2⟩:=List.mem_filter.mp hi;exact ⟨List.mem_range.mp hj,List.mem_range.mp h1,h2,a,b⟩
 ·rintro ⟨h1,h2,h3,a,b⟩
  exact ⟨⟨x.2,List.mem_range.mpr h1,List.mem_map.mpr ⟨x.1,List.mem_filter.mpr ⟨List.mem_range.mpr h2,h3⟩,rfl⟩⟩,a,b⟩
def Bx (ws:List aW) (g:Int) (j:Nat):List Nat:=(List.range j).filter fun i=>decide (hnd ws i=g)&&nR ws i j
def wg (ws:List aW) (g:Int) (j:Nat):List PN:=(Bx ws g j).reverse.map fun i=>(i,j)
def lL (ws:List aW) (g h:Int) (n:Nat):List PN:=(List.range n).flatMap fun j=>if hnd ws j=h then wg ws g j else []
theorem qX (ws:List aW) (g h:Int) (n:Nat):lL ws g h (n+1)=lL ws g h n++(if hnd ws n=h then wg ws g n else []):=by
 unfold lL;rw [List.range_succ,List.flatMap_append];simp
theorem iZ {ws:List aW} {g h:Int} {n:Nat} {x:PN}:x∈lL ws g h n↔x.2<n/\x.1<x.2/\nR ws x.1 x.2=true/\hnd ws x.1=g/\hnd ws x.2=h:=by
 unfold lL;rw [List.mem_flatMap];constructor
 ·rintro ⟨j,hj,hx⟩
  split at hx
  ·rename_i e
   unfold wg Bx at hx;obtain ⟨i,hi,rfl⟩:=List.mem_map.mp hx;obtain ⟨h1,h2⟩:=List.mem_filter.mp (List.mem_reverse.mp hi);rw [Bool.and_eq_true,decide_eq_true_iff] at h2;exact ⟨List.mem_range.mp hj,List.mem_range.mp h1,h2.2,h2.1,e⟩
  ·simp at hx
 ·rintro ⟨h1,h2,h3,a,b⟩
  refine ⟨x.2,List.mem_range.mpr h1, ?_⟩;rw [if_pos b];unfold wg Bx;exact List.mem_map.mpr ⟨x.1,List.mem_reverse.mpr (List.mem_filter.mpr ⟨List.mem_range.mpr h2,by rw [Bool.and_eq_true,decide_eq_true_iff];exact ⟨a,h3⟩⟩),rfl⟩
def P0 (a b:PN):Prop:=a.2<b.2\/(a.2=b.2/\b.1<a.1)
theorem sV (ws:List aW) (g h:Int):∀n,(lL ws g h n).Pairwise P0
 | 0=>List.Pairwise.nil
 | n+1=>by
   rw [qX,List.pairwise_append];refine ⟨sV ws g h n, ?_,fun a ha b hb=> ?_⟩
   ·split
    ·unfold wg Bx
     rw [List.pairwise_map,List.pairwise_reverse];exact List.Pairwise.imp (fun z=> .inr ⟨rfl,z⟩) (List.Pairwise.filter _ List.pairwise_lt_range)
    ·exact List.Pairwise.nil
   ·split at hb
    ·unfold wg at hb
     obtain ⟨i,_,rfl⟩:=List.mem_map.mp hb;exact .inl (iZ.mp ha).1
    ·simp at hb
def lst (ws:List aW) (g:Int) (j:Nat):Nat:=(((List.range j).filter fun i=>decide (hnd ws i=g)).getLast?).getD 0
theorem rm {ws:List aW} {j:Nat} (h:j<ws.length) (g:Int):cnt (ws.take (j+1)) g=if g=hnd ws j then cnt (ws.take j) g+1 else cnt (ws.take j) g:=by
 have e:ws[j]? = some ws[j]:=by simp [h]
 have tk:ws.take (j+1)=ws.take j++[ws[j]]:=by rw [List.take_add_one,e];rfl
 rw [tk,gU,bO e]
theorem gP {ws:List aW} {g:Int}:∀{j i:Nat},i<j->j<=ws.length->hnd ws i=g->lst ws g j<j/\hnd ws (lst ws g j)=g/\(∀k,k<j->hnd ws k=g->k<=lst ws g j)/\cnt (ws.take (lst ws g j)) g+1=cnt (ws.take j) g
 | 0,i,h,_,_=>absurd h (Nat.not_lt_zero _)
 | j+1,i,h,hl,hg=>by
   have cs:=rm (ws:=ws) (j:=j) (by omega) g
   by_cases e:hnd ws j=g
   ·have el:lst ws g (j+1)=j:=by
     unfold lst;rw [List.range_succ,List.filter_append];simp [e]
    rw [el];refine ⟨Nat.lt_succ_self _,e,fun k hk _=>by omega, ?_⟩;rw [cs,if_pos e.symm]
   ·have el:lst ws g (j+1)=lst ws g j:=by
     unfold lst;rw [List.range_succ,List.filter_append];simp [e]
    have hi:i<j:=by
     rcases Nat.lt_succ_iff_lt_or_eq.mp h with z|z
     ·exact z
     ·subst z;exact absurd hg e
    obtain ⟨a,b,c,d⟩:=gP hi (by omega) hg;rw [el];refine ⟨by omega,b,fun k hk hg'=> ?_, ?_⟩
    ·rcases Nat.lt_succ_iff_lt_or_eq.mp hk with z|z
     ·exact c k z hg'
     ·subst z;exact absurd hg' e
    ·rw [cs,if_neg (Ne.symm e)];exact d
theorem wR {ws:List aW} {i j:Nat} {g:Int} (h:i<j) (hi:i<ws.length) (hg:hnd ws i=g):cnt (ws.take i) g<cnt (ws.take j) g:=by
 have m:=mj (ws:=ws) (m:=i+1) (n:=j) h g;rw [rm hi,if_pos hg.symm] at m;omega
def fr (ws:List aW) (g:Int):Nat->List PN->List (Nat×PN)
 | 0,_=>[]
 | _+1,[]=>[]
 | n+1,x::r=>(lst ws g x.2,x)::fr ws g n (r.filter fun o=>decide (lst ws g x.2<o.1))
theorem tH (ws:List aW) (g:Int) (n:Nat):fr ws g n []=[]:=by cases n<;>rfl
theorem wM (ws:List aW) (g:Int):∀(n m:Nat) (L:List PN),L.length<=n->L.length<=m->fr ws g n L=fr ws g m L
 | n,m,[],_,_=>by rw [tH,tH]
 | 0,_,_::_,h,_=>absurd h (by simp)
 | _+1,0,_::_,_,h=>absurd h (by simp)
 | n+1,m+1,x::r,h1,h2=>by
   have l:=List.length_filter_le (fun o:PN=>decide (lst ws g x.2<o.1)) r;simp only [List.length_cons] at h1 h2;show _::_=_::_;rw [wM ws g n m (r.filter fun o=>decide (lst ws g x.2<o.1)) (by omega) (by omega)]
def oH (ws:List aW) (g h:Int):List (Nat×PN):=fr ws g (lL ws g h ws.length).length (lL ws g h ws.length)
def fW (ws:List aW) (x:Nat×PN):Nt×Nt:=(wN ws x.2,bH ws x.1 x.2.2)
def Gj (ws:List aW) (x:PN):List Int:=[(wN ws x).2.2.2, -(wN ws x).2.1]
section
variable {ws:List aW} {g h:Int} {x:PN} {r M:List PN}
theorem RD {y:PN} (hx:z6 ws g h x) (hy:z6 ws g h y) (l:P0 x y):HT.lexLt (Gj ws x) (Gj ws y)=true:=by
 unfold Gj wN bH;dsimp only;obtain ⟨x1,x2,_,x4,x5⟩:=hx;obtain ⟨y1,y2,_,y4,y5⟩:=hy;rw [x4,x5,y4,y5,HT.i_];rcases l with l|⟨l1,l2⟩
 ·have:=wR (g:=h) l x1 x5
  rw [if_neg (by omega)];exact decide_eq_true this
 ·rw [l1,if_pos rfl,HT.i_]
  have:=wR (g:=g) l2 (by omega) y4;rw [if_neg (by omega)];exact decide_eq_true (by omega)
theorem Rq {y:PN} {i:Nat} (kf:Nat->List Int) (hk:∀(i:Nat) z,M[i]? = some z->kf i=Gj ws z) (xJ:(x::r).Pairwise P0) (hin:∀z∈x::r,z6 ws g h z) (mem:∀z,z∈M↔z∈x::r) (e:M[i]? = some y) (fm:cY kf M.length i):y=x:=by
 obtain ⟨k,ek⟩:=List.getElem?_of_mem ((mem x).mpr (.head _));have kl:k<M.length:=(List.getElem?_eq_some_iff.mp ek).1;have n:=(fm k kl).1;rw [hk k x ek,hk i y e] at n;have hy:=(mem y).mp (List.mem_of_getElem? e);rcases List.mem_cons.mp hy with z|z
 ·exact z
 ·have:=RD (hin x (.head _)) (hin y hy) ((List.pairwise_cons.mp xJ).1 y z)
  rw [this] at n;cases n
theorem Ju {y:PN} (hx:z6 ws g h x) (hy:z6 ws g h y) (l:y=x\/P0 x y):(!mB (bH ws (lst ws g x.2) x.2) (wN ws y))=decide (lst ws g x.2<y.1):=by
 obtain ⟨x1,x2,_,x4,x5⟩:=hx;obtain ⟨y1,y2,_,y4,y5⟩:=hy;obtain ⟨a,b,c,d⟩:=gP (ws:=ws) x2 (by omega) x4
 have ge:x.2<=y.2:=by
  rcases l with rfl|l|l
  ·exact Nat.le_refl _
  ·omega
  ·omega
 unfold mB wN bH;dsimp only;rw [b,x5,y4,y5];have m2:=mj (ws:=ws) ge h
 by_cases e:lst ws g x.2<y.1
 ·have:=wR (g:=g) e (by omega) b
  have n:¬cnt (ws.take (lst ws g x.2)) g≥cnt (ws.take y.1) g:=by omega
  simp [n,e]
 ·have:=mj (ws:=ws) (m:=y.1) (n:=lst ws g x.2) (by omega) g
  have n:cnt (ws.take (lst ws g x.2)) g≥cnt (ws.take y.1) g:=by omega
  simp [n,e,m2]
end
def lJ:List (List Int):=(List.range 8).flatMap fun (g:Nat)=>(List.range 8).flatMap fun (h:Nat)=>if h=g then [] else [[(g:Int),(h:Int)]]
def xO (ws:List aW):List Int->List (Nat×PN)
 | [g,h]=>oH ws g h
 | _=>[]
def bI (ws:List aW):List (Nat×PN):=(List.range 8).flatMap fun (g:Nat)=>(List.range 8).flatMap fun (h:Nat)=>if h=g then [] else oH ws g h
theorem tK (ws:List aW):bI ws=lJ.flatMap (xO ws):=by
 unfold bI lJ;rw [List.flatMap_assoc];congr 1;funext g;rw [List.flatMap_assoc];congr 1;funext h;split
 ·rfl
 ·simp [xO]
theorem oN:∀{a b:List (List Int)},a.Perm b->a.Pairwise (fun x y=>Tim.eY y x=false)->b.Pairwise (fun x y=>Tim.eY y x=false)->a=b
 | [],_,p,_,_=>p.nil_eq
 | x::r,b,p,ha,hb=>by
   cases b with
   | nil=>exact absurd p.length_eq (by simp)
   | cons y t=>
     have hx:x∈y::t:=p.mem_iff.mp (.head _);have hy:y∈x::r:=p.mem_iff.mpr (.head _)
     have e:x=y:=by
      rcases List.mem_cons.mp hx with h|h
      ·exact h
      ·rcases List.mem_cons.mp hy with h'|h'
       ·exact h'.symm
       ·exact Tim.sS _ _ ((List.pairwise_cons.mp hb).1 x h) ((List.pairwise_cons.mp ha).1 y h')
     subst e;rw [oN (List.perm_cons _ |>.mp p) (List.pairwise_cons.mp ha).2 (List.pairwise_cons.mp hb).2]
theorem w6:lJ.Nodup:=by decide +kernel
theorem zP:lJ.Pairwise (fun x y=>Tim.eY y x=false):=by decide +kernel
theorem jW {α β:Type} (f:α->List β):∀l:List α,(l.filter fun x=> !(f x).isEmpty).flatMap f=l.flatMap f
 | []=>rfl
 | x::l=>by
   rw [List.filter_cons];cases h:(f x).isEmpty with
   | true=>
     have e:f x=[]:=List.isEmpty_iff.mp h;simp [e,jW f l]
   | false=>simp [jW f l]
theorem Dh {α:Type} [DecidableEq α] {a b:List α} (ha:a.Nodup) (hb:b.Nodup) (h:∀x,x∈a↔x∈b):a.Perm b:=(List.perm_ext_iff_of_nodup ha hb).mpr h
theorem JK {ws:List aW} {ms:List (List Int)} (nd:ms.Nodup) (xJ:ms.Pairwise fun x y=>Tim.eY y x=false) (mem:∀k,k∈ms↔k∈lJ/\xO ws k≠[]):ms.flatMap (xO ws)=bI ws:=by
 have e:ms=lJ.filter fun k=> !(xO ws k).isEmpty:=oN (Dh nd (w6.filter _) fun k=>by
  rw [mem k,List.mem_filter,Bool.not_eq_true',←Bool.not_eq_true,List.isEmpty_iff]) xJ (List.Pairwise.filter _ zP)
 rw [e,jW,tK]
theorem Js {g h:Int}:[g,h]∈lJ↔(0<=g/\g<8)/\(0<=h/\h<8) /\ ¬h=g:=by
 unfold lJ;simp only [List.mem_flatMap,List.mem_range];constructor
 ·rintro ⟨a,ha,b,hb,hx⟩
  split at hx
  ·simp at hx
  ·rename_i ne
   simp at hx;obtain ⟨rfl,rfl⟩:=hx;refine ⟨⟨by omega,by omega⟩,⟨by omega,by omega⟩,by omega⟩
 ·rintro ⟨⟨a,b⟩,⟨c,d⟩,e⟩
  refine ⟨g.toNat,by omega,h.toNat,by omega, ?_⟩;rw [if_neg (by omega)];simp;omega
theorem uo {k:List Int} (h:k∈lJ):∃g h,k=[g,h]:=by
 unfold lJ at h;simp only [List.mem_flatMap,List.mem_range] at h;obtain ⟨a,_,b,_,hx⟩:=h;split at hx
 ·simp at hx
 ·simp at hx
  exact ⟨_,_,hx⟩
theorem J8 {ws:List aW} {g h:Int}:oH ws g h≠[]↔pM ws g h≠[]:=by
 have e:pM ws g h=[]↔lL ws g h ws.length=[]:=by
  rw [List.eq_nil_iff_forall_not_mem,List.eq_nil_iff_forall_not_mem];exact ⟨fun z x hx=>z x (wG.mpr (iZ.mp hx)),fun z x hx=>z x (iZ.mpr (wG.mp hx))⟩
 refine not_congr ?_;rw [e];unfold oH;cases q:lL ws g h ws.length with
 | nil=>simp [tH]
 | cons x r=>
   constructor
   ·intro z
    cases z
   ·intro z
    cases z
theorem IV {ws:List aW} {g h:Int} (ok:∀x∈ws,lK x) (ne:pM ws g h≠[]):[g,h]∈lJ:=by
 obtain ⟨x,hx⟩:=List.exists_mem_of_ne_nil _ ne;obtain ⟨h1,h2,h3,rfl,rfl⟩:=wG.mp hx;obtain ⟨a,b,c⟩:=jq h3;have ea:ws[x.1]? = some ws[x.1]:=by simp [a]
 have eb:ws[x.2]? = some ws[x.2]:=by simp [b]
 rw [Js];refine ⟨?_, ?_,fun z=>c z.symm⟩
 ·rw [bO ea];exact (ok _ (List.getElem_mem a)).1
 ·rw [bO eb];exact (ok _ (List.getElem_mem b)).1
theorem JZ {ws:List aW} {g h:Int}:∀(n:Nat) (L:List PN) (b:Nat),L.Pairwise P0->(∀z∈L,z6 ws g h z)->(∀z∈L,b<=z.2)->b<=ws.length->(fr ws g n L).length+b<=ws.length
 | 0,_,b,_,_,_,hb=>by show 0+b<=_;omega
 | n+1,[],b,_,_,_,hb=>by show 0+b<=_;omega
 | n+1,x::r,b,xJ,win,low,hb=>by
   obtain ⟨x1,x2,_,x4,_⟩:=win x (.head _);have lb:=low x (.head _)
   have ih:=JZ (ws:=ws) (g:=g) (h:=h) n (r.filter fun o=>decide (lst ws g x.2<o.1)) (x.2+1) ((List.pairwise_cons.mp xJ).2.filter _) (fun z hz=>win z (.tail _ (List.mem_filter.mp hz).1)) (fun z hz=>by
    obtain ⟨hz1,hz2⟩:=List.mem_filter.mp hz;have hz2:=of_decide_eq_true hz2;rcases (List.pairwise_cons.mp xJ).1 z hz1 with q|⟨q1,q2⟩
    ·exact q
    ·obtain ⟨_,_,_,z4,_⟩:=win z (.tail _ hz1)
     have:=(gP (ws:=ws) x2 (by omega) x4).2.2.1 z.1 (by omega) z4;omega) (by omega)
   show (fr ws g n _).length+1+b<=_;omega
theorem DX (ws:List aW) (g h:Int):(oH ws g h).length<=ws.length:=
 JZ (h:=h) _ _ 0 (sV ws g h _) (fun z hz=>iZ.mp hz) (fun z _=>Nat.zero_le _) (Nat.zero_le _)
theorem NP {ws:List aW} (hl:ws.length<=300) (k:List Int):(xO ws k).length<=300:=by
 unfold xO;split
 ·exact Nat.le_trans (DX _ _ _) hl
 ·exact Nat.zero_le _
theorem tM {ws:List aW} (hl:ws.length<=300):∀l:List (List Int),(l.flatMap (xO ws)).length<=l.length*300
 | []=>Nat.le_refl _
 | k::l=>by
   rw [List.flatMap_cons,List.length_append,List.length_cons];have:=NP hl k;have:=tM hl l;omega
theorem JH {ws:List aW} {ms:List (List Int)} (nd:ms.Nodup) (xJ:ms.Pairwise fun x y=>Tim.eY y x=false) (mem:∀k,k∈ms↔k∈lJ/\xO ws k≠[]):ms.length<=56:=by
 have e:ms=lJ.filter fun k=> !(xO ws k).isEmpty:=oN (Dh nd (w6.filter _) fun k=>by
  rw [mem k,List.mem_filter,Bool.not_eq_true',←Bool.not_eq_true,List.isEmpty_iff]) xJ (List.Pairwise.filter _ zP)
 rw [e];exact Nat.le_trans (List.length_filter_le _ _) (by decide +kernel)
section
variable {ws:List aW} {g h:Int}
theorem za:∀(n:Nat) (L:List PN),L.length<=n->L.Pairwise P0->(∀z∈L,z6 ws g h z) -> ∀z∈L,∃y∈fr ws g n L,z.1<=y.1/\y.2.2<=z.2
 | _,[],_,_,_,z,hz=>by simp at hz
 | 0,_::_,hl,_,_,_,_=>absurd hl (by simp)
 | n+1,x::r,hl,xJ,win,z,hz=>by
   by_cases q:lst ws g x.2<z.1
   ·rcases List.mem_cons.mp hz with rfl|hz
    ·obtain ⟨x1,x2,_,x4,_⟩:=win z (.head _)
     have:=(gP (ws:=ws) x2 (by omega) x4).2.2.1 z.1 x2 x4;omega
    ·have fl:=List.length_filter_le (fun o:PN=>decide (lst ws g x.2<o.1)) r
     simp only [List.length_cons] at hl;obtain ⟨y,hy,a,b⟩:=za n (r.filter fun o=>decide (lst ws g x.2<o.1)) (by omega) ((List.pairwise_cons.mp xJ).2.filter _) (fun z hz=>win z (.tail _ (List.mem_filter.mp hz).1)) z (List.mem_filter.mpr ⟨hz,decide_eq_true q⟩);exact ⟨y,.tail _ hy,a,b⟩
   ·refine ⟨(lst ws g x.2,x),.head _,by show z.1<=lst ws g x.2;omega, ?_⟩
    show x.2<=z.2;rcases List.mem_cons.mp hz with rfl|hz
    ·exact Nat.le_refl _
    ·rcases (List.pairwise_cons.mp xJ).1 z hz with w|w<;>omega
theorem wL:∀(n:Nat) (L:List PN) (y:Nat×PN),y∈fr ws g n L->y.2∈L/\y.1=lst ws g y.2.2
 | 0,_,y,hy=>by simp [fr] at hy
 | _+1,[],y,hy=>by simp [fr] at hy
 | n+1,x::r,y,hy=>by
   rcases List.mem_cons.mp hy with rfl|hy
   ·exact ⟨.head _,rfl⟩
   ·obtain ⟨a,b⟩:=wL n _ y hy
    exact ⟨.tail _ (List.mem_filter.mp a).1,b⟩
def Y9 (y z:Nat×PN):Prop:=y.1<z.2.1/\y.2.2<z.2.1
theorem J6:∀(n:Nat) (L:List PN),(∀z∈L,z6 ws g h z)->L.Pairwise P0->(fr ws g n L).Pairwise Y9
 | 0,_,_,_=>List.Pairwise.nil
 | _+1,[],_,_=>List.Pairwise.nil
 | n+1,x::r,win,xJ=>by
   refine List.pairwise_cons.mpr ⟨fun y hy=> ?_,J6 n _ (fun z hz=>win z (.tail _ (List.mem_filter.mp hz).1)) ((List.pairwise_cons.mp xJ).2.filter _)⟩;obtain ⟨a,_⟩:=wL n _ y hy;obtain ⟨a1,a2⟩:=List.mem_filter.mp a;have a2:=of_decide_eq_true a2;obtain ⟨x1,x2,x3,x4,x5⟩:=win x (.head _);obtain ⟨y1,y2,y3,y4,y5⟩:=win y.2 (.tail _ a1);refine ⟨a2, ?_⟩;show x.2<y.2.1;have ne:=(jq x3).2.2;rcases Nat.lt_trichotomy x.2 y.2.1 with q|q|q
   ·exact q
   ·exact absurd (by rw [x4,q,y4]) ne
   ·have:=(gP (ws:=ws) x2 (by omega) x4).2.2.1 y.2.1 q y4
    omega
theorem cP {y:Nat×PN} (hy:y∈oH ws g h):z6 ws g h y.2/\y.1=lst ws g y.2.2:=by
 obtain ⟨a,b⟩:=wL _ _ _ hy;exact ⟨iZ.mp a,b⟩
theorem DY:(oH ws g h).Pairwise Y9:=J6 (h:=h) _ _ (fun z hz=>iZ.mp hz) (sV ws g h _)
theorem vf {z:PN} (hz:z6 ws g h z):∃y∈oH ws g h,z.1<=y.1/\y.2.2<=z.2:=za (h:=h) _ _ (Nat.le_refl _) (sV ws g h _) (fun z hz=>iZ.mp hz) z (iZ.mpr hz)
theorem wO {y z:Nat×PN} (hy:y∈oH ws g h) (hz:z∈oH ws g h):y=z\/Y9 y z\/Y9 z y:=by
 have:=DY (ws:=ws) (g:=g) (h:=h);generalize oH ws g h=l at *
 induction l with
 | nil=>simp at hy
 | cons x l ih=>
   obtain ⟨p1,p2⟩:=List.pairwise_cons.mp this;rcases List.mem_cons.mp hy with rfl|hy'
   ·rcases List.mem_cons.mp hz with rfl|hz'
    ·exact .inl rfl
    ·exact .inr (.inl (p1 z hz'))
   ·rcases List.mem_cons.mp hz with rfl|hz'
    ·exact .inr (.inr (p1 y hy'))
    ·exact ih hy' hz' p2
theorem bM {y:Nat×PN} (ok:∀x∈ws,0<=x.1/\x.1<8):y∈bI ws↔y∈oH ws (hnd ws y.2.1) (hnd ws y.2.2):=by
 unfold bI;simp only [List.mem_flatMap,List.mem_range];constructor
 ·rintro ⟨g,_,h,_,hx⟩
  split at hx
  ·simp at hx
  ·obtain ⟨⟨_,_,_,e1,e2⟩,_⟩:=cP hx
   rw [e1,e2];exact hx
 ·intro hy
  obtain ⟨⟨a1,a2,a3,_,_⟩,_⟩:=cP hy;obtain ⟨b1,b2,ne⟩:=jq a3;have ea:ws[y.2.1]? = some ws[y.2.1]:=by simp [b1]
  have eb:ws[y.2.2]? = some ws[y.2.2]:=by simp [b2]
  obtain ⟨q1,q2⟩:=ok _ (List.getElem_mem b1);obtain ⟨q3,q4⟩:=ok _ (List.getElem_mem b2);rw [←bO ea] at q1 q2;rw [←bO eb] at q3 q4;refine ⟨(hnd ws y.2.1).toNat,by omega,(hnd ws y.2.2).toNat,by omega, ?_⟩;rw [if_neg (by omega),Int.toNat_of_nonneg q1,Int.toNat_of_nonneg q3];exact hy
def nF (ws:List aW) (y:Nat×PN):Nt:=(fW ws y).2
theorem iM {y:Nat×PN} (hy:y∈oH ws g h):kj ws (nF ws y) y.1 y.2.2/\hnd ws y.1=g/\hnd ws y.2.2=h/\y.2.1<=y.1:=by
 obtain ⟨⟨a1,a2,a3,a4,a5⟩,e⟩:=cP hy;obtain ⟨l1,l2,l3,_⟩:=gP (ws:=ws) a2 (by omega) a4;rw [←e] at l1 l2 l3;have ne:=(jq a3).2.2;refine ⟨⟨?_, ?_, ?_,l1⟩,l2,a5,l3 _ a2 a4⟩
 ·show hnd ws y.1≠hnd ws y.2.2
  rw [l2,←a4];exact ne
 ·rw [iy (by omega)]
  rfl
 ·rw [iy (by omega)]
  rfl
theorem Dj {ns:List Nt} {i j:Nat} (hj:j<ws.length) (l:i<=j) (e:hnd ws i=hnd ws j):i=j\/iu ws ns j i:=by
 rcases Nat.lt_or_eq_of_le l with q|q
 ·exact .inr (tE ns j i hj q e)
 ·exact .inl q
theorem Fe {ns:List Nt} (hn:∀y∈bI ws,nF ws y∈ns) (ok:∀x∈ws,0<=x.1/\x.1<8):EnP ws ns:=by
 intro i j x y lt ei ej m;have jl:=(List.getElem?_eq_some_iff.mp ej).1;have hw:z6 ws (hnd ws i) (hnd ws j) (i,j):=⟨jl,lt,by rw [nQ ei ej];exact m,rfl,rfl⟩;obtain ⟨z,hz,a,b⟩:=vf hw;have a:i<=z.1:=a;have b:z.2.2<=j:=b;obtain ⟨st,e1,e2,_⟩:=iM hz
 have zm:nF ws z∈ns:=hn z ((bM ok).mpr (by
  obtain ⟨⟨_,_,_,q1,q2⟩,_⟩:=cP hz;rw [q1,q2];exact hz))
 have s:SE ws ns z.1 z.2.2:= .inr ⟨_,zm,st⟩;have sl:=s.lt
 have r1:iu ws ns z.2.2 i:=by
  rcases Dj (ns:=ns) (i:=i) (j:=z.1) (by omega) a e1.symm with q|q
  ·rw [q];exact .one s
  ·exact oY s q
 rcases Dj (ns:=ns) (i:=z.2.2) (j:=j) jl b e2 with q|q
 ·rw [←q];exact r1
 ·exact mX r1 q
theorem cross {ns:List Nt} {a b:Int} (two:∀x∈ws,x.1=a\/x.1=b) (nab:¬a=b) {j i:Nat} (r:iu ws ns j i) (hi:hnd ws i=a) (hj:hnd ws j=b):∃x∈ns,∃i1 j1,kj ws x i1 j1/\hnd ws i1=a/\hnd ws j1=b/\i<=i1/\j1<=j:=by
 have le:∀{j i:Nat},iu ws ns j i->i<j:=fun {j i} r=>by
  induction r with
  | one h=>exact h.lt.1
  | more h _ ih=>exact Nat.lt_trans h.lt.1 ih
 induction r with
 | one h=>
   rcases h with ⟨_,_,e,_⟩|⟨x,hx,st⟩
   ·exact absurd (by rw [←hi,←hj,e]) nab
   ·exact ⟨x,hx,_,_,st,hi,hj,Nat.le_refl _,Nat.le_refl _⟩
 | more h r ih=>
   rename_i i k;have hl:=h.lt;rcases h with ⟨_,_,e,_⟩|⟨x,hx,st⟩
   ·obtain ⟨y,hy,i1,j1,q1,q2,q3,q4,q5⟩:=ih (by rw [←e];exact hi)
    exact ⟨y,hy,i1,j1,q1,q2,q3,by omega,q5⟩
   ·have ek:ws[k]? = some ws[k]:=by simp [hl.2]
    rcases two _ (List.getElem_mem hl.2) with q|q
    ·obtain ⟨y,hy,i1,j1,q1,q2,q3,q4,q5⟩:=ih (by rw [bO ek];exact q)
     exact ⟨y,hy,i1,j1,q1,q2,q3,by omega,q5⟩
    ·exact ⟨x,hx,i,k,st,hi,by rw [bO ek];exact q,Nat.le_refl _,Nat.le_of_lt (le r)⟩
end
section
variable {ws:List aW} {g h:Int}
theorem J9:(oH ws g h).Nodup:=by
 refine List.Pairwise.imp_of_mem (fun {y z} hy hz a e=> ?_) (DY (ws:=ws) (g:=g) (h:=h));subst e;obtain ⟨⟨_,l,_⟩,_⟩:=cP hy;have:=a.2;omega
theorem Rn {y z:Nat×PN} (hy:y∈oH ws g h) (hz:z∈oH ws g h) (e:nF ws y=nF ws z):y=z:=by
 obtain ⟨s1,_,_,l1⟩:=iM hy;obtain ⟨s2,_,_,l2⟩:=iM hz;rw [e] at s1;obtain ⟨a,b⟩:=kY s1 s2;rcases wO hy hz with q|q|q
 ·exact q
 ·have:=q.1;omega
 ·have:=q.1;omega
def Two (ws:List aW) (a b:Int):Prop:=¬a=b /\ ∀x∈ws,x.1=a\/x.1=b
theorem Two.hnd {a b:Int} (t:Two ws a b) {i:Nat} (hi:i<ws.length):hnd ws i=a\/hnd ws i=b:=by
 have e:ws[i]? = some ws[i]:=by simp [hi]
 rw [bO e];exact t.2 _ (List.getElem_mem hi)
theorem Two.comm {a b:Int} (t:Two ws a b):Two ws b a:=⟨Ne.symm t.1,fun x hx=>(t.2 x hx).symm⟩
theorem Jb {a b:Int} (t:Two ws a b) {ns:List Nt} {y:Nat×PN} (hy:y∈oH ws a b) (hn:∀x∈ns,∃z∈bI ws,x=nF ws z) (ok:∀x∈ws,0<=x.1/\x.1<8) (r:iu ws ns y.2.2 y.2.1):nF ws y∈ns:=by
 obtain ⟨⟨y1,y2,y3,y4,y5⟩,ye⟩:=cP hy;obtain ⟨x,hx,i1,j1,st,q2,q3,q4,q5⟩:=cross t.2 t.1 r y4 y5;obtain ⟨z,hz,rfl⟩:=hn x hx;have hz:=(bM ok).mp hz;obtain ⟨sz,z1,z2,z3⟩:=iM hz;obtain ⟨e1,e2⟩:=kY st sz;obtain ⟨⟨w1,w2,w3,w4,w5⟩,we⟩:=cP hz;have ea:hnd ws z.2.1=a:=by rw [←z1,←e1];exact q2
 have eb:hnd ws z.2.2=b:=by rw [←e2];exact q3
 rw [ea,eb] at hz;rcases wO hy hz with q|q|q
 ·rw [q];exact hx
 ·have:=q.2;omega
 ·have:=q.1;omega
theorem lost {a b:Int} (t:Two ws a b) {ns:List Nt} {y:Nat×PN} (hy:y∈bI ws) (hn:∀x∈ns,∃z∈bI ws,x=nF ws z) (ok:∀x∈ws,0<=x.1/\x.1<8) (nin:nF ws y∉ns):¬EnP ws ns:=fun en=>by
 have hy:=(bM ok).mp hy;obtain ⟨⟨y1,y2,y3,_,_⟩,_⟩:=cP hy;obtain ⟨b1,b2,ne⟩:=jq y3;have ei:ws[y.2.1]? = some ws[y.2.1]:=by simp [b1]
 have ej:ws[y.2.2]? = some ws[y.2.2]:=by simp [b2]
 have m:mt ws[y.2.1] ws[y.2.2]=true:=by rw [←nQ ei ej];exact y3
 have r:=en _ _ _ _ y2 ei ej m
 have t':Two ws (hnd ws y.2.1) (hnd ws y.2.2):=by
  rcases t.hnd b1 with q1|q1<;>rcases t.hnd b2 with q2|q2
  ·exact absurd (by rw [q1,q2]) ne
  ·rw [q1,q2];exact t
  ·rw [q1,q2];exact t.comm
  ·exact absurd (by rw [q1,q2]) ne
 exact nin (Jb t' hy hn ok r)
theorem Fi {a b:Int} (t:Two ws a b) {y:Nat×PN} (hy:y∈oH ws a b):∃i j,Qa ws i j/\hnd ws i=a/\hnd ws j=b/\y.2.1<=i/\j<=y.2.2:=by
 obtain ⟨⟨y1,y2,y3,y4,y5⟩,ye⟩:=cP hy;obtain ⟨b1,b2,ne⟩:=jq y3;have ei:ws[y.2.1]? = some ws[y.2.1]:=by simp [b1]
 have ej:ws[y.2.2]? = some ws[y.2.2]:=by simp [b2]
 have m:mt ws[y.2.1] ws[y.2.2]=true:=by rw [←nQ ei ej];exact y3
 have st:=(Ro y2 ei ej m).1;have r:iu ws (lH ws ws.length) y.2.2 y.2.1:=Sx (fun i j n=>DP n) _ _ _ (Nat.le_refl _) (.one st);obtain ⟨x,hx,i1,j1,s,q2,q3,q4,q5⟩:=cross t.2 t.1 r y4 y5;obtain ⟨i,j,rfl,n⟩:=uY hx;have s':kj ws (bH ws i j) i j:=⟨n.ne,by rw [iy (by have:=n.lt;have:=n.jl;omega)];rfl,by rw [iy n.jl];rfl,n.lt⟩;obtain ⟨e1,e2⟩:=kY s s';subst e1 e2;exact ⟨_,_,n,q2,q3,q4,q5⟩
theorem Nm {α β:Type} {l:List α} {s:List β} (f:α->β) (nd:l.Nodup) (mem:∀x∈l,f x∈s) (inj:∀x∈l,∀y∈l,f x=f y->x=y):l.length<=s.length:=by
 have h:(l.map f).Nodup:=by
  rw [List.nodup_iff_pairwise_ne,List.pairwise_map];exact List.Pairwise.imp_of_mem (fun {x y} hx hy ne e=>ne (inj x hx y hy e)) nd
 have:=List.Nodup.length_le_of_subset h (l₂:=s) fun z hz=>by
  obtain ⟨x,hx,rfl⟩:=List.mem_map.mp hz;exact mem x hx
 rw [List.length_map] at this;exact this
open Classical in
theorem Sh {a b:Int} (t:Two ws a b):(oH ws a b).length<=((lH ws ws.length).filter fun x=>decide (x.1=a)).length:=by
 have ex:∀y:Nat×PN,y∈oH ws a b -> ∃p:Nat×Nat,Qa ws p.1 p.2/\hnd ws p.1=a/\hnd ws p.2=b/\y.2.1<=p.1/\p.2<=y.2.2:=fun y hy=>by
  obtain ⟨i,j,q⟩:=Fi t hy;exact ⟨(i,j),q⟩
 let f:Nat×PN->Nt:=fun y=>if hy:y∈oH ws a b then bH ws (choose (ex y hy)).1 (choose (ex y hy)).2 else (0,0,0,0)
 have fe:∀y (hy:y∈oH ws a b),f y=bH ws (choose (ex y hy)).1 (choose (ex y hy)).2:=fun y hy=>dif_pos hy;refine Nm f J9 (fun y hy=> ?_) (fun y hy z hz e=> ?_)
 ·rw [fe y hy]
  obtain ⟨n,h1,_⟩:=choose_spec (ex y hy);exact List.mem_filter.mpr ⟨DP n,decide_eq_true h1⟩
 ·rw [fe y hy,fe z hz] at e
  obtain ⟨n1,a1,b1,c1,d1⟩:=choose_spec (ex y hy);obtain ⟨n2,a2,b2,c2,d2⟩:=choose_spec (ex z hz);generalize choose (ex y hy)=p at *;generalize choose (ex z hz)=q at *;have s1:kj ws (bH ws p.1 p.2) p.1 p.2:=⟨n1.ne,by rw [iy (by have:=n1.lt;have:=n1.jl;omega)];rfl,by rw [iy n1.jl];rfl,n1.lt⟩;have s2:kj ws (bH ws q.1 q.2) q.1 q.2:=⟨n2.ne,by rw [iy (by have:=n2.lt;have:=n2.jl;omega)];rfl,by rw [iy n2.jl];rfl,n2.lt⟩;rw [e] at s1;obtain ⟨e1,e2⟩:=kY s1 s2;have l1:=n1.lt;rcases wO hy hz with w|w|w
  ·exact w
  ·have:=w.2;omega
  ·have:=w.2;omega
end
section
variable {ws:List aW} {c:Nat} {g h:Int}
theorem lE {i:Nat} (hi:i<c):hnd (ws.take c) i=hnd ws i:=by
 unfold hnd;rw [List.getElem?_take_of_lt hi]
theorem Gd {i j:Nat} (hi:i<c) (hj:j<c):nR (ws.take c) i j=nR ws i j:=by
 unfold nR;rw [List.getElem?_take_of_lt hi,List.getElem?_take_of_lt hj]
theorem zE {i:Nat} (hi:i<=c):cnt ((ws.take c).take i) g=cnt (ws.take i) g:=by
 rw [List.take_take,Nat.min_eq_left hi]
theorem p8 {i j:Nat} (hi:i<c) (hj:j<c):bH (ws.take c) i j=bH ws i j:=by
 unfold bH;rw [lE hi,lE hj,zE (by omega),zE (by omega)]
theorem Jv {j:Nat} (hj:j<=c):lst (ws.take c) g j=lst ws g j:=by
 unfold lst;rw [List.filter_congr (q:=fun i=>decide (hnd ws i=g)) fun i hi=>by rw [lE (by have:=List.mem_range.mp hi;omega)]]
theorem Gq {j:Nat} (hj:j<c):Bx (ws.take c) g j=Bx ws g j:=by
 unfold Bx;refine List.filter_congr fun i hi=> ?_;have:=List.mem_range.mp hi;rw [lE (by omega),Gd (by omega) hj]
theorem Dy:∀n,n<=c->lL (ws.take c) g h n=lL ws g h n
 | 0,_=>rfl
 | n+1,hn=>by
   rw [qX,qX,Dy n (by omega),lE (by omega)];unfold wg;rw [Gq (by omega)]
theorem Dz:∀n,c<=n -> ∃R,lL ws g h n=lL ws g h c++R /\ ∀z∈R,c<=z.2
 | 0,hc=>by
   obtain rfl:c=0:=by omega
   exact ⟨[],by simp,by simp⟩
 | n+1,hc=>by
   rcases Nat.lt_or_eq_of_le hc with q|q
   ·obtain ⟨R,e,f⟩:=Dz n (by omega)
    refine ⟨R++(if hnd ws n=h then wg ws g n else []),by rw [qX,e,List.append_assoc],fun z hz=> ?_⟩;rcases List.mem_append.mp hz with hz|hz
    ·exact f z hz
    ·split at hz
     ·unfold wg at hz
      obtain ⟨i,_,rfl⟩:=List.mem_map.mp hz;show c<=n;omega
     ·simp at hz
   ·subst q
    exact ⟨[],by simp,by simp⟩
theorem DW:∀(m:Nat) (A:List PN),(∀z∈A,z.2<c)->fr (ws.take c) g m A=fr ws g m A
 | 0,_,_=>rfl
 | _+1,[],_=>rfl
 | m+1,x::r,hA=>by
   show (lst (ws.take c) g x.2,x)::fr (ws.take c) g m _=(lst ws g x.2,x)::fr ws g m _;rw [Jv (Nat.le_of_lt (hA x (.head _))),DW m _ fun z hz=>hA z (.tail _ (List.mem_filter.mp hz).1)]
theorem JX:∀(m:Nat) (A B:List PN),(∀z∈A,z.2<c)->(∀z∈B,c<=z.2)->(fr ws g m (A++B)).filter (fun y=>decide (y.2.2<c))=fr ws g m A
 | 0,_,_,_,_=>rfl
 | m+1,[],B,_,hB=>by
   rw [List.nil_append,tH,List.filter_eq_nil_iff];intro y hy;have:=hB _ (wL _ _ _ hy).1;rw [decide_eq_true_iff];omega
 | m+1,x::r,B,hA,hB=>by
   show List.filter _ ((lst ws g x.2,x)::fr ws g m ((r++B).filter _))=(lst ws g x.2,x)::fr ws g m _;rw [List.filter_cons,if_pos (decide_eq_true (show x.2<c from hA x (.head _))),List.filter_append,JX m _ _ (fun z hz=>hA z (.tail _ (List.mem_filter.mp hz).1)) fun z hz=>hB z (List.mem_filter.mp hz).1]
theorem J7 (hc:c<=ws.length):oH (ws.take c) g h=(oH ws g h).filter fun y=>decide (y.2.2<c):=by
 unfold oH;have l:(ws.take c).length=c:=by rw [List.length_take];omega
 rw [l,Dy c (Nat.le_refl _)];obtain ⟨R,e,f⟩:=Dz (ws:=ws) (g:=g) (h:=h) ws.length hc;have hA:∀z∈lL ws g h c,z.2<c:=fun z hz=>(iZ.mp hz).1;rw [e,JX _ _ _ hA f,DW _ _ hA];exact wM ws g _ _ _ (Nat.le_refl _) (by rw [List.length_append];omega)
theorem BK (hc:c<=ws.length):bI (ws.take c)=(bI ws).filter fun y=>decide (y.2.2<c):=by
 unfold bI;rw [List.filter_flatMap];congr 1;funext g;rw [List.filter_flatMap];congr 1;funext h;split
 ·rfl
 ·exact J7 hc
theorem Ek {j:Nat} (hj:j<ws.length):cnt (ws.take j) (hnd ws j)<cnt (ws.take c) (hnd ws j)↔j<c:=by
 constructor
 ·intro q
  rcases Nat.lt_or_ge j c with w|w
  ·exact w
  ·have:=mj (ws:=ws) w (hnd ws j)
   omega
 ·intro q
  exact wR q hj rfl
def pc (ws:List aW) (c:Nat) (x:Nt):Bool:=decide (x.2.2.2<cnt (ws.take c) x.2.2.1)
theorem vg (ok:∀x∈ws,0<=x.1/\x.1<8) (hc:c<=ws.length) (f:List aW->Nat×PN->Nt) (f1:∀y∈bI ws,(f ws y).2.2.1=hnd ws y.2.2/\(f ws y).2.2.2=cnt (ws.take y.2.2) (hnd ws y.2.2)) (f2:∀y∈bI ws,y.2.2<c->f (ws.take c) y=f ws y):(bI (ws.take c)).map (f (ws.take c))=((bI ws).map (f ws)).filter (pc ws c):=by
 rw [BK hc,List.filter_map,List.filter_congr (q:=pc ws c∘f ws) fun y hy=> ?_]
 ·refine List.map_congr_left fun y hy=> ?_
  obtain ⟨h1,h2⟩:=List.mem_filter.mp hy;have jl:y.2.2<ws.length:=(cP ((bM ok).mp h1)).1.1;obtain ⟨e1,e2⟩:=f1 y h1;have h2:decide ((f ws y).2.2.2<cnt (ws.take c) (f ws y).2.2.1)=true:=h2;rw [e1,e2,decide_eq_true_iff,Ek jl] at h2;exact f2 y h1 h2
 ·have jl:y.2.2<ws.length:=(cP ((bM ok).mp hy)).1.1
  obtain ⟨e1,e2⟩:=f1 y hy;show decide (y.2.2<c)=decide ((f ws y).2.2.2<cnt (ws.take c) (f ws y).2.2.1);rw [e1,e2,Bool.eq_iff_iff,decide_eq_true_iff,decide_eq_true_iff,Ek jl]
theorem zj (ok:∀x∈ws,0<=x.1/\x.1<8) (hc:c<=ws.length):(bI (ws.take c)).map (fun y=>(fW (ws.take c) y).2)=((bI ws).map fun y=>(fW ws y).2).filter (pc ws c):=
 vg ok hc (fun ws y=>(fW ws y).2) (fun y hy=>⟨rfl,rfl⟩) fun y hy q=>by
  have l:=(iM ((bM ok).mp hy)).1.2.2.2;exact p8 (by omega) q
theorem zf (ok:∀x∈ws,0<=x.1/\x.1<8) (hc:c<=ws.length):(bI (ws.take c)).map (fun y=>(fW (ws.take c) y).1)=((bI ws).map fun y=>(fW ws y).1).filter (pc ws c):=
 vg ok hc (fun ws y=>(fW ws y).1) (fun y hy=>⟨rfl,rfl⟩) fun y hy q=>by
  have l:=(cP ((bM ok).mp hy)).1.2.1;exact p8 (by omega) q
theorem Ea (key:Nat×PN->List Int) (f:List Int->List (Nat×PN)):∀l:List (List Int),l.Nodup->(∀k∈l,∀y∈f k,key y=k)->(∀k∈l,(f k).Nodup)->(l.flatMap f).Nodup
 | [],_,_,_=>List.nodup_nil
 | k::l,nd,hk,hf=>by
   rw [List.flatMap_cons,List.nodup_append];obtain ⟨n1,n2⟩:=List.nodup_cons.mp nd;refine ⟨hf k (.head _),Ea key f l n2 (fun k hk'=>hk k (.tail _ hk')) fun k hk'=>hf k (.tail _ hk'),fun a ha b hb e=> ?_⟩;subst e;obtain ⟨k',h1,h2⟩:=List.mem_flatMap.mp hb;have:=hk k (.head _) a ha;rw [hk k' (.tail _ h1) a h2] at this;subst this;exact n1 h1
theorem zc:(bI ws).Nodup:=by
 rw [tK];refine Ea (fun y=>[hnd ws y.2.1,hnd ws y.2.2]) (xO ws) lJ w6 (fun k hk y hy=> ?_) (fun k hk=> ?_)
 ·obtain ⟨g,h,rfl⟩:=uo hk
  obtain ⟨⟨_,_,_,e1,e2⟩,_⟩:=cP hy;rw [e1,e2]
 ·obtain ⟨g,h,rfl⟩:=uo hk
  exact J9
theorem nP (ok:∀x∈ws,0<=x.1/\x.1<8) {y:Nat×PN} (hy:y∈bI ws):(nF ws y).1=hnd ws y.2.1/\(nF ws y).2.2.1=hnd ws y.2.2:=by
 obtain ⟨_,e,_⟩:=iM ((bM ok).mp hy);exact ⟨e,rfl⟩
theorem Jj (ok:∀x∈ws,0<=x.1/\x.1<8):((bI ws).map fun y=>(fW ws y).2).Nodup:=by
 rw [List.nodup_iff_pairwise_ne,List.pairwise_map];refine List.Pairwise.imp_of_mem (fun {y z} hy hz ne e=>ne ?_) (zc (ws:=ws));have e:nF ws y=nF ws z:=e;obtain ⟨y1,y2⟩:=nP ok hy;obtain ⟨z1,z2⟩:=nP ok hz;have hz':=(bM ok).mp hz;rw [←z1,←z2,←e,y1,y2] at hz';exact Rn ((bM ok).mp hy) hz' e
theorem count_le {a b:Int} (t:Two ws a b) (ok:∀x∈ws,0<=x.1/\x.1<8) (g:Int):(((bI ws).map fun y=>(fW ws y).2).filter fun x=>decide (x.1=g)).length<=((lH ws ws.length).filter fun x=>decide (x.1=g)).length:=by
 rw [List.filter_map,List.length_map]
 have part:∀{a b:Int},Two ws a b->((bI ws).filter ((fun x:Nt=>decide (x.1=a))∘fun y=>(fW ws y).2)).length<=((lH ws ws.length).filter fun x=>decide (x.1=a)).length:=fun {a b} t=>by
  refine Nat.le_trans (List.Nodup.length_le_of_subset (zc.filter _) (l₂:=oH ws a b) fun y hy=> ?_) (Sh t);obtain ⟨h1,h2⟩:=List.mem_filter.mp hy;have h2:(nF ws y).1=a:=of_decide_eq_true h2;rw [(nP ok h1).1] at h2;have h1:=(bM ok).mp h1;obtain ⟨⟨y1,y2,y3,_,_⟩,_⟩:=cP h1;obtain ⟨_,b2,ne⟩:=jq y3;rcases t.hnd b2 with q|q
  ·exact absurd (by rw [h2,q]) ne
  ·rw [h2,q] at h1
   exact h1
 by_cases ea:g=a
 ·subst ea;exact part t
 ·by_cases eb:g=b
  ·subst eb;exact part t.comm
  ·have:(bI ws).filter ((fun x:Nt=>decide (x.1=g))∘fun y=>(fW ws y).2)=[]:=by
    rw [List.filter_eq_nil_iff];intro y hy q;have q:(nF ws y).1=g:=of_decide_eq_true q;rw [(nP ok hy).1] at q;obtain ⟨⟨y1,y2,y3,_,_⟩,_⟩:=cP ((bM ok).mp hy);rcases t.hnd (jq y3).1 with w|w
    ·exact ea (by rw [←q,w])
    ·exact eb (by rw [←q,w])
   rw [this];exact Nat.zero_le _
theorem Jk (ok:∀x∈ws,0<=x.1/\x.1<8) {x:Nt} (hx:x∈lH ws ws.length):K9 ws x /\ ∃y∈bI ws,(nF ws y).1=x.1/\(nF ws y).2.2.1=x.2.2.1/\mB (nF ws y) x=true:=by
 obtain ⟨i,j,rfl,n⟩:=uY hx;have il:i<ws.length:=by have:=n.lt;have:=n.jl;omega
 have ei:ws[i]? = some ws[i]:=by simp [il]
 have jl:=n.jl;have ej:ws[j]? = some ws[j]:=by simp [jl]
 have m:=Qp ei ej n.ne n.st;have s:kj ws (bH ws i j) i j:=⟨n.ne,by rw [iy il];rfl,by rw [iy n.jl];rfl,n.lt⟩;refine ⟨⟨i,j,_,_,s,ei,ej,m⟩, ?_⟩;have hw:z6 ws (hnd ws i) (hnd ws j) (i,j):=⟨n.jl,n.lt,by rw [nQ ei ej];exact m,rfl,rfl⟩;obtain ⟨z,hz,a,b⟩:=vf hw;have a:i<=z.1:=a;have b:z.2.2<=j:=b;obtain ⟨st,e1,e2,_⟩:=iM hz;obtain ⟨⟨_,_,_,q1,q2⟩,_⟩:=cP hz;refine ⟨z,(bM ok).mpr (by rw [q1,q2];exact hz),e1,e2, ?_⟩;show mB (bH ws z.1 z.2.2) (bH ws i j)=true;unfold mB bH;dsimp only;rw [e1,e2];have m1:=mj (ws:=ws) a (hnd ws i);have m2:=mj (ws:=ws) b (hnd ws j);simp [m1,m2]
end
theorem m7 (a b c d:Int):([Sum.inl a,Sum.inl b]:List Key)=[Sum.inl c,Sum.inl d]↔a=c/\b=d:=by
 constructor
 ·intro z;injection z with z1 z2;injection z2 with z2 _;exact ⟨Sum.inl.inj z1,Sum.inl.inj z2⟩
 ·rintro ⟨rfl,rfl⟩;rfl
structure K8 (H0 H:Hp) (f:Addr) (kvs:List (List Key×V)) (ls:List (List Int)) (ns:List Nt):Prop where
 dict:H f=some (.dT kvs)
 keys:kvs.map (·.1)=ls.map (fun l=>l.map (Sum.inl (β:=Str)))
 two:∀l∈ls,l.length=2
 nd:ls.Nodup
 val:∀g h:Int,(cZ kvs [Sum.inl g,Sum.inl h]=none/\grp ns g h=[]/\[g,h]∉ls) \/ ∃l,cZ kvs [Sum.inl g,Sum.inl h]=some (.ref l)/\cg H l (grp ns g h)/\[g,h]∈ls/\H0 l=none/\l≠f
 inj:∀(g h g' h':Int) l,cZ kvs [Sum.inl g,Sum.inl h]=some (.ref l)->cZ kvs [Sum.inl g',Sum.inl h']=some (.ref l)->g=g'/\h=h'
theorem K8.same {H0 H H':Hp} {f:Addr} {kvs:List (List Key×V)} {ls:List (List Int)} {ns:List Nt} (h:K8 H0 H f kvs ls ns) (s:Same H H'):K8 H0 H' f kvs ls ns:=
 ⟨s _ _ h.dict,h.keys,h.two,h.nd,fun g k=>(h.val g k).imp id fun ⟨l,a,b,c⟩=>⟨l,a,b.same s,c⟩,h.inj⟩
def aei (H:Hp) (f:Addr) (ns:List Nt):Prop:=∃(kvs:List (List Key×V)) (ls:List (List Int)),H f=some (.dT kvs)/\kvs.map (·.1)=ls.map (fun l=>l.map (Sum.inl (β:=Str)))/\(∀l∈ls,l.length=2)/\ls.Nodup /\
 ∀g h:Int,(grp ns g h=[]/\[g,h]∉ls) \/ ∃l,cZ kvs [Sum.inl g,Sum.inl h]=some (.ref l)/\cg H l (grp ns g h)/\[g,h]∈ls/\grp ns g h≠[]
def oO (K:PySem.W.Frag):Sp:=fun vs H Q _=>∃(a:Addr) (ws:List aW),vs=[.ref a]/\bY H a ws/\ws.length<=300 /\ ∀(f:Addr) (H':Hp),H f=none->aei H' f ((nu ws ws.length).map (wN ws))->Same H H'->Q (.ref f) H'
theorem T8 {ws:List aW} {i j:Nat} {y z:aW} (hi:ws[i]? = some y) (hj:ws[j]? = some z):wN ws (i,j)=(y.1,cnt (ws.take i) y.1,z.1,cnt (ws.take j) z.1):=by
 unfold wN bH;dsimp only;rw [bO hi,bO hj]
def PX (H:Hp) (a nd f:Addr) (ws:List aW) (seq:List Nt) (H3:Hp):Prop:=Same H H3/\gj H3 nd (nm ws) /\ ∃kvs ls,K8 H H3 f kvs ls seq/\kvs.length<=seq.length /\ ∀g h,[g,h]∈ls->grp seq g h≠[]
theorem Ba {f:Addr} {fd:FuncData} (F:kJ K "wants_by_hands" "wants_by_hands" bG f fd) (j6:FnAt P w K mg base 1 "names" ["web"] (lU K)) (cN:FnAt P w K mg base 1 "touches_meet" ["one","other"] (Fg K)) (j7:FnAt P w K mg base 1 "hands_of" ["note"] (lV K)) (Bt:uM mg):cX P w K mg base jx 2 f fd ["web"] (oO K):=by
 refine F.ok cB (fun vs H Q E h=> ?_) (fun cdv A outer s H vs Q E hr h=> ?_)
 ·obtain ⟨a,ws,rfl,_⟩:=h
  rfl
 ·obtain ⟨a,ws,rfl,W,wl,k⟩:=h
  have hu:=jr hr
  refine ⟨_,(aB (aO (i:=1) cB.nd rfl (Or.inl rfl) (aU j6 (hr.mono (by decide)) (by rfl) (aj (pv 0) aq)))
   (aB (aO (i:=2) cB.nd rfl (Or.inl rfl) yE)
   (aB (d8 PassesOwn.never rfl (gA (by rfl) Bt.ju (aj (bw (bJ (K:=K) rfl) (by rfl) Bt.lG jf (aj (pv 0) aq)) aq)) (aV (i:=3) cB.nd rfl (Or.inl rfl))
   (aH (d8 PassesOwn.never rfl (gA (by rfl) Bt.ju (aj (pv 3) aq)) (aV (i:=4) cB.nd rfl (Or.inl rfl))
   (aH (fU (gZ (aU cN (hr.mono (by decide)) (by rfl) (aj (aK (aP (K:=K) rfl) (pv 0) (pv 4) (fun _ _=>rfl)) (aj (aK (aP (K:=K) rfl) (pv 0) (pv 3) (fun _ _=>rfl)) aq)))) (aB (aO (i:=5) cB.nd rfl (Or.inl rfl) (bx (rY (K:=K) rfl) (aK (aP (K:=K) rfl) (pv 1) (pv 4) (fun _ _=>rfl)) (aK (aP (K:=K) rfl) (pv 1) (pv 3) (fun _ _=>rfl))))
   (aH (dN (d_ (K:=K) rfl (Iw hu (pv 2) (aU j7 (hr.mono (by decide)) (by rfl) (aj (pv 5) aq)) (fu aq) ⟨rfl,rfl,rfl,rfl⟩) (aj (pv 5) aq))))) cG)))))
   (aH (aZ (pv 2)))))), ?_⟩
  refine ⟨_,rfl,a,ws,rfl,W,by omega,fun nd H1 acH N s1=> ?_⟩;intro f hf;have s2:=aC (o:=HO.dT []) hf;have s12:=s1.trans s2;have V9:H f=none:=s1.free hf;obtain ⟨wv,hw,dw⟩:=id (W.same s12);have T7:wv.length=ws.length:=by rw [dw.length,List.length_map]
  refine ⟨_,rfl,a,_,rfl,.inl (bh.of hw),_,rfl,by omega,by omega, ?_⟩;rw [show ((wv.length:Nat):Int).toNat=ws.length by omega]
  refine jG (lo:=0) (n:=ws.length) (fun j σ H3=>∃(x1 x2 x3:Option V),σ=[some (.ref a),some (.ref nd),some (.ref f),x1,x2,x3]/\PX H1 a nd f ws ((nu ws j).map (wN ws)) H3)
   ⟨none,none,none,rfl,s2,N.same s2,[],[],⟨ak,rfl,fun l hl=>by simp at hl,List.nodup_nil,fun g h=> .inl ⟨rfl,rfl,by simp⟩,fun g h g' h' l z=>by cases z⟩,Nat.zero_le _,fun g h z=>by simp at z⟩ ?_ ?_
  ·rintro j σ H3 hj ⟨x1,x2,x3,rfl,aco⟩
   obtain ⟨z,ez⟩:∃z,ws[j]? = some z:=⟨ws[j],by simp [hj]⟩;refine ⟨_,rfl,0+(j:Int),rfl,by omega,by omega, ?_⟩;rw [show (0+(j:Int)).toNat=j by omega]
   refine jG (lo:=0) (n:=j) (fun m σ H4=>∃(x2 x3:Option V),σ=[some (.ref a),some (.ref nd),some (.ref f),some (.int (0+(j:Int))),x2,x3]/\PX H1 a nd f ws ((nu ws j++rP ws j m).map (wN ws)) H4)
    ⟨_,_,rfl,by rw [show rP ws j 0=[] from rfl,List.append_nil];exact aco⟩ ?_ ?_
   ·rintro m σ H4 hm ⟨x2,x3,rfl,sm,N4,kvs,ls,wd,kl,Pj⟩
    obtain ⟨y,ey⟩:∃y,ws[m]? = some y:=⟨ws[m]'(by omega),by simp [show m<ws.length by omega]⟩;obtain ⟨wv4,q1,hw4,eq1,hq1⟩:=gD ((W.same s1).same sm) ey;obtain ⟨wv5,q2,RV,eq2,hq2⟩:=gD ((W.same s1).same sm) ez;refine ⟨_,rfl,_,rfl,_,_,_,_,rfl,rfl,bh.of hw4,Ol eq1,_,rfl,_,rfl,_,_,_,_,rfl,rfl,bh.of RV,Ol eq2,q1,q2,y,z,rfl,hq1,hq2,_,rfl, ?_⟩;rw [Fp,nQ ey ez];cases em:mt y z with
    | false=>
      refine fL ?_;refine ⟨_,_,rfl, ?_⟩;rw [if_neg (by decide),List.append_nil];exact ⟨sm,N4,kvs,ls,wd,kl,Pj⟩
    | true=>
      refine fG ?_;rw [if_pos rfl,←List.append_assoc,List.map_append];obtain ⟨nv,t1,hn1,et1,ht1⟩:=oZ N4 (jV ey);obtain ⟨nv2,t2,hn2,et2,xM⟩:=oZ N4 (jV ez);refine ⟨_,rfl,_,rfl,_,_,_,_,rfl,rfl,bh.of hn1,Ol et1,_,rfl,_,rfl,_,_,_,_,rfl,rfl,bh.of hn2,Ol et2,t1,t2,_,_,rfl,rfl,cJ.of ht1,cJ.of xM,by simp,by show 4<=sizeLine;decide,fun z=>absurd z (by simp),fun _ p hp=> ?_⟩;have ew:=T8 ey ez;have Xx:=aC (o:=HO.tup ([V.int y.1,V.int (cnt (ws.take m) y.1)]++[V.int z.1,V.int (cnt (ws.take j) z.1)])) hp;generalize hX:wN ws (m,j)=x at ew;have hpx:(upd H4 p (HO.tup ([V.int y.1,V.int (cnt (ws.take m) y.1)]++[V.int z.1,V.int (cnt (ws.take j) z.1)]))) p=some (.tup (nV x)):=by rw [ak,ew];rfl
      generalize (upd H4 p (HO.tup ([V.int y.1,V.int (cnt (ws.take m) y.1)]++[V.int z.1,V.int (cnt (ws.take j) z.1)])))=H5 at Xx hpx ⊢;have HN:=sm.trans Xx;have N5:=N4.same Xx;have Xq:=wd.same Xx;have e0:List.map (wN ws) [(m,j)]=[x]:=by rw [List.map_cons,hX];rfl
      rw [e0];generalize hseq:(nu ws j++rP ws j m).map (wN ws)=seq at kl Pj Xq ⊢
      have agj:seq.length<=300*300+300:=by
       rw [←hseq,List.length_map,List.length_append];have a1:=uh ws j (by omega);have a2:=yt ws j m;omega
      dsimp only [iz]
      refine zq (fun v H6=>∃(l:Addr) (JB:List (List Key×V)) (Vq:List (List Int)),v = .ref l/\Same H1 H6/\gj H6 nd (nm ws)/\H6 p=some (.tup (nV x))/\K8 H1 H6 f JB Vq seq/\JB.length<=seq.length+1/\cZ JB [Sum.inl x.1,Sum.inl x.2.2.1]=some (.ref l) /\
       ∀g h,[g,h]∈Vq->grp seq g h≠[]\/(x.1=g/\x.2.2.1=h)) (fun Q' kQ=> ?_) ?_
      ·refine ⟨_,rfl,f,rfl,.inr ⟨_,.inl Xq.dict⟩,_,rfl,p,x,rfl,hpx,fun b hb=> ?_⟩
       have s6:=aC (o:=HO.tup [V.int x.1,V.int x.2.2.1]) hb;refine ⟨(by show 0<=sizeLine;decide),fun e he=> ?_⟩;have s7:=aC (o:=HO.lst []) he;have QH:=s6.trans s7;have Eu:=Xq.same QH;refine ⟨kvs,[Sum.inl x.1,Sum.inl x.2.2.1],b,Eu.dict,rfl,s7 _ _ ak,by rw [sizeLine_eq];omega,fun v hv=> ?_,fun hn=> ?_⟩
       ·rcases Eu.val x.1 x.2.2.1 with z|⟨l,e1,_⟩
        ·rw [z.1] at hv;cases hv
        ·rw [e1] at hv
         cases hv;exact kQ _ _ ⟨l,kvs,ls,rfl,HN.trans QH,N5.same QH,QH _ _ hpx,Eu,by omega,e1,fun g h z=> .inl (Pj g h z)⟩
       ·have he5:H5 e=none:=s6.free he
        have he0:H1 e=none:=HN.free he5;have heq:(upd (upd H5 b (.tup [V.int x.1,V.int x.2.2.1])) e (.lst [])) e=some (.lst []):=ak
        have Vb:∀(g h:Int) l,cZ kvs [Sum.inl g,Sum.inl h]=some (V.ref l)->l≠e:=fun g h l hv z=>by
         subst z;rcases Xq.val g h with q|⟨l',f1,⟨us,g1,_⟩,_⟩
         ·rw [q.1] at hv;cases hv
         ·rw [f1] at hv
          cases hv;rw [he5] at g1;cases g1
        have hp7:=QH _ _ hpx;have N7:=N5.same QH;have Uv:=HN.trans QH;generalize upd (upd H5 b (.tup [V.int x.1,V.int x.2.2.1])) e (.lst [])=H7 at Eu heq hp7 N7 Uv ⊢;have kF:Kp f H7 (upd H7 f (.dT (putK kvs [Sum.inl x.1,Sum.inl x.2.2.1] (.ref e)))):=Kp.set;have nef:e≠f:=dB heq Eu.dict (by intro z;cases z);have tF:∀a xs,H7 a=some (HO.tup xs)->(upd H7 f (.dT (putK kvs [Sum.inl x.1,Sum.inl x.2.2.1] (.ref e)))) a=some (HO.tup xs):=fun a xs h=>kF _ _ h (dB h Eu.dict (by intro z;cases z))
        have Vg:grp seq x.1 x.2.2.1=[]/\[x.1,x.2.2.1]∉ls:=by
         rcases Eu.val x.1 x.2.2.1 with z|⟨l,e1,_⟩
         ·exact z.2
         ·rw [e1] at hn;cases hn
        have nnf:nd≠f:=by
         obtain ⟨_,e1,_⟩:=N7;exact dB e1 Eu.dict (by intro z;cases z)
        refine kQ _ _ ⟨e,_,ls++[[x.1,x.2.2.1]],rfl,fun b o eb=>kF _ _ (Uv _ _ eb) (au eb hf), ?_,tF _ _ hp7,⟨ak, ?_, ?_, ?_,fun g h=> ?_,fun g h g' h' l h1 h2=> ?_⟩, ?_,by rw [jA,if_pos rfl],fun g h z=> ?_⟩
        ·obtain ⟨us,e1,e2⟩:=N7
         exact ⟨us,kF _ _ e1 nnf,aD.keep tF _ (aQ _ jc _) e2⟩
        ·rw [Ih _ hn,List.map_append,List.map_append,Eu.keys]
         rfl
        ·intro l hl
         rcases List.mem_append.mp hl with hl|hl
         ·exact Eu.two l hl
         ·rw [List.mem_singleton.mp hl];rfl
        ·rw [List.nodup_append]
         refine ⟨Eu.nd,by simp,fun a ha b hb z=> ?_⟩;rw [List.mem_singleton.mp hb] at z;exact Vg.2 (z▸ha)
        ·rw [jA]
         by_cases q:g=x.1/\h=x.2.2.1
         ·rw [if_pos ((m7 _ _ _ _).mpr q)]
          obtain ⟨rfl,rfl⟩:=q;refine .inr ⟨e,rfl, ?_,by simp,he0,nef⟩;rw [Vg.1];exact ⟨[],kF _ _ heq nef,by simp [aD]⟩
         ·rw [if_neg fun z=>q ((m7 _ _ _ _).mp z)]
          rcases Eu.val g h with z|⟨l',f1,f2,f3,f4,f5⟩
          ·refine .inl ⟨z.1,z.2.1,fun w=> ?_⟩
           rcases List.mem_append.mp w with w|w
           ·exact z.2.2 w
           ·have w:=List.mem_singleton.mp w
            injection w with w1 w2
            injection w2 with w2 _
            exact q ⟨w1,w2⟩
          ·refine .inr ⟨l',f1, ?_,List.mem_append.mpr (.inl f3),f4,f5⟩
           obtain ⟨us,g1,g2⟩:=f2;exact ⟨us,kF _ _ g1 f5,aD.keep tF _ (aQ _ h_ _) g2⟩
        ·rw [jA] at h1 h2
         by_cases q:g=x.1/\h=x.2.2.1
         ·rw [if_pos ((m7 _ _ _ _).mpr q)] at h1
          cases h1
          by_cases q':g'=x.1/\h'=x.2.2.1
          ·exact ⟨q.1.trans q'.1.symm,q.2.trans q'.2.symm⟩
          ·rw [if_neg fun z=>q' ((m7 _ _ _ _).mp z)] at h2
           exact absurd rfl (Vb _ _ _ h2)
         ·rw [if_neg fun z=>q ((m7 _ _ _ _).mp z)] at h1
          by_cases q':g'=x.1/\h'=x.2.2.1
          ·rw [if_pos ((m7 _ _ _ _).mpr q')] at h2
           cases h2;exact absurd rfl (Vb _ _ _ h1)
          ·rw [if_neg fun z=>q' ((m7 _ _ _ _).mp z)] at h2
           exact Eu.inj _ _ _ _ _ h1 h2
        ·exact Nat.le_trans (eE ..) (by omega)
        ·rcases List.mem_append.mp z with z|z
         ·exact .inl (Pj g h z)
         ·have w:=List.mem_singleton.mp z
          injection w with w1 w2
          injection w2 with w2 _
          exact .inr ⟨w1.symm,w2.symm⟩
      ·rintro v H6 ⟨l,JB,Vq,rfl,LK,N6,hp6,Oz,kl6,hkey,acQ⟩
       obtain ⟨PL,hlK,hl0,XJ⟩:cg H6 l (grp seq x.1 x.2.2.1)/\[x.1,x.2.2.1]∈Vq/\H1 l=none/\l≠f:=by
        rcases Oz.val x.1 x.2.2.1 with z|⟨l',f1,f2,f3,f4,f5⟩
        ·rw [z.1] at hkey;cases hkey
        ·rw [f1] at hkey
         cases hkey;exact ⟨f2,f3,f4,f5⟩
       obtain ⟨us,R3,YQ⟩:=id PL
       have Ey:us.length<=seq.length:=by
        rw [YQ.length,List.length_map];exact Ny _ _ _
       refine ⟨.inl ⟨rfl,_,bh.of R3⟩,_,rfl,l,us,_,rfl,rfl,R3,by rw [sizeLine_eq];omega, ?_⟩;have kL:Kp l H6 (upd H6 l (.lst (us++[V.ref p]))):=Kp.set;have tL:=kL.tups R3
       have nnl:nd≠l:=by
        obtain ⟨_,e1,_⟩:=N;exact au e1 hl0
       have gs:∀g h:Int,grp (seq++[x]) g h=grp seq g h++(if x.1=g/\x.2.2.1=h then [x] else []):=JV seq x;refine ⟨_,_,rfl,fun b o eb=>kL _ _ (LK _ _ eb) (au eb hl0), ?_,JB,Vq,⟨kL _ _ Oz.dict XJ.symm,Oz.keys,Oz.two,Oz.nd,fun g h=> ?_,Oz.inj⟩,by rw [List.length_append];exact kl6,fun g h z=> ?_⟩
       ·obtain ⟨vs,e1,e2⟩:=N6
        exact ⟨vs,kL _ _ e1 nnl,aD.keep tL _ (aQ _ jc _) e2⟩
       ·rw [gs]
        by_cases q:x.1=g/\x.2.2.1=h
        ·obtain ⟨rfl,rfl⟩:=q
         rw [if_pos ⟨rfl,rfl⟩];refine .inr ⟨l,hkey,⟨_,ak, ?_⟩,hlK,hl0,XJ⟩;rw [List.map_append];exact aD.append (aD.keep tL _ (aQ _ h_ _) YQ) (Kr (jd (tL _ _ hp6)))
        ·rw [if_neg q,List.append_nil]
         rcases Oz.val g h with z|⟨l',f1,f2,f3,f4,f5⟩
         ·exact .inl z
         ·have nll:l'≠l:=fun z=>by
           subst z;obtain ⟨e1,e2⟩:=Oz.inj _ _ _ _ _ f1 hkey;exact q ⟨e1.symm,e2.symm⟩
          obtain ⟨us',g1,g2⟩:=f2;exact .inr ⟨l',f1,⟨us',kL _ _ g1 nll,aD.keep tL _ (aQ _ h_ _) g2⟩,f3,f4,f5⟩
       ·rw [gs]
        rcases acQ g h z with w|w
        ·intro q
         rw [List.append_eq_nil_iff] at q;exact w q.1
        ·rw [if_pos w]
         simp
   ·rintro σ H4 ⟨x2,x3,rfl,acn⟩
    refine ⟨_,_,_,rfl, ?_⟩;rw [vJ];exact acn
  ·rintro σ H3 ⟨x1,x2,x3,rfl,sm,N3,kvs,ls,wd,kl,Pj⟩
   refine ⟨_,rfl,k f H3 V9 ⟨kvs,ls,wd.dict,wd.keys,wd.two,wd.nd,fun g h=> ?_⟩ (s1.trans sm)⟩;rcases wd.val g h with z|⟨l,a1,a2,a3,_⟩
   ·exact .inl z.2
   ·exact .inr ⟨l,a1,a2,a3,Pj g h a3⟩
def Hy:Stmt->List Stmt
 | .For _ _ b _ _=>b
 | .While _ b _ _=>b
 | _=>[]
def Ut:Stmt->Option Expr
 | .Assign _ v _=>some v
 | _=>none
def Vv:Expr->Option Expr
 | .Call _ _ (k::_) _=>some k.value
 | _=>none
def lamP:Option Expr->Arguments
 | some (.Lambda p _ _ _)=>p
 | _=>aG lB
def abp:Option Expr->Expr
 | some (.Lambda _ b _ _)=>b
 | _=> .Constant .none 0 ⟨0,0,0,0⟩
def abo:Option Expr->Scope
 | some (.Lambda _ _ s _)=>s
 | _=>ao lB
def lamO:Option Expr->Pos
 | some (.Lambda _ _ _ o)=>o
 | _=>⟨0,0,0,0⟩
def Nb:Option Expr:=((aF aY)[3]?).bind fun f=>((Hy f)[1]?).bind fun w=>((Hy w)[0]?).bind fun m=>(Ut m).bind Vv
def Vu:Str:= "wants_with_notes" ++ ".<locals>." ++ "<lambda>"
def QB:List V->Hp->VK->Prop:=fun vs H Q=>∃(t:Addr) (x:Nt),vs=[.ref t]/\H t=some (.tup (nV x)) /\ ∀p,H p=none->Q (.ref p) (upd H p (.tup [.int x.2.2.2,.int (-x.2.1)]))
theorem Jy:Ep P w K mg base 0 ["each"] ["each"] Vu (lamP Nb) (abp Nb) (abo Nb) QB:=by
 refine ⟨⟨rfl,rfl,rfl,by decide +kernel,rfl,by decide +kernel,by decide +kernel⟩,fun pm ctv c us hl=> ?_,fun vs H Q h=> ?_,fun f c A outer s H vs Q hr h=> ?_⟩
 ·match us,hl with
  | [u],_=>rfl
 ·obtain ⟨t,x,rfl,_⟩:=h
  rfl
 ·obtain ⟨t,x,rfl,ht,k⟩:=h
  refine ⟨_,(iW (aj (aK (aM (K:=K) rfl) (pv 0) aA (fun _ _=>rfl)) (aj (Iv z_ (aK (aM (K:=K) rfl) (pv 0) aA (fun _ _=>rfl))) aq))), ?_⟩;refine ⟨_,rfl,_,_,_,_,rfl,rfl,cJ.of ht,rfl,_,rfl,_,_,_,_,rfl,rfl,cJ.of ht,rfl,_,rfl,(by show 2<=sizeLine;decide),fun p hp=>k p hp⟩
def oV (K:PySem.W.Frag):Sp:=fun vs H Q _=>∃(a d t:Addr) (kvs:List (List Key×V)) (ws:List aW) (g h:Int) (x:PN),vs=[.ref a,.ref d,.ref t]/\bY H a ws/\ws.length<=300/\H d=some (.dT kvs)/\Cu kvs (nm ws)/\H t=some (.tup (nV (wN ws x)))/\z6 ws g h x /\
 ∀(p:Addr) (H':Hp),H' p=some (.tup (nV (bH ws (lst ws g x.2) x.2)))->Same H H'->Q (.ref p) H'
theorem Bd {f:Addr} {fd:FuncData} (F:kJ K "note_for" "note_for" dH f fd) (Bt:uM mg):cX P w K mg base jx 1 f fd ["web","places","want"] (oV K):=by
 refine F.ok pZ (fun vs H Q E h=> ?_) (fun cdv A outer s H vs Q E hr h=> ?_)
 ·obtain ⟨a,d,t,kvs,ws,g,h,x,rfl,_⟩:=h
  rfl
 ·obtain ⟨a,d,t,kvs,ws,g,h,x,rfl,W,wl,hd,pl,ht,hx,k⟩:=h
  have hu:=jr hr;obtain ⟨x1,x2,x3,x4,x5⟩:=hx;obtain ⟨y,ey⟩:∃y,ws[x.2]? = some y:=⟨ws[x.2],by simp [x1]⟩;have hy:=bO ey
  refine ⟨_,(aB (qP (i:=3) rfl pZ.nd rfl (Or.inl rfl) (N:=["touch","want"]) (own:=["touch"]) (caps:=[2]) (aR.of (by kernel_rfl)) (bU (K:=K) rfl (b_ (gO (K:=K) rfl) (pv 0) cW (cH (fV hu (pv 1) (b_ (gG (K:=K) rfl) (pv 2) (cH aA) cW) (fun _ _=>rfl))))) (fun _ _ _ _=>(aV (i:=0) (show List.Nodup (["touch","want"]:List Str) by decide +kernel) rfl (Or.inl rfl))) (fun _ _ _ _=>(ji (bZ j8 (aK (aM (K:=K) rfl) (pv 0) aA (fun _ _=>rfl)) (aK (aM (K:=K) rfl) (pv 1) aA (fun _ _=>rfl)) (bC _)))) (fun _ _ _ _=>(pv 0)))
   (aH (aZ (bx (rY (K:=K) rfl) (iW (aj (aK (aM (K:=K) rfl) (pv 2) aA (fun _ _=>rfl)) (aj (bx Az (bw (bJ (K:=K) rfl) (by rfl) Bt.lG jf (aj (pv 3) aq)) aA) aq))) (b_ (gG (K:=K) rfl) (pv 2) (cH aA) cW))))), ?_⟩
  obtain ⟨wv,hw,dw⟩:=id W;have T7:wv.length=ws.length:=by rw [dw.length,List.length_map]
  refine ⟨_,rfl,_,rfl,_,rfl,_,rfl,_,_,rfl,cJ.of ht,o9 (nV (wN ws x)) rfl,fun p1 hp1=> ?_⟩;rw [show fD (nV (wN ws x)) (some 2) none=[.int (hnd ws x.2),.int (cnt (ws.take x.2) (hnd ws x.2))] from vo ..];have s1:=aC (o:=HO.tup [V.int (hnd ws x.2),V.int (cnt (ws.take x.2) (hnd ws x.2))]) hp1;have pv:=pl.1 x.2 _ (jV ey);rw [←hy] at pv;refine ⟨d,_,rfl,pv▸iw.t (k:=kx (hnd ws x.2,cnt (ws.take x.2) (hnd ws x.2))) (s1 _ _ hd) ak,_,rfl,_,_,rfl,bh.of (s1 _ _ hw),fun p2 hp2=> ?_⟩;rw [jK];have s2:=aC (o:=HO.lst (wv.take x.2)) hp2;have s12:=s1.trans s2;refine ⟨p2,rfl,⟨_,bh.of ak⟩,fun D hD=> ?_⟩;have tl:(wv.take x.2).length=x.2:=by rw [List.length_take];omega
  refine oA (K:=K) (fun i=>if hnd ws i=g then wv[i]? else none) hD (bh.of ak) (by omega) (fun i v H2 G F hi s3 kG kF=> ?_) (fun H2 s3 e3=> ?_)
  ·have il:i<x.2:=by have:=(List.getElem?_eq_some_iff.mp hi).1;omega
   rw [List.getElem?_take_of_lt il] at hi;obtain ⟨z,ez⟩:∃z,ws[i]? = some z:=⟨ws[i]'(by omega),by simp [show i<ws.length by omega]⟩;obtain ⟨wv',t',hw',et',ht'⟩:=gD W ez;have:wv'=wv:=by rw [hw] at hw';injection hw' with q;injection q with q;exact q.symm
   subst this;rw [hi] at et';cases et';have hz:=bO ez;refine ⟨_,rfl,_,_,_,_,rfl,rfl,cJ.of ((s12.trans s3) _ _ ht'),rfl,_,rfl,_,_,_,_,rfl,rfl,cJ.of ((s12.trans s3) _ _ ht),rfl,rfl,_,rfl, ?_⟩
   by_cases e:hnd ws i=g
   ·have e1:V.int z.1=V.int (wN ws x).1:=by show V.int z.1=V.int (hnd ws x.1);rw [←hz,e,x4]
    rw [decide_eq_true e1];refine fG ?_;exact ⟨_,rfl,kF _ _ (Same.refl _) (by rw [if_pos e];exact hi)⟩
   ·have e1:¬V.int z.1=V.int (wN ws x).1:=fun q=>by injection q with q;have q:z.1=hnd ws x.1:=q;rw [hz,q,x4] at e;exact e rfl
    rw [decide_eq_false e1];refine fL ?_;exact kG _ (Same.refl _) (by rw [if_neg e])
  ·have cl:(((List.range (wv.take x.2).length).filterMap fun i=>if hnd ws i=g then wv[i]? else none).length:Int)=cnt (ws.take x.2) g:=by
    rw [tl]
    have:∀n,n<=ws.length->(((List.range n).filterMap fun i=>if hnd ws i=g then wv[i]? else none).length:Int)=cnt (ws.take n) g:=by
     intro n
     induction n with
     | zero=>intro _;rfl
     | succ n ih=>
       intro hn;rw [dg,List.length_append,Int.natCast_add,ih (by omega),rm (by omega)]
       by_cases e:hnd ws n=g
       ·rw [if_pos e,if_pos e.symm]
        have:wv[n]? = some (wv[n]'(by omega)):=by simp [show n<wv.length by omega]
        rw [this];rfl
       ·rw [if_neg e,if_neg (Ne.symm e)]
        simp
    exact this x.2 (by omega)
   have zY:=s12.trans s3;obtain ⟨l1,l2,l3,l4⟩:=gP (ws:=ws) x2 (by omega) x4;refine ⟨_,rfl,_,_,_,_,rfl,rfl,cJ.of (zY _ _ ht),rfl,_,rfl,D,_,rfl,.inl (bh.of e3),_,_,rfl,rfl,(by show 2<=sizeLine;decide),fun p4 V3=> ?_⟩;rw [cl];have s4:=aC (o:=HO.tup [V.int (wN ws x).1,V.int (cnt (ws.take x.2) g - 1)]) V3;refine ⟨_,rfl,_,rfl,_,_,rfl,cJ.of ((zY.trans s4) _ _ ht),o9 (nV (wN ws x)) rfl,fun p5 hp5=> ?_⟩;rw [show fD (nV (wN ws x)) (some 2) none=[.int (hnd ws x.2),.int (cnt (ws.take x.2) (hnd ws x.2))] from vo ..];have s5:=aC (o:=HO.tup [V.int (hnd ws x.2),V.int (cnt (ws.take x.2) (hnd ws x.2))]) hp5;refine ⟨p4,p5,_,_,rfl,rfl,cJ.of (s5 _ _ ak),cJ.of ak,by simp,by show 4<=sizeLine;decide,fun z=>absurd z (by simp),fun _ p hp=> ?_⟩;refine k p _ ?_ ((zY.trans s4).trans (s5.trans (aC hp)));rw [ak];have e1:(wN ws x).1=g:=x4;have e2:cnt (ws.take x.2) g - 1=cnt (ws.take (lst ws g x.2)) g:=by omega
   unfold bH nV;rw [e1];dsimp only;rw [e2,l2];rfl
def qD (x:Nt×Nt):PyData:= .tuple [nD x.1,nD x.2]
theorem Bs (x:Nt×Nt):Bu (qD x)=true:=rfl
theorem SM {H:Hp} {t u v:Addr} {x:Nt×Nt} (h:H t=some (.tup [.ref u,.ref v])) (hu:H u=some (.tup (nV x.1))) (hv:H v=some (.tup (nV x.2))):Dat H (.ref t) (qD x):=by
 unfold qD;simp only [Dat];exact ⟨t,_,rfl,h,by simp only [aD];exact ⟨jd hu,jd hv,trivial⟩⟩
theorem BP {H:Hp} {v:V} {x:Nt×Nt} (h:Dat H v (qD x)):∃t u z,v = .ref t/\H t=some (.tup [.ref u,.ref z])/\H u=some (.tup (nV x.1))/\H z=some (.tup (nV x.2)):=by
 unfold qD at h;simp only [Dat] at h;obtain ⟨t,vs,e,q,d⟩:=h
 match vs,d with
 | [a,b],d=>
   simp only [aD,and_true] at d;obtain ⟨u,rfl,hu⟩:=jX d.1;obtain ⟨z,rfl,hz⟩:=jX d.2;exact ⟨t,u,z,e,q,hu,hz⟩
 | [],d=>simp only [aD] at d
 | [_],d=>simp only [aD,and_false] at d
 | _::_::_::_,d=>simp only [aD,and_false] at d
def zQ (H:Hp) (a:Addr) (l:List (Nt×Nt)):Prop:=∃vs,H a=some (.lst vs)/\aD H vs (l.map qD)
theorem zQ.same {H H':Hp} {a:Addr} {l:List (Nt×Nt)} (h:zQ H a l) (k:Same H H'):zQ H' a l:=by
 obtain ⟨vs,e,d⟩:=h;exact ⟨vs,k _ _ e,aD.keep k.tups _ (aQ _ Bs l) d⟩
theorem Ho {H:Hp} {vs:List V} {l:List (Nt×Nt)} {i:Nat} {v:V} (d:aD H vs (l.map qD)) (e:vs[i]? = some v):∃x t u z,l[i]? = some x/\v = .ref t/\H t=some (.tup [.ref u,.ref z])/\H u=some (.tup (nV x.1))/\H z=some (.tup (nV x.2)):=by
 obtain ⟨q,eq,dq⟩:=d.get e;rw [List.getElem?_map] at eq;cases ex:l[i]? with
 | none=>rw [ex] at eq;cases eq
 | some x=>
   rw [ex] at eq;cases eq;obtain ⟨t,u,z,a,b,c,d⟩:=BP dq;exact ⟨x,t,u,z,rfl,a,b,c,d⟩
def Kq (p q:Addr) (H H':Hp):Prop:=∀b u,H b=some u->b≠p->b≠q->H' b=some u
def LT (p:Addr) (H:Hp):Prop:=Ti H p (lamO Nb) Vu
theorem LT.kE {p:Addr} {H:Hp} (h:LT p H):∃ps,H p=some (.kE ps):=by
 rcases h with e|⟨c,e,_⟩
 ·exact ⟨_,e⟩
 ·exact ⟨_,e⟩
theorem LT.same {p:Addr} {H H':Hp} (h:LT p H) (s:Same H H'):LT p H':=by
 rcases h with e|⟨c,e,f⟩
 ·exact .inl (s _ _ e)
 ·exact .inr ⟨c,s _ _ e,s _ _ f⟩
theorem LT.ne {p a:Addr} {H:Hp} {o:HO} (h:LT p H) (e:H a=some o) (n:∀ps,o ≠ .kE ps):a≠p:=fun z=>by
 obtain ⟨ps,q⟩:=h.kE;rw [z,q] at e;cases e;exact n _ rfl
theorem LT.set {p a:Addr} {H:Hp} {xs ys:List V} (h:LT p H) (e:H a=some (.lst xs)):LT p (upd H a (.lst ys)):=by
 have na:=h.ne e (by intro ps z;cases z);rcases h with q|⟨c,q,f⟩
 ·exact .inl (by rw [aJ na.symm];exact q)
 ·have nc:c≠a:=dB f e (by intro z;cases z)
  exact .inr ⟨c,by rw [aJ na.symm];exact q,by rw [aJ nc];exact f⟩
theorem Kp.Hs {p:Addr} {H H':Hp} (k:Kp p H H') (h:LT p H):∀a xs,H a=some (HO.tup xs)->H' a=some (HO.tup xs):=fun a xs e=>k _ _ e (h.ne e (by intro ps z;cases z))
theorem bY.uI {p a:Addr} {H H':Hp} {ws:List aW} (h:bY H a ws) (k:Kp p H H') (l:LT p H):bY H' a ws:=by
 obtain ⟨vs,e,d⟩:=h;exact ⟨vs,k _ _ e (l.ne e (by intro ps z;cases z)),aD.keep (Kp.Hs k l) _ (aQ _ lD ws) d⟩
theorem cg.uI {p a:Addr} {H H':Hp} {ws:List Nt} (h:cg H a ws) (k:Kp p H H') (l:LT p H):cg H' a ws:=by
 obtain ⟨vs,e,d⟩:=h;exact ⟨vs,k _ _ e (l.ne e (by intro ps z;cases z)),aD.keep (Kp.Hs k l) _ (aQ _ h_ ws) d⟩
theorem zQ.uI {p a:Addr} {H H':Hp} {ws:List (Nt×Nt)} (h:zQ H a ws) (k:Kp p H H') (l:LT p H):zQ H' a ws:=by
 obtain ⟨vs,e,d⟩:=h;exact ⟨vs,k _ _ e (l.ne e (by intro ps z;cases z)),aD.keep (Kp.Hs k l) _ (aQ _ Bs ws) d⟩
def CP (p:Addr) (K:PySem.W.Frag):Sp:=fun vs H Q _=>∃(a:Addr) (ws:List aW),vs=[.ref a]/\bY H a ws/\(∀x∈ws,lK x)/\ws.length<=300/\LT p H /\ ∀(r:Addr) (H':Hp),H r=none->zQ H' r ((bI ws).map (fW ws))->Kp p H H'->LT p H'->Q (.ref r) H'
structure Lp (p fo:Addr) (HB:Hp) (ws:List aW) (done:List (Nat×PN)) (H:Hp):Prop where
 kp:Kq p fo HB H
 lt:LT p H
 ww:zQ H fo (done.map (fW ws))
theorem Lp.same {p fo:Addr} {HB H H':Hp} {ws:List aW} {done:List (Nat×PN)} (h:Lp p fo HB ws done H) (s:Same H H'):Lp p fo HB ws done H':=⟨fun b u e n1 n2=>s _ _ (h.kp b u e n1 n2),h.lt.same s,h.ww.same s⟩
theorem Lp.uI {p fo:Addr} {HB H H':Hp} {ws:List aW} {done:List (Nat×PN)} (h:Lp p fo HB ws done H) (k:Kp p H H') (l:LT p H'):Lp p fo HB ws done H':=⟨fun b u e n1 n2=>k _ _ (h.kp b u e n1 n2) n1,l,h.ww.uI k h.lt⟩
theorem Wf {ws:List aW} (M:List PN) (p:PN->Bool):(List.range M.length).filterMap (fun i=>(M[i]?).bind fun o=>if p o=true then some (nD (wN ws o)) else none)=((M.filter p).map (wN ws)).map nD:=by
 induction M with
 | nil=>rfl
 | cons x l ih=>
   rw [List.length_cons,List.range_succ_eq_map,List.filterMap_cons,List.filterMap_map,List.filter_cons];have e:List.filterMap ((fun i=>((x::l)[i]?).bind fun o=>if p o=true then some (nD (wN ws o)) else none)∘Nat.succ) (List.range l.length)=((l.filter p).map (wN ws)).map nD:=by rw [←ih];rfl
   rw [e];cases h:p x with
   | true=>simp [h]
   | false=>simp [h]
theorem Q8 {p f:Addr} {fd:FuncData} (F:GK K "wants_with_notes" "wants_with_notes" aY p f fd) (gY:FnAt P w K mg base 2 "places_of" ["web"] (k_ K)) (pR:FnAt P w K mg base 2 "wants_by_hands" ["web"] (oO K)) (Cz:FnAt P w K mg base 1 "note_for" ["web","places","want"] (oV K)) (xq:FnAt P w K mg base 2 "meets" ["note","want"] (qL K)) (BM:Bm mg base) (Bt:uM mg):cX P w K mg base jx 3 f fd ["web"] (CP p K):=by
 refine F.ok bf (fun vs H Q E h=> ?_) (fun c A outer s H vs Q E hcd hr h=> ?_)
 ·obtain ⟨a,ws,rfl,_⟩:=h
  rfl
 ·obtain ⟨a,ws,rfl,W,ok,wl,lt,k⟩:=h
  have hu:=jr hr;have LM:=Jy (P:=P) (w:=w) (K:=K) (mg:=mg) (base:=base)
  refine ⟨_,(aB (aO (i:=1) bf.nd rfl (Or.inl rfl) (aU gY (hr.mono (by decide)) (by rfl) (aj (pv 0) aq)))
   (aB (aO (i:=2) bf.nd rfl (Or.inl rfl) (aU pR (hr.mono (by decide)) (by rfl) (aj (pv 0) aq)))
   (aB (aO (i:=3) bf.nd rfl (Or.inl rfl) (fu aq))
   (aB (d8 PassesOwn.never rfl (bU (K:=K) rfl (bw (BZ rfl) (by rfl) Bt.ug pO (aj (pv 2) aq))) (aV (i:=4) bf.nd rfl (Or.inl rfl))
   (aB (aO (i:=5) bf.nd rfl (Or.inl rfl) (fV hu (pv 2) (pv 4) (fun _ _=>rfl)))
   (aH (Il PassesOwn.never (Fv (K:=K) rfl (pv 5)) (aB (aO (i:=6) bf.nd rfl (Or.inl rfl) (Mv (pm:=(mg "__name__").getD .none) LM (hr.mono (by decide)) (by rfl) Bt.K4 B_ (aj (pv 5) aq) (Q0 BM rfl hcd)))
   (aB (aO (i:=7) bf.nd rfl (Or.inr rfl) (aU Cz (hr.mono (by decide)) (by rfl) (aj (pv 0) (aj (pv 1) (aj (pv 6) aq)))))
   (aB (dN (d_ (K:=K) rfl (pv 3) (aj (iW (aj (pv 6) (aj (pv 7) aq))) aq)))
   (aH (qP (i:=5) rfl bf.nd rfl (Or.inl rfl) (N:=["each","note"]) (own:=["each"]) (caps:=[7]) (aR.of (by kernel_rfl)) (bU (K:=K) rfl (pv 5)) (fun _ _ _ _=>(aV (i:=0) (show List.Nodup (["each","note"]:List Str) by decide +kernel) rfl (Or.inl rfl))) (fun _ _ _ _=>(ji (lC (gZ (aU xq (hr.mono (by decide)) (by rfl) (aj (pv 1) (aj (pv 0) aq))))))) (fun _ _ _ _=>(pv 0)))))))))))
   (aH (aZ (pv 3))))))), ?_⟩
  refine ⟨_,rfl,a,ws,rfl,W,wl,fun d kvs H1 hd0 hd pl ek s1=> ?_⟩;refine ⟨_,rfl,a,ws,rfl,W.same s1,wl,fun f H2 V9 WD s2=> ?_⟩;refine ⟨(by show 0<=sizeLine;decide),fun fo hfo=> ?_⟩;have s3:=aC (o:=HO.lst []) hfo;have s12:=s1.trans s2;have R7:H fo=none:=s12.free hfo;obtain ⟨kv2,ls,hf2,keys,two,lnd,Qd⟩:=id WD;refine ⟨_,rfl,f,kv2,2,ls,rfl,s3 _ _ hf2,keys,by decide,two,fun ks zs ms hks pm xJ zl zm=> ?_⟩;have s4:=aC (o:=HO.lst zs) hks;generalize hHB:upd (upd H2 fo (HO.lst [])) ks (HO.lst zs)=HB at s4 ⊢;have sB:Same H2 HB:=s3.trans s4;have R4:HB ks=some (.lst zs):=by rw [←hHB];exact ak
  have Gp:HB fo=some (.lst []):=s4 _ _ ak
  have zmB:∀(i:Nat) m,ms[i]? = some m -> ∃t,zs[i]? = some (.ref t)/\HB t=some (.tup (m.map V.int)):=fun i m e=>by
   obtain ⟨t,e1,e2⟩:=zm i m e;exact ⟨t,e1,s4 _ _ e2⟩
  have WB:=(W.same s12).same sB;have ltB:=(lt.same s12).same sB;have hdB:=sB _ _ (s2 _ _ hd);have hfB:=sB _ _ hf2;have nkf:ks≠fo:=(au ak hks).symm;have ndM:ms.Nodup:=(pm.nodup_iff).mpr lnd
  have O_:∀k,k∈ms↔k∈lJ/\xO ws k≠[]:=fun k=>by
   rw [pm.mem_iff];constructor
   ·intro hk
    obtain ⟨g,h,rfl⟩:∃g h,k=[g,h]:=by
     have:=two k hk
     match k,this with
     | [g,h],_=>exact ⟨g,h,rfl⟩
    rcases Qd g h with z|⟨l,_,_,_,ne⟩
    ·exact absurd hk z.2
    ·rw [wK] at ne
     have ne:pM ws g h≠[]:=fun z=>ne (by rw [z];rfl);exact ⟨IV ok ne,J8.mpr ne⟩
   ·rintro ⟨hk,ne⟩
    obtain ⟨g,h,rfl⟩:=uo hk;have ne:=J8.mp ne;rcases Qd g h with z|⟨l,_,_,q,_⟩
    ·rw [wK] at z
     exact absurd (List.map_eq_nil_iff.mp z.1) ne
    ·exact q
  have m56:=JH ndM xJ O_;refine ⟨ks,rfl,⟨_,bh.of R4⟩, ?_⟩
  refine jH (K:=K) (a:=ks) (xs:=zs) (fun i σ H4=>∃(x1 x2 x3 x4:Option V),σ=[some (.ref a),some (.ref d),some (.ref f),some (.ref fo),x1,x2,x3,x4]/\Lp p fo HB ws ((ms.take i).flatMap (xO ws)) H4)
   ⟨none,none,none,none,rfl,fun b u e _ _=>e,ltB,⟨[],Gp,by simp [aD]⟩⟩ (fun i σ H4 _ ⟨_,_,_,_,_,iv⟩=>bh.of (iv.kp _ _ R4 (ltB.ne R4 (by intro ps z;cases z)) nkf)) ?_ ?_
  ·rintro i v σ H4 hi ⟨x1,x2,x3,x4,rfl,iv⟩
   have il:i<ms.length:=by have:=(List.getElem?_eq_some_iff.mp hi).1;omega
   obtain ⟨m,em⟩:∃m,ms[i]? = some m:=⟨ms[i],by simp [il]⟩;obtain ⟨t,et,ht⟩:=zmB i m em;rw [hi] at et;cases et;have hml:m∈ls:=pm.mem_iff.mp (List.mem_of_getElem? em)
   obtain ⟨g,h,rfl⟩:∃g h,m=[g,h]:=by
    have:=two m hml
    match m,this with
    | [g,h],_=>exact ⟨g,h,rfl⟩
   obtain ⟨l0,v0,NL,_,Pj⟩:∃l,cZ kv2 [Sum.inl g,Sum.inl h]=some (.ref l)/\cg H2 l (grp ((nu ws ws.length).map (wN ws)) g h)/\[g,h]∈ls/\grp ((nu ws ws.length).map (wN ws)) g h≠[]:=by
    rcases Qd g h with z|z
    ·exact absurd hml z.2
    ·exact z
   rw [wK] at NL Pj;have tk:ms.take (i+1)=ms.take i++[[g,h]]:=by rw [List.take_add_one,em];rfl
   have toB:∀{b u},HB b=some u->(∀ps,u ≠ .kE ps)->b≠fo->H4 b=some u:=fun e n1 n2=>iv.kp _ _ e (ltB.ne e n1) n2;have ht4:H4 t=some (.tup [.int g,.int h]):=toB ht (by intro ps z;cases z) (dB ht Gp (by intro z;cases z));have hf4:H4 f=some (.dT kv2):=toB hfB (by intro ps z;cases z) (dB hfB Gp (by intro z;cases z));refine ⟨_,rfl,_,rfl,f,_,rfl,v0▸iw.t (k:=[Sum.inl g,Sum.inl h]) hf4 ht4, ?_⟩
   refine ⟨fun m σ H5=>∃(l:Addr) (M L:List PN) (part:List (Nat×PN)) (x3 x4:Option V),σ=[some (.ref a),some (.ref d),some (.ref f),some (.ref fo),some (.ref t),some (.ref l),x3,x4]/\Lp p fo HB ws ((ms.take i).flatMap (xO ws)++part) H5/\cg H5 l (M.map (wN ws))/\l≠fo /\
    (∀z,z∈M↔z∈L)/\L.Pairwise P0/\(∀z∈L,z6 ws g h z)/\part++fr ws g L.length L=oH ws g h/\M.length<=90000/\m=L.length,⟨_,l0,pM ws g h,lL ws g h ws.length,[],_,_,rfl,by rw [List.append_nil];exact iv, ?_, ?_,fun z=>wG.trans iZ.symm,sV ws g h _,fun z hz=>iZ.mp hz,rfl, ?_,rfl⟩, ?_⟩
   ·obtain ⟨us,e1,e2⟩:=NL.same sB
    refine ⟨us,toB e1 (by intro ps z;cases z) ?_,aD.keep (fun a xs h=>toB h (by intro ps z;cases z) (dB h Gp (by intro z;cases z))) _ (aQ _ h_ _) e2⟩;obtain ⟨us',e1',_⟩:=NL;exact au e1' hfo
   ·obtain ⟨us',e1',_⟩:=NL
    exact au e1' hfo
   ·have h1:=List.length_filter_le (XF ws g h) (nu ws ws.length)
    have h2:=uh ws ws.length wl;show ((nu ws ws.length).filter (XF ws g h)).length<=_;omega
   ·rintro _ σ H5 ⟨l,M,L,part,x3,x4,rfl,VD,N5,XJ,mem,Qq,win,Lk,Ml,rfl⟩
    obtain ⟨us,hl5,dl5⟩:=id N5;have Ey:us.length=M.length:=by rw [dl5.length,List.length_map,List.length_map]
    refine ⟨_,rfl, !us.isEmpty,.inl ⟨_,bh.of hl5,rfl⟩, ?_⟩;cases L with
    | nil=>
      have Mn:M=[]:=List.eq_nil_iff_forall_not_mem.mpr fun z hz=>by have:=(mem z).mp hz;simp at this
      have un:us=[]:=List.eq_nil_of_length_eq_zero (by rw [Ey,Mn];rfl);subst un;refine fL ?_;refine ⟨_,_,_,_,rfl, ?_⟩;rw [tH,List.append_nil] at Lk;rw [tk,List.flatMap_append,show List.flatMap (xO ws) [[g,h]]=oH ws g h by simp [xO],←Lk];exact VD
    | cons x r=>
      have hxM:x∈M:=(mem x).mpr (.head _)
      have une:us≠[]:=fun z=>by
       have:M.length=0:=by rw [←Ey,z];rfl
       rw [List.eq_nil_of_length_eq_zero this] at hxM;simp at hxM
      have ub:(!us.isEmpty)=true:=by
       cases us with
       | nil=>exact absurd rfl une
       | cons _ _=>rfl
      rw [ub];refine fG ?_;have hx:=win x (.head _)
      refine ⟨fun σ H5=>∃(l:Addr) (M:List PN) (x3 x4:Option V),σ=[some (.ref a),some (.ref d),some (.ref f),some (.ref fo),some (.ref t),some (.ref l),x3,x4]/\Lp p fo HB ws ((ms.take i).flatMap (xO ws)++(part++[(lst ws g x.2,x)])) H5/\cg H5 l (M.map (wN ws))/\l≠fo /\
       (∀z,z∈M↔z∈r.filter fun o=>decide (lst ws g x.2<o.1))/\M.length<=90000,fun σ' H' ⟨l',M',y3,y4,e1,e2,e3,e4,e5,e6⟩=> ?_, ?_⟩
      ·have fl:=List.length_filter_le (fun o:PN=>decide (lst ws g x.2<o.1)) r
       refine ⟨_, ?_,l',M',r.filter fun o=>decide (lst ws g x.2<o.1),_,y3,y4,e1,e2,e3,e4,e5,(List.pairwise_cons.mp Qq).2.filter _,fun z hz=>win z (.tail _ (List.mem_filter.mp hz).1), ?_,e6,rfl⟩
       ·show _<r.length+1
        omega
       ·rw [←Lk,List.append_assoc,List.singleton_append]
        show part++_::fr ws g _ _=part++_::fr ws g _ _;rw [wM ws g (r.filter fun o=>decide (lst ws g x.2<o.1)).length r.length _ (Nat.le_refl _) fl]
      have npl:=VD.lt.ne hl5 (by intro ps z;cases z);refine ⟨_,rfl,VD.lt,fun q H6 hq0 LF LT6 Lj=> ?_⟩;have iv6:=VD.uI Lj LT6;have N6:=N5.uI Lj VD.lt;obtain ⟨Za,R3,YQ⟩:=id N6;have:Za=us:=by rw [Lj _ _ hl5 npl] at R3;injection R3 with q;injection q with q;exact q.symm
      subst this
      have at6:∀(i:Nat) v,Za[i]? = some v -> ∃o t,M[i]? = some o/\v = .ref t/\H6 t=some (.tup (nV (wN ws o))):=fun i v e=>by
       obtain ⟨y,t,e1,e2,e3⟩:=jm YQ e;rw [List.getElem?_map] at e1;cases eo:M[i]? with
       | none=>rw [eo] at e1;cases e1
       | some o=>
         rw [eo] at e1;cases e1;exact ⟨o,t,rfl,e2,e3⟩
      refine ⟨l,q,Za,fun i=>Gj ws ((M[i]?).getD (0,0)),rfl,rfl,LF,bh.of R3,List.length_pos_iff.mpr une,fun i v H7 e s7=> ?_,fun i2 v H7 e fm s7=> ?_⟩
      ·obtain ⟨o,t',eo,rfl,ht'⟩:=at6 i v e
       refine ⟨t',wN ws o,rfl,s7 _ _ ht',fun pp hpp=>⟨pp,rfl, ?_,aC hpp⟩⟩;rw [ak];dsimp only;rw [eo];rfl
      obtain ⟨o,tw,eo,rfl,htw⟩:=at6 i2 v e;have eox:o=x:=Rq (fun i=>Gj ws ((M[i]?).getD (0,0))) (fun i z ez=>by rw [ez];rfl) Qq win mem eo (Ey▸fm);subst eox;have iv7:=iv6.same s7;have N7:=N6.same s7;have V0:=s7 _ _ htw;have atB:∀{b u},HB b=some u->(∀ps,u ≠ .kE ps)->b≠fo->H7 b=some u:=fun e n1 n2=>iv7.kp _ _ e (ltB.ne e n1) n2
      have W7:bY H7 a ws:=by
       obtain ⟨vs,e1,e2⟩:=WB;obtain ⟨vs',e1',_⟩:=W;exact ⟨vs,atB e1 (by intro ps z;cases z) (au e1' R7),aD.keep (fun a xs h=>atB h (by intro ps z;cases z) (dB h Gp (by intro z;cases z))) _ (aQ _ lD _) e2⟩
      have hd7:=atB hdB (by intro ps z;cases z) (dB hdB Gp (by intro z;cases z));refine ⟨_,rfl,_,rfl,_,rfl,a,d,tw,kvs,ws,g,h,o,rfl,W7,wl,hd7,pl,V0,hx,fun np H8 hnp s8=> ?_⟩;have iv8:=iv7.same s8;have N8:=N7.same s8;have acz:=s8 _ _ V0;obtain ⟨fv,R6,Wn⟩:=id iv8.ww
      have fvl:fv.length<=20000:=by
       rw [Wn.length,List.length_map,List.length_map,List.length_append];have h1:=tM wl (ms.take i)
       have h2:part.length<=ws.length:=by
        have:=DX ws g h;rw [←Lk,List.length_append] at this;omega
       rw [List.length_take] at h1;have:min i ms.length<=56:=by omega
       omega
      refine ⟨_,rfl,.inl ⟨rfl,_,bh.of R6⟩,_,rfl,_,rfl,(by show 2<=sizeLine;decide),fun tp htp=> ?_⟩;have s9:=aC (o:=HO.tup [V.ref tw,V.ref np]) htp;refine ⟨fo,fv,_,rfl,rfl,s9 _ _ R6,by rw [sizeLine_eq];omega, ?_⟩;have iv9:=iv8.same s9;have N9:=N8.same s9;have R5:=s9 _ _ R6;have VR:=s9 _ _ acz;have R0:=s9 _ _ hnp;have V1:(upd H8 tp (HO.tup [V.ref tw,V.ref np])) tp=some (.tup [.ref tw,.ref np]):=ak;generalize upd H8 tp (HO.tup [V.ref tw,V.ref np])=H9 at iv9 N9 R5 VR R0 V1 s9 ⊢;have kX:Kp fo H9 (upd H9 fo (.lst (fv++[V.ref tp]))):=Kp.set;have tX:=kX.tups R5
      have ivX:Lp p fo HB ws ((ms.take i).flatMap (xO ws)++(part++[(lst ws g o.2,o)])) (upd H9 fo (.lst (fv++[V.ref tp]))):=by
       refine ⟨fun b u e n1 n2=>kX _ _ (iv9.kp b u e n1 n2) n2,iv9.lt.set R5,_,ak, ?_⟩;rw [←List.append_assoc,List.map_append,List.map_append];exact aD.append (aD.keep (fun a xs h=>tX _ _ (s9.tups _ _ h)) _ (aQ _ Bs _) Wn) (Kr (SM (x:=fW ws (lst ws g o.2,o)) (tX _ _ V1) (tX _ _ VR) (tX _ _ R0)))
      have NX:cg (upd H9 fo (.lst (fv++[V.ref tp]))) l (M.map (wN ws)):=N9.kp tX kX XJ;have V4:=tX _ _ R0;generalize upd H9 fo (.lst (fv++[V.ref tp]))=HX at ivX NX V4 ⊢;obtain ⟨uX,hlX,dlX⟩:=id NX;have uXl:uX.length=M.length:=by rw [dlX.length,List.length_map,List.length_map]
      refine ⟨_,rfl,l,rfl,⟨_,bh.of hlX⟩,fun D hD=> ?_⟩;refine gC (K:=K) (xs:=uX) (fun i=>(M[i]?).bind fun z=>if decide (lst ws g o.2<z.1)=true then some (nD (wN ws z)) else none) (fun i d h=> ?_) hD (bh.of hlX) (by omega) (fun i v H2 G F hi sY kG kF=> ?_) (fun H2 vs sY e2 d2=> ?_)
      ·cases e:M[i]? with
       | none=>rw [e] at h;cases h
       | some z=>
         rw [e] at h;simp only [Option.bind_some] at h;split at h
         ·cases h;rfl
         ·cases h
      ·obtain ⟨y,t',e1,rfl,ht'⟩:=jm dlX hi
       rw [List.getElem?_map] at e1;cases YL:M[i]? with
       | none=>rw [YL] at e1;cases e1
       | some z=>
         rw [YL] at e1;cases e1;rw [YL] at kG kF;simp only [Option.bind_some] at kG kF;have zL:=(mem z).mp (List.mem_of_getElem? YL);have mi:=Ju hx (win z zL) ((List.mem_cons.mp zL).imp id fun q=>(List.pairwise_cons.mp Qq).1 z q);refine ⟨_,rfl,_,rfl,np,t',bH ws (lst ws g o.2) o.2,wN ws z,rfl,sY _ _ V4,sY _ _ ht',fun H3 sZ=>⟨_,rfl, ?_⟩⟩
         by_cases q:lst ws g o.2<z.1
         ·rw [if_pos (decide_eq_true q)] at kF
          have:mB (bH ws (lst ws g o.2) o.2) (wN ws z)=false:=by
           rw [decide_eq_true q] at mi;cases w:mB (bH ws (lst ws g o.2) o.2) (wN ws z) with
           | false=>rfl
           | true=>rw [w] at mi;cases mi
          rw [this];refine fG ?_;exact ⟨_,rfl,kF _ _ _ sZ rfl (jd ((sY.trans sZ) _ _ ht'))⟩
         ·rw [if_neg (by rw [decide_eq_true_iff];exact q)] at kG
          have:mB (bH ws (lst ws g o.2) o.2) (wN ws z)=true:=by
           rw [decide_eq_false q] at mi;cases w:mB (bH ws (lst ws g o.2) o.2) (wN ws z) with
           | true=>rfl
           | false=>rw [w] at mi;cases mi
          rw [this];refine fL ?_;exact kG _ sZ rfl
      ·rw [uXl,Wf] at d2
       refine ⟨D,M.filter fun z=>decide (lst ws g o.2<z.1),_,_,rfl,ivX.same sY,⟨vs,e2,d2⟩, ?_,fun z=> ?_, ?_⟩
       ·obtain ⟨_,e1,_⟩:=ivX.ww
        exact (au e1 hD).symm
       ·rw [List.mem_filter,List.mem_filter,mem z,List.mem_cons]
        constructor
        ·rintro ⟨rfl|q1,q2⟩
         ·obtain ⟨z1,z2,_,z4,_⟩:=hx
          have:=(gP (ws:=ws) z2 (by omega) z4).2.2.1 z.1 z2 z4;have:=of_decide_eq_true q2;omega
         ·exact ⟨q1,q2⟩
        ·rintro ⟨q1,q2⟩
         exact ⟨.inr q1,q2⟩
       ·exact Nat.le_trans (List.length_filter_le _ _) Ml
  ·rintro σ H4 ⟨x1,x2,x3,x4,rfl,iv⟩
   have e:ms.take zs.length=ms:=by rw [zl,List.take_length]
   rw [e,JK ndM xJ O_] at iv;exact ⟨_,rfl,k fo H4 R7 iv.ww (fun b u e n=>iv.kp _ _ (sB _ _ (s12 _ _ e)) n (au e R7)) iv.lt⟩
theorem Pr {α:Type} (l:List α) (f:α->Nt):(List.range l.length).filterMap (fun i=>(l[i]?).map fun x=>nD (f x))=(l.map f).map nD:=by
 induction l with
 | nil=>rfl
 | cons x l ih=>
   rw [List.length_cons,List.range_succ_eq_map,List.filterMap_cons,List.filterMap_map];have e:List.filterMap ((fun i=>((x::l)[i]?).map fun x=>nD (f x))∘Nat.succ) (List.range l.length)=(l.map f).map nD:=by rw [←ih];rfl
   rw [e];rfl
theorem Dt {α:Type} (l:List α) (f:α->Nt) (i:Nat) (d:PyData) (h:(l[i]?).map (fun x=>nD (f x))=some d):Bu d=true:=by
 cases e:l[i]? with
 | none=>rw [e] at h;cases h
 | some x=>rw [e] at h;cases h;rfl
def oR (p:Addr) (K:PySem.W.Frag):Sp:=fun vs H Q _=>∃(a:Addr) (ws:List aW),vs=[.ref a]/\bY H a ws/\(∀x∈ws,lK x)/\ws.length<=300/\LT p H /\ ∀(r:Addr) (ns:List Nt) (H':Hp),H r=none->cg H' r ns->ns.Perm ((bI ws).map fun y=>(fW ws y).2)->GF ns->Kp p H H'->LT p H'->Q (.ref r) H'
def vZ (p:Addr) (K:PySem.W.Frag):Sp:=fun vs H Q _=>∃(a:Addr) (ws:List aW),vs=[.ref a]/\bY H a ws/\(∀x∈ws,lK x)/\ws.length<=300/\LT p H /\ ∀(r:Addr) (H':Hp),H r=none->cg H' r ((bI ws).map fun y=>(fW ws y).1)->Kp p H H'->LT p H'->Q (.ref r) H'
theorem pH {ws:List aW} (hl:ws.length<=300):(bI ws).length<=20000:=by
 rw [tK];have h:=tM hl lJ;rw [show lJ.length=56 by decide +kernel] at h;omega
theorem kpF {p a:Addr} {H H':Hp} (k:Kp p H H') (l:LT p H') (h:H' a=none):H a=none:=by
 cases e:H a with
 | none=>rfl
 | some o=>
   by_cases z:a=p
   ·obtain ⟨ps,q⟩:=l.kE
    rw [z,q] at h;cases h
   ·rw [k _ _ e z] at h;cases h
theorem Bb {p:Addr} {f:Addr} {fd:FuncData} (F:kJ K "strict_notes" "strict_notes" bR f fd) (fM:FnAt P w K mg base 3 "wants_with_notes" ["web"] (CP p K)) (Bt:uM mg):cX P w K mg base jx 4 f fd ["web"] (oR p K):=by
 refine F.ok qw (fun vs H Q E h=> ?_) (fun cdv A outer s H vs Q E hr h=> ?_)
 ·obtain ⟨a,ws,rfl,_⟩:=h
  rfl
 ·obtain ⟨a,ws,rfl,W,ok,wl,lt,k⟩:=h
  refine ⟨_,(aH (aZ (bw (qg (K:=K) rfl) (by rfl) Bt.ug pO (aj (fJ rfl (N:=["each"]) (own:=["each"]) (caps:=[]) (aR.of (by kernel_rfl)) (bU (K:=K) rfl (aU fM (hr.mono (by decide)) (by rfl) (aj (pv 0) aq))) (fun _ _ _ _=>(aV (i:=0) (show List.Nodup (["each"]:List Str) by decide +kernel) rfl (Or.inl rfl))) (fun _ _ _ _=>iK) (fun _ _ _ _=>(aK (aM (K:=K) rfl) (pv 0) aA (fun _ _=>rfl)))) aq)))), ?_⟩;refine ⟨_,rfl,a,ws,rfl,W,ok,wl,lt,fun r H1 hr0 WW Vy Vo=> ?_⟩;obtain ⟨us,hus,Kf⟩:=id WW;have Ey:us.length=(bI ws).length:=by rw [Kf.length,List.length_map,List.length_map]
  have few:=pH wl;refine ⟨r,rfl,⟨_,bh.of hus⟩,fun D hD=> ?_⟩;refine gC (K:=K) (xs:=us) (fun i=>((bI ws)[i]?).map fun y=>nD (fW ws y).2) (Dt (bI ws) fun y=>(fW ws y).2) hD (bh.of hus) (by omega) (fun i v H2 G F hi s2 kG kF=> ?_) (fun H2 vs s2 e2 d2=> ?_)
  ·obtain ⟨x,t,u,z,ex,rfl,ht,hu',hz⟩:=Ho Kf hi
   rw [List.getElem?_map] at ex;cases ey:(bI ws)[i]? with
   | none=>rw [ey] at ex;cases ex
   | some y=>
     rw [ey] at ex kF;cases ex;refine fG (B:=G H2) ?_;exact ⟨_,rfl,_,_,_,_,rfl,rfl,cJ.of (s2 _ _ ht),rfl,kF _ _ _ (Same.refl _) rfl (jd (s2 _ _ hz))⟩
  ·rw [Ey,Pr (bI ws) fun y=>(fW ws y).2] at d2
   have XS:=Vo.same s2;exact yg ⟨vs,e2,d2⟩ fun l ns H3 hl NN pp ss s3=>k l ns H3 (kpF Vy Vo (s2.free hl)) NN pp ss (fun b u e n=>(s2.trans s3) _ _ (Vy b u e n)) (XS.same s3)
theorem Jh {p:Addr} {f:Addr} {fd:FuncData} (F:kJ K "wants_apart" "wants_apart" cj f fd) (fM:FnAt P w K mg base 3 "wants_with_notes" ["web"] (CP p K)) (Bt:uM mg):cX P w K mg base jx 4 f fd ["web"] (vZ p K):=by
 refine F.ok rM (fun vs H Q E h=> ?_) (fun cdv A outer s H vs Q E hr h=> ?_)
 ·obtain ⟨a,ws,rfl,_⟩:=h
  rfl
 ·obtain ⟨a,ws,rfl,W,ok,wl,lt,k⟩:=h
  refine ⟨_,(aH (aZ (fJ rfl (N:=["each"]) (own:=["each"]) (caps:=[]) (aR.of (by kernel_rfl)) (bU (K:=K) rfl (aU fM (hr.mono (by decide)) (by rfl) (aj (pv 0) aq))) (fun _ _ _ _=>(aV (i:=0) (show List.Nodup (["each"]:List Str) by decide +kernel) rfl (Or.inl rfl))) (fun _ _ _ _=>iK) (fun _ _ _ _=>(aK (aM (K:=K) rfl) (pv 0) aA (fun _ _=>rfl)))))), ?_⟩;refine ⟨_,rfl,a,ws,rfl,W,ok,wl,lt,fun r H1 hr0 WW Vy Vo=> ?_⟩;obtain ⟨us,hus,Kf⟩:=id WW;have Ey:us.length=(bI ws).length:=by rw [Kf.length,List.length_map,List.length_map]
  have few:=pH wl;refine ⟨r,rfl,⟨_,bh.of hus⟩,fun D hD=> ?_⟩;refine gC (K:=K) (xs:=us) (fun i=>((bI ws)[i]?).map fun y=>nD (fW ws y).1) (Dt (bI ws) fun y=>(fW ws y).1) hD (bh.of hus) (by omega) (fun i v H2 G F hi s2 kG kF=> ?_) (fun H2 vs s2 e2 d2=> ?_)
  ·obtain ⟨x,t,u,z,ex,rfl,ht,hu',hz⟩:=Ho Kf hi
   rw [List.getElem?_map] at ex;cases ey:(bI ws)[i]? with
   | none=>rw [ey] at ex;cases ex
   | some y=>
     rw [ey] at ex kF;cases ex;refine fG (B:=G H2) ?_;exact ⟨_,rfl,_,_,_,_,rfl,rfl,cJ.of (s2 _ _ ht),rfl,kF _ _ _ (Same.refl _) rfl (jd (s2 _ _ hu'))⟩
  ·rw [Ey,Pr (bI ws) fun y=>(fW ws y).1] at d2
   exact k D H2 (kpF Vy Vo hD) ⟨vs,e2,d2⟩ (fun b u e n=>s2 _ _ (Vy b u e n)) (Vo.same s2)
def rG (K:PySem.W.Frag):Sp:=fun vs H Q _=>∃(a d t:Addr) (kvs:List (List Key×V)) (ws:List aW) (x:Nt),vs=[.ref a,.ref d,.ref t]/\bY H a ws/\H d=some (.dT kvs)/\Cu kvs (nm ws)/\H t=some (.tup (nV x)) /\ ∀(bl:Bool) (H':Hp),(bl=true↔K9 ws x)->Same H H'->Q (.bl bl) H'
theorem FQ {f:Addr} {fd:FuncData} (F:kJ K "is_want" "is_want" eG f fd) (lO:FnAt P w K mg base 3 "is_strict" ["places","note"] (nH K)) (cN:FnAt P w K mg base 1 "touches_meet" ["one","other"] (Fg K)):cX P w K mg base jx 4 f fd ["web","places","note"] (rG K):=by
 refine F.ok Al (fun vs H Q E h=> ?_) (fun cdv A outer s H vs Q E hr h=> ?_)
 ·obtain ⟨a,d,t,kvs,ws,x,rfl,_⟩:=h
  rfl
 ·obtain ⟨a,d,t,kvs,ws,x,rfl,W,hd,pl,ht,k⟩:=h
  have hu:=jr hr;refine ⟨_,(aH (aZ (rW (aU lO (hr.mono (by decide)) (by rfl) (aj (pv 1) (aj (pv 2) aq))) (o8 (aU cN (hr.mono (by decide)) (by rfl) (aj (aK (aP (K:=K) rfl) (pv 0) (fV hu (pv 1) (b_ (gG (K:=K) rfl) (pv 2) cW (cH aA)) (fun _ _=>rfl)) (fun _ _=>rfl)) (aj (aK (aP (K:=K) rfl) (pv 0) (fV hu (pv 1) (b_ (gG (K:=K) rfl) (pv 2) (cH aA) cW) (fun _ _=>rfl)) (fun _ _=>rfl)) aq))))))), ?_⟩;refine ⟨_,rfl,_,rfl,d,t,kvs,ws,x,rfl,hd,pl,ht,fun bl H1 Yl s1=>⟨_,rfl, ?_⟩⟩;cases bl with
  | false=>
    refine fL ?_;exact k false H1 ⟨fun z=>(by cases z),fun ⟨i,j,_,_,z,_⟩=>absurd (Yl.mpr ⟨i,j,z⟩) (by decide)⟩ s1
  | true=>
    refine fG ?_;obtain ⟨i,j,hne,ei,ej,lt⟩:=Yl.mp rfl;obtain ⟨y,ey,_⟩:=qU ei;obtain ⟨z,ez,_⟩:=qU ej;have ht1:=s1 _ _ ht;have hd1:=s1 _ _ hd;refine ⟨_,rfl,_,rfl,_,rfl,_,rfl,_,_,rfl,cJ.of ht1,wB _ rfl,fun p3 hp3=> ?_⟩;rw [show fD (nV x) none (some 2)=[.int x.1,.int x.2.1] from Ei ..];have s4:=aC (o:=HO.tup [V.int x.1,V.int x.2.1]) hp3;obtain ⟨vs4,q,hw4,eq4,hq4⟩:=gD ((W.same s1).same s4) ey;refine ⟨d,_,rfl,pl.1 i _ ei▸iw.t (k:=kx (n1 x)) (s4 _ _ hd1) ak,_,_,_,_,rfl,rfl,bh.of hw4,dO eq4, ?_⟩;refine ⟨_,rfl,_,rfl,_,rfl,_,rfl,_,_,rfl,cJ.of (s4 _ _ ht1),o9 _ rfl,fun p4 V3=> ?_⟩;rw [show fD (nV x) (some 2) none=[.int x.2.2.1,.int x.2.2.2] from vo ..];have s5:=aC (o:=HO.tup [V.int x.2.2.1,V.int x.2.2.2]) V3;have ZS:=s4.trans s5;obtain ⟨Xu,q5,RV,eq5,hq5⟩:=gD ((W.same s1).same ZS) ez;refine ⟨d,_,rfl,pl.1 j _ ej▸iw.t (k:=kx (n2 x)) (ZS _ _ hd1) ak,_,_,_,_,rfl,rfl,bh.of RV,dO eq5, ?_⟩;refine ⟨q,q5,y,z,rfl,s5 _ _ hq4,hq5, ?_⟩;refine k _ _ ⟨fun w=>⟨i,j,y,z,⟨hne,ei,ej,lt⟩,ey,ez,w⟩, ?_⟩ (s1.trans ZS);rintro ⟨i',j',y',z',⟨_,a1,a2,_⟩,b1,b2,b3⟩;have e1:=g_ a1 ei;have e2:=g_ a2 ej;subst e1 e2;rw [ey] at b1;rw [ez] at b2;cases b1;cases b2;exact b3
def HJ (K:PySem.W.Frag):Sp:=fun vs H Q _=>∃(a t u:Addr) (ws:List aW) (x y:Nt),vs=[.ref a,.ref t,.ref u]/\bY H a ws/\ws.length<=300/\H t=some (.tup (nV x))/\H u=some (.tup (nV y))/\zT ws x/\K9 ws y /\ ∀H',Same H H'->Q (.bl (mB x y)) H'
theorem Ra {f:Addr} {fd:FuncData} (F:kJ K "meets_want" "meets_want" cD f fd) (gY:FnAt P w K mg base 2 "places_of" ["web"] (k_ K)) (jg:FnAt P w K mg base 4 "check_strict" ["places","some"] (CV K)) (GP:FnAt P w K mg base 4 "is_want" ["web","places","note"] (rG K)) (xq:FnAt P w K mg base 2 "meets" ["note","want"] (qL K)):cX P w K mg base jx 5 f fd ["web","note","want"] (HJ K):=by
 refine F.ok mK (fun vs H Q E h=> ?_) (fun cdv A outer s H vs Q E hr h=> ?_)
 ·obtain ⟨a,t,u,ws,x,y,rfl,_⟩:=h
  rfl
 ·obtain ⟨a,t,u,ws,x,y,rfl,W,wl,ht,hu',sx,wy,k⟩:=h
  refine ⟨_,(aB (aO (i:=3) mK.nd rfl (Or.inl rfl) (aU gY (hr.mono (by decide)) (by rfl) (aj (pv 0) aq)))
   (aB (dN (aU jg (hr.mono (by decide)) (by rfl) (aj (pv 3) (aj (fu (aj (pv 1) aq)) aq))))
   (aB (fU (lC (gZ (aU GP (hr.mono (by decide)) (by rfl) (aj (pv 0) (aj (pv 3) (aj (pv 2) aq)))))) (aH yC) cG)
   (aH (aZ (aU xq (hr.mono (by decide)) (by rfl) (aj (pv 1) (aj (pv 2) aq)))))))), ?_⟩
  refine ⟨_,rfl,a,ws,rfl,W,wl,fun d kvs H1 hd0 hd pl ek s1=> ?_⟩;refine ⟨_,rfl,_,rfl,(by show 1<=sizeLine;decide),fun l hl=> ?_⟩;have s2:=aC (o:=HO.lst [V.ref t]) hl;have s12:=s1.trans s2;have NL:cg (upd H1 l (HO.lst [V.ref t])) l [x]:=⟨_,ak,Kr (jd (s12 _ _ ht))⟩;refine ⟨d,l,kvs,ws,[x],rfl,s2 _ _ hd,pl,NL,by show 1<=100000;decide,fun z hz=>by rw [List.mem_singleton.mp hz];exact sx,fun H3 s3=> ?_⟩;have zY:=s12.trans s3;refine ⟨_,rfl,_,rfl,_,rfl,a,d,u,kvs,ws,y,rfl,W.same zY,(s2.trans s3) _ _ hd,pl,zY _ _ hu',fun bl H4 Yl s4=>⟨_,rfl, ?_⟩⟩;have O1:=zY.trans s4;have:bl=true:=Yl.mpr wy;subst this;refine fL ?_;exact ⟨_,rfl,_,rfl,t,u,x,y,rfl,O1 _ _ ht,O1 _ _ hu',fun H5 s5=>k H5 (O1.trans s5)⟩
section
variable {a D:Addr} {xs:List V} {tc:TT} {te:TE} {Q:VK} {rest:St} {H1:Hp}
theorem Gy (f:Nat->Option PyData) (hf:∀i d,f i=some d->Bu d=true) (hD:H1 D=none) (hq:H1 a=some (.lst xs)) (hx:xs.length<=100000) (hp:∀(i:Nat) (v:V),xs[i]? = some v -> ∃(t:Addr) (x y z:V),v = .ref t/\H1 t=some (.tup [x,y,z]))
 (hs:∀i t x y z H (G:Hp->Prop) (F:VK),xs[i]? = some (.ref t)->H1 t=some (.tup [x,y,z])->Same H1 H->(∀H',Same H H'->f i=none->G H')->(∀v d H',Same H H'->f i=some d->Dat H' v d->F v H')->tc (some x::some y::some z::rest) H fun b H3=>if b=true then te (some x::some y::some z::rest) H3 F else G H3)
 (hd:∀H vs,Same H1 H->H D=some (.lst vs)->aD H vs ((List.range xs.length).filterMap f)->Q (.ref D) H):mV (Oq K a) (R_ K 3 (DR (iz 0) (DR (iz 1) (DR (iz 2) Wd)))) tc te Q D (none::none::none::rest) H1:=by
 refine lZ (K:=K) (xs:=xs) (fun i σ H=>(∃u v w,σ=u::v::w::rest)/\Same H1 H /\ ∃vs,H D=some (.lst vs)/\aD H vs ((List.range i).filterMap f)) ⟨⟨none,none,none,rfl⟩,aC hD,[],ak,by simp [aD]⟩ (fun i σ H _ ⟨_,sm,_⟩=>bh.of (sm _ _ hq)) ?_ (fun σ H ⟨_,sm,vs,e,d⟩=>hd H vs sm e d);rintro i v σ H hi ⟨⟨u1,u2,u3,rfl⟩,sm,vs,e,d⟩;obtain ⟨t,x,y,z,rfl,ht⟩:=hp i v hi;have hil:i<xs.length:=(List.getElem?_eq_some_iff.mp hi).1;have im:=qY hf (List.range i);refine ⟨t,_,rfl,cJ.of (sm _ _ ht),rfl,_,_,rfl,_,_,rfl,_,_,rfl,rfl, ?_⟩;refine hs i t x y z H _ _ hi ht sm (fun H3 s3 ef=>⟨⟨_,_,_,rfl⟩,sm.trans s3,vs,s3 _ _ e, ?_⟩) (fun y dd H4 s4 ef dy=> ?_)
 ·rw [dg,ef]
  simpa using aD.keep s3.tups _ im d
 ·have hl:vs.length<=i:=by rw [d.length];exact nj f i
  have kp:Kp D H4 (upd H4 D (.lst (vs++[y]))):=Kp.set;have tp:=kp.tups (s4 _ _ e);refine ⟨vs,s4 _ _ e, ?_,⟨_,_,_,rfl⟩,(sm.trans s4).newly hD,vs++[y],ak, ?_⟩
  ·rw [sizeLine_eq];omega
  ·rw [dg,ef]
   exact pJ (aD.keep (fun a xs h=>tp _ _ (s4.tups _ _ h)) _ im d) (Dat.keep tp _ (hf i dd ef) dy)
end
def of2 (a b:Int) (x:aW):aW:=(if x.1 % 2=0 then a else b,x.2.1,x.2.2)
theorem Sq {α:Type} (l:List α) (f:α->aW):(List.range l.length).filterMap (fun i=>(l[i]?).map fun x=>tD (f x))=(l.map f).map tD:=by
 induction l with
 | nil=>rfl
 | cons x l ih=>
   rw [List.length_cons,List.range_succ_eq_map,List.filterMap_cons,List.filterMap_map];have e:List.filterMap ((fun i=>((x::l)[i]?).map fun x=>tD (f x))∘Nat.succ) (List.range l.length)=(l.map f).map tD:=by rw [←ih];rfl
   rw [e];rfl
def HF (K:PySem.W.Frag):Sp:=fun vs H Q _=>∃(r w:Addr) (ws:List aW),vs=[.ref r,.ref w]/\bA H r/\bY H w ws/\(∀x∈ws,lK x)/\ws.length<=300 /\ ∀(w2:Addr) (Tw:List aW) (a b:Int) (H':Hp),bY H' w2 Tw->(∀x∈Tw,lK x)->Tw.length=ws.length->Two Tw a b->bA H' r->Kp r H H'->H w2=none->Q (.ref w2) H'
theorem Q_ {f:Addr} {fd:FuncData} (F:kJ K "_law_of_two" "_law_of_two" eV f fd) (cQ:FnAt P w K mg base 1 "_law_draw" ["spring","many"] (lq K)):cX P w K mg base jx 2 f fd ["spring","web"] (HF K):=by
 refine F.ok mW (fun vs H Q E h=> ?_) (fun cdv A outer s H vs Q E hr h=> ?_)
 ·obtain ⟨r,w,ws,rfl,_⟩:=h
  rfl
 ·obtain ⟨r,w,ws,rfl,S,W,ok,wl,k⟩:=h
  refine ⟨_,(aB (aO (i:=2) mW.nd rfl (Or.inr rfl) (aU cQ (hr.mono (by decide)) (by rfl) (aj (pv 0) (aj aA aq))))
   (aB (aO (i:=3) mW.nd rfl (Or.inr rfl) (bx g8 (bx dj (bx dj (pv 2) aA) (aU cQ (hr.mono (by decide)) (by rfl) (aj (pv 0) (aj aA aq)))) aA))
   (aH (aZ (fJ rfl (N:=["hand","kind","cell","one","other"]) (own:=["hand","kind","cell"]) (caps:=[2,3]) (aR.of (by kernel_rfl)) (bU (K:=K) rfl (pv 1)) (fun _ _ _ _=>(nO (K:=K) (n:=3) rfl rfl (d9 (aV (i:=0) (show List.Nodup (["hand","kind","cell","one","other"]:List Str) by decide +kernel) rfl (Or.inl rfl)) (d9 (aV (i:=1) (show List.Nodup (["hand","kind","cell","one","other"]:List Str) by decide +kernel) rfl (Or.inl rfl)) (d9 (aV (i:=2) (show List.Nodup (["hand","kind","cell","one","other"]:List Str) by decide +kernel) rfl (Or.inl rfl)) nM))))) (fun _ _ _ _=>iK) (fun _ _ _ _=>(iW (aj (aK (aP (K:=K) rfl) (fu (aj (pv 3) (aj (pv 4) aq))) (bx g8 (pv 0) aA) (fun _ _=>rfl)) (aj (pv 1) (aj (pv 2) aq)))))))))), ?_⟩
  have XH:w≠r:=by
   obtain ⟨f1,f2,f3,e1,e2⟩:=S;obtain ⟨vs,h1,h2⟩:=W;rintro rfl;rw [h1] at e1;injection e1 with e1
   injection e1 with e1
   subst e1;cases ws with
   | nil=>simp [aD] at h2
   | cons x ws=>
     simp only [List.map_cons,aD] at h2;obtain ⟨t,q,_⟩:=gQ h2.1;cases q
  refine ⟨_,rfl,r,8,rfl,S,by decide,by decide,fun n1 H1 a1 b1 S1 k1=> ?_⟩;refine ⟨_,rfl,_,_,rfl,rfl,_,rfl,r,7,rfl,S1,by decide,by decide,fun n2 H2 a2 b2 S2 k2=>⟨_,_,rfl,rfl,_,_,rfl,rfl,(by show (0:Int)<8;decide), ?_⟩⟩;have W2:=(W.vX S k1 XH).vX S1 k2 XH;have k12:Kp r H H2:=k1.trans k2;obtain ⟨wv,hw,dw⟩:=id W2;have T7:wv.length=ws.length:=by rw [dw.length,List.length_map]
  refine ⟨_,rfl,w,rfl,⟨_,bh.of hw⟩,fun D hD=> ?_⟩;obtain ⟨ob,hb⟩:∃ob,(n1+1+n2) % 8=ob:=⟨_,rfl⟩;have nab:¬n1=ob:=by omega
  have gt:∀{i:Nat} {t:Addr} {x y z:V},wv[i]? = some (.ref t)->H2 t=some (.tup [x,y,z]) -> ∃o,ws[i]? = some o/\x = .int o.1/\y = .str o.2.1/\z = .int o.2.2:=fun {i t x y z} e ht=>by
   obtain ⟨dd,ed,dy⟩:=dw.get e;rw [List.getElem?_map] at ed;cases eo:ws[i]? with
   | none=>rw [eo] at ed;cases ed
   | some o=>
     rw [eo] at ed;cases ed;obtain ⟨t',q,ht'⟩:=gQ dy;cases q;rw [ht] at ht';cases ht';exact ⟨o,rfl,rfl,rfl,rfl⟩
  refine Gy (K:=K) (fun i=>(ws[i]?).map fun x=>tD (of2 n1 ob x)) (fun i d h=> ?_) hD hw (by omega) (fun i v hi=> ?_) (fun i t x y z H3 G F hi ht s3 kG kF=> ?_) (fun H3 us s3 e3 d3=> ?_)
  ·cases e:ws[i]? with
   | none=>rw [e] at h;cases h
   | some x=>rw [e] at h;cases h;rfl
  ·obtain ⟨dd,ed,dy⟩:=dw.get hi
   rw [List.getElem?_map] at ed;cases eo:ws[i]? with
   | none=>rw [eo] at ed;cases ed
   | some o=>
     rw [eo] at ed;cases ed;obtain ⟨t',rfl,ht'⟩:=gQ dy;exact ⟨t',_,_,_,rfl,ht'⟩
  ·obtain ⟨o,eo,rfl,rfl,rfl⟩:=gt hi ht
   rw [eo] at kF;refine fG (B:=G H3) ?_;refine ⟨_,rfl,_,rfl,(by show 2<=sizeLine;decide),fun l hl=> ?_⟩;have s4:=aC (o:=HO.lst [V.int n1,V.int ((n1+1+n2) % 8)]) hl;obtain ⟨⟨o0,o1⟩,_⟩:=ok o (List.mem_of_getElem? eo)
   have em:GD [V.int n1,V.int ((n1+1+n2) % 8)] (o.1 % 2)=some (V.int (if o.1 % 2=0 then n1 else ob)):=by
    rw [hb];rcases Int.emod_two_eq o.1 with q|q
    ·rw [q];rfl
    ·rw [q];rfl
   refine ⟨_,rfl,_,_,rfl,rfl,(by show (0:Int)<2;decide),_,_,_,_,rfl,rfl,bh.of ak,em,_,rfl,_,rfl,(by show 3<=sizeLine;decide),fun tp htp=> ?_⟩;exact kF _ _ _ (s4.trans (aC htp)) rfl (Eh (x:=of2 n1 ob o) ak)
  ·rw [T7,Sq ws (of2 n1 ob)] at d3
   refine k D (ws.map (of2 n1 ob)) n1 ob H3 ⟨us,e3,d3⟩ (fun x hx=> ?_) (List.length_map ..) ⟨nab,fun x hx=> ?_⟩ (S2.keep s3) (k12.trans (.of_same s3)) ?_
   ·obtain ⟨o,ho,rfl⟩:=List.mem_map.mp hx
    obtain ⟨_,q2,q3⟩:=ok o ho;refine ⟨?_,q2,q3⟩;show 0<=(if o.1 % 2=0 then n1 else ob)/\(if o.1 % 2=0 then n1 else ob)<8;split<;>omega
   ·obtain ⟨o,ho,rfl⟩:=List.mem_map.mp hx
    show (if o.1 % 2=0 then n1 else ob)=n1\/(if o.1 % 2=0 then n1 else ob)=ob;split
    ·exact .inl rfl
    ·exact .inr rfl
   ·cases e:H D with
    | none=>rfl
    | some o=>
      obtain ⟨f1,f2,f3,e1,_⟩:=S2;have:D≠r:=fun z=>by rw [z,e1] at hD;cases hD
      rw [k12 _ _ e this] at hD;cases hD
def Ah (K:PySem.W.Frag):Sp:=fun vs H Q _=>∃(a:Addr) (ns:List Nt) (g:Int),vs=[.ref a,.int g]/\cg H a ns/\ns.length<=90000 /\ ∀H',Same H H'->Q (.int ((ns.filter fun x=>decide (x.1=g)).length:Int)) H'
theorem Ka (M:List Nt) (p:Nt->Bool):(List.range M.length).filterMap (fun i=>(M[i]?).bind fun o=>if p o=true then some (nD o) else none)=(M.filter p).map nD:=by
 induction M with
 | nil=>rfl
 | cons x l ih=>
   rw [List.length_cons,List.range_succ_eq_map,List.filterMap_cons,List.filterMap_map,List.filter_cons];have e:List.filterMap ((fun i=>((x::l)[i]?).bind fun o=>if p o=true then some (nD o) else none)∘Nat.succ) (List.range l.length)=(l.filter p).map nD:=by rw [←ih];rfl
   rw [e];cases h:p x with
   | true=>simp [h]
   | false=>simp [h]
theorem Dr (M:List Nt) (p:Nt->Bool) (i:Nat) (d:PyData) (h:(M[i]?).bind (fun o=>if p o=true then some (nD o) else none)=some d):Bu d=true:=by
 cases e:M[i]? with
 | none=>rw [e] at h;cases h
 | some z=>
   rw [e] at h;simp only [Option.bind_some] at h;split at h
   ·cases h;rfl
   ·cases h
theorem MJ {f:Addr} {fd:FuncData} (F:kJ K "_law_many" "_law_many" iI f fd) (Bt:uM mg):cX P w K mg base jx 1 f fd ["some","hand"] (Ah K):=by
 refine F.ok HY (fun vs H Q E h=> ?_) (fun cdv A outer s H vs Q E hr h=> ?_)
 ·obtain ⟨a,ns,g,rfl,_⟩:=h
  rfl
 ·obtain ⟨a,ns,g,rfl,N,nl,k⟩:=h
  obtain ⟨us,hus,Kf⟩:=id N;have Ey:us.length=ns.length:=by rw [Kf.length,List.length_map]
  refine ⟨_,(aH (aZ (bw (bJ (K:=K) rfl) (by rfl) Bt.lG jf (aj (fJ rfl (N:=["note","hand"]) (own:=["note"]) (caps:=[1]) (aR.of (by kernel_rfl)) (bU (K:=K) rfl (pv 0)) (fun _ _ _ _=>(aV (i:=0) (show List.Nodup (["note","hand"]:List Str) by decide +kernel) rfl (Or.inl rfl))) (fun _ _ _ _=>(ji (bZ j8 (aK (aM (K:=K) rfl) (pv 0) aA (fun _ _=>rfl)) (pv 1) (bC _)))) (fun _ _ _ _=>(pv 0))) aq)))), ?_⟩;refine ⟨_,rfl,a,rfl,⟨_,bh.of hus⟩,fun D hD=> ?_⟩;refine gC (K:=K) (xs:=us) (fun i=>(ns[i]?).bind fun o=>if decide (o.1=g)=true then some (nD o) else none) (Dr ns fun o=>decide (o.1=g)) hD (bh.of hus) (by omega) (fun i v H2 G F hi s2 kG kF=> ?_) (fun H2 vs s2 e2 d2=> ?_)
  ·obtain ⟨x,t,ex,rfl,ht⟩:=jm Kf hi
   rw [ex] at kG kF;simp only [Option.bind_some] at kG kF;refine ⟨_,rfl,_,_,_,_,rfl,rfl,cJ.of (s2 _ _ ht),rfl,_,rfl,rfl,_,rfl, ?_⟩
   by_cases q:x.1=g
   ·rw [if_pos (decide_eq_true q)] at kF
    rw [decide_eq_true (show V.int x.1=V.int g by rw [q])];refine fG ?_;exact ⟨_,rfl,kF _ _ _ (Same.refl _) rfl (jd (s2 _ _ ht))⟩
   ·rw [if_neg (by rw [decide_eq_true_iff];exact q)] at kG
    rw [decide_eq_false (show ¬V.int x.1=V.int g from fun z=>q (by injection z))];refine fL ?_;exact kG _ (Same.refl _) rfl
  ·rw [Ey,Ka ns fun o=>decide (o.1=g)] at d2
   have vl:vs.length=(ns.filter fun x=>decide (x.1=g)).length:=by rw [d2.length,List.length_map]
   refine ⟨D,vs,rfl,.inl (bh.of e2), ?_⟩;rw [vl];exact k H2 s2
def rJ (K:PySem.W.Frag):Sp:=fun vs H Q _=>∃(a s:Addr) (ws:List aW) (c:Nat) (ns:List Nt),vs=[.ref a,.int c,.ref s]/\bY H a ws/\ws.length<=300/\c<=ws.length/\cg H s ns/\ns.length<=90000/\(∀x∈ns,0<=x.2.2.1/\x.2.2.1<8) /\ ∀(r:Addr) (H':Hp),cg H' r (ns.filter (pc ws c))->Same H H'->Q (.ref r) H'
theorem FT {f:Addr} {fd:FuncData} (F:kJ K "_law_first_ones" "_law_first_ones" cu f fd) (Bt:uM mg):cX P w K mg base jx 1 f fd ["web","cut","some"] (rJ K):=by
 refine F.ok lA (fun vs H Q E h=> ?_) (fun cdv A outer s H vs Q E hr h=> ?_)
 ·obtain ⟨a,s,ws,c,ns,rfl,_⟩:=h
  rfl
 ·obtain ⟨a,sa,ws,c,ns,rfl,W,wl,cl,N,nl,hh,k⟩:=h
  refine ⟨_,(aB (aO (i:=3) lA.nd rfl (Or.inr rfl) (Iz rfl (xc:= "hand") (N:=["hand","web","cut"]) (own:=["hand"]) (caps:=[0,1]) (bF.of (by kernel_rfl)) (gA (by rfl) Bt.ju (aj aA aq)) (fun _ _ _ _=>(aV (i:=0) (show List.Nodup (["hand","web","cut"]:List Str) by decide +kernel) rfl (Or.inr rfl) (Or.inl BR))) (fun _ _ _ _=>iK) (fun _ _ _ _=>(bw (bJ (K:=K) rfl) (by rfl) Bt.lG jf (aj (fJ rfl (N:=["there","hand"]) (own:=["there"]) (caps:=[0]) (aR.of (by kernel_rfl)) (bU (K:=K) rfl (b_ (gO (K:=K) rfl) (pv 1) cW (cH (pv 2)))) (fun _ _ _ _=>(aV (i:=0) (show List.Nodup (["there","hand"]:List Str) by decide +kernel) rfl (Or.inl rfl))) (fun _ _ _ _=>(ji (bZ j8 (aK (aM (K:=K) rfl) (pv 0) aA (fun _ _=>rfl)) (pv 1) (bC _)))) (fun _ _ _ _=>aA)) aq)))))
   (aH (aZ (fJ rfl (N:=["note","many"]) (own:=["note"]) (caps:=[3]) (aR.of (by kernel_rfl)) (bU (K:=K) rfl (pv 2)) (fun _ _ _ _=>(aV (i:=0) (show List.Nodup (["note","many"]:List Str) by decide +kernel) rfl (Or.inl rfl))) (fun _ _ _ _=>(ji (bZ IW (aK (aM (K:=K) rfl) (pv 0) aA (fun _ _=>rfl)) (aK (aP (K:=K) rfl) (pv 1) (aK (aM (K:=K) rfl) (pv 0) aA (fun _ _=>rfl)) (fun _ _=>rfl)) (bC _)))) (fun _ _ _ _=>(pv 0)))))), ?_⟩
  refine ⟨_,rfl,by decide,by decide,fun D hD=> ?_⟩;refine vq (n:=8) (fun i=>some (.int (cnt (ws.take c) (i:Int)))) hD (by decide) (fun i H2 G F hi s2 kG kF=> ?_) (fun H2 s2 e2=> ?_)
  ·refine fG (B:=G H2) ?_
   obtain ⟨wv,hw,dw⟩:=id (W.same s2);have T7:wv.length=ws.length:=by rw [dw.length,List.length_map]
   refine ⟨_,rfl,_,rfl,_,rfl,_,_,rfl,bh.of hw,fun p hp=> ?_⟩;rw [jK];have s3:=aC (o:=HO.lst (wv.take c)) hp;have tl:(wv.take c).length=c:=by rw [List.length_take];omega
   refine ⟨p,rfl,⟨_,bh.of ak⟩,fun D2 hD2=> ?_⟩;refine oA (K:=K) (fun j=>if hnd ws j=(i:Int) then some (V.int 1) else none) hD2 (bh.of ak) (by omega) (fun j v H4 G2 F2 hj s4 kG2 kF2=> ?_) (fun H4 s4 e4=> ?_)
   ·have jl:j<c:=by have:=(List.getElem?_eq_some_iff.mp hj).1;omega
    rw [List.getElem?_take_of_lt jl] at hj;obtain ⟨z,ez⟩:∃z,ws[j]? = some z:=⟨ws[j]'(by omega),by simp [show j<ws.length by omega]⟩;obtain ⟨wv',t',hw',et',ht'⟩:=gD (W.same s2) ez;have:wv'=wv:=by rw [hw] at hw';injection hw' with q;injection q with q;exact q.symm
    subst this;rw [hj] at et';cases et';rw [bO ez] at kG2 kF2;refine ⟨_,rfl,_,_,_,_,rfl,rfl,cJ.of ((s3.trans s4) _ _ ht'),rfl,_,rfl,rfl,_,rfl, ?_⟩
    by_cases e:z.1=(i:Int)
    ·rw [if_pos e] at kF2
     rw [decide_eq_true (show V.int z.1=V.int (0+(i:Int)) by rw [e,Int.zero_add])];refine fG ?_;exact kF2 _ _ (Same.refl _) rfl
    ·rw [if_neg e] at kG2
     rw [decide_eq_false (show ¬V.int z.1=V.int (0+(i:Int)) from fun q=>e (by injection q with q;omega))];refine fL ?_;exact kG2 _ (Same.refl _) rfl
   ·have cl:(((List.range (wv.take c).length).filterMap fun j=>if hnd ws j=(i:Int) then some (V.int 1) else none).length:Int)=cnt (ws.take c) (i:Int):=by
     rw [tl]
     have:∀n,n<=ws.length->(((List.range n).filterMap fun j=>if hnd ws j=(i:Int) then some (V.int 1) else none).length:Int)=cnt (ws.take n) (i:Int):=by
      intro n
      induction n with
      | zero=>intro _;rfl
      | succ n ih=>
        intro hn;rw [dg,List.length_append,Int.natCast_add,ih (by omega),rm (by omega)]
        by_cases e:hnd ws n=(i:Int)
        ·rw [if_pos e,if_pos e.symm]
         rfl
        ·rw [if_neg e,if_neg (Ne.symm e)]
         simp
     exact this c cl
    refine ⟨D2,_,rfl,.inl (bh.of e4), ?_⟩;rw [cl];exact kF _ _ (s3.trans s4) rfl
  ·have s0:=s2
   obtain ⟨us,hus,Kf⟩:=id (N.same s2);have Ey:us.length=ns.length:=by rw [Kf.length,List.length_map]
   refine ⟨_,rfl,sa,rfl,⟨_,bh.of hus⟩,fun D2 hD2=> ?_⟩;refine gC (K:=K) (xs:=us) (fun i=>(ns[i]?).bind fun o=>if pc ws c o=true then some (nD o) else none) (Dr ns (pc ws c)) hD2 (bh.of hus) (by omega) (fun i v H3 G F hi s3 kG kF=> ?_) (fun H3 vs s3 e3 d3=> ?_)
   ·obtain ⟨x,t,ex,rfl,ht⟩:=jm Kf hi
    rw [ex] at kG kF;simp only [Option.bind_some] at kG kF;obtain ⟨h0,h8⟩:=hh x (List.mem_of_getElem? ex)
    have em:GD ((List.range 8).filterMap fun i=>some (V.int (cnt (ws.take c) ((i:Nat):Int)))) x.2.2.1=some (V.int (cnt (ws.take c) x.2.2.1)):=by
     obtain ⟨n,hn⟩:∃n:Nat,x.2.2.1=(n:Int):=⟨x.2.2.1.toNat,by omega⟩;rw [hn];refine dO ?_;rw [List.filterMap_eq_map',List.getElem?_map,List.getElem?_range (by omega)];rfl
    refine ⟨_,rfl,_,_,_,_,rfl,rfl,cJ.of (s3 _ _ ht),rfl,_,rfl,_,rfl,_,_,_,_,rfl,rfl,cJ.of (s3 _ _ ht),rfl,_,_,_,_,rfl,rfl,bh.of (s3 _ _ e2),em,_,_,rfl,rfl,_,rfl, ?_⟩;show if decide (x.2.2.2<cnt (ws.take c) x.2.2.1)=true then _ else _;cases q:pc ws c x with
    | true=>
      rw [q] at kF;have q:decide (x.2.2.2<cnt (ws.take c) x.2.2.1)=true:=q;rw [q];refine fG ?_;exact ⟨_,rfl,kF _ _ _ (Same.refl _) rfl (jd (s3 _ _ ht))⟩
    | false=>
      rw [q] at kG;have q:decide (x.2.2.2<cnt (ws.take c) x.2.2.1)=false:=q;rw [q];refine fL ?_;exact kG _ (Same.refl _) rfl
   ·rw [Ey,Ka] at d3
    exact k D2 H3 ⟨vs,e3,d3⟩ (s2.trans s3)
theorem LT.kpL {p r:Addr} {H H':Hp} {ys:List V} (h:LT p H) (hr:H r=some (.lst ys)) (k:Kp r H H'):LT p H':=by
 have nr:=h.ne hr (by intro ps z;cases z);rcases h with e|⟨c,e,f⟩
 ·exact .inl (k _ _ e nr.symm)
 ·exact .inr ⟨c,k _ _ e nr.symm,k _ _ f (dB f hr (by intro z;cases z))⟩
theorem LT.vX {p r:Addr} {H H':Hp} (h:LT p H) (S:bA H r) (k:Kp r H H'):LT p H':=by
 obtain ⟨f1,f2,f3,e1,_⟩:=S;exact h.kpL e1 k
theorem cg.vX {H H':Hp} {a r:Addr} {ns:List Nt} (h:cg H a ns) (S:bA H r) (k:Kp r H H') (n:a≠r):cg H' a ns:=by
 obtain ⟨f1,f2,f3,e1,_⟩:=S;exact h.kp (k.tups e1) k n
theorem bA.uI {p r:Addr} {H H':Hp} (S:bA H r) (k:Kp p H H') (l:LT p H):bA H' r:=by
 obtain ⟨f1,f2,f3,e1,q⟩:=S;exact ⟨f1,f2,f3,k _ _ e1 (l.ne e1 (by intro ps z;cases z)),q⟩
theorem RQ {t:TS} {D:Ends} {σ:St} {H:Hp} {b:Bool} (Rp:St->Hp->Prop) (rest:∀σ' H',Rp σ' H'->D.nx σ' H') (hf:b=false->Rp σ H) (ht:b=true->(∀σ' H',Rp σ' H'->D.nx σ' H')->t D σ H):(fun b H1=>if b=true then t D σ H1 else Hv D σ H1) b H:=by
 cases b with
 | true=>exact ht rfl rest
 | false=>exact rest σ H (hf rfl)
structure K_ (H0:Hp) (p r w l to fa:Addr) (ws:List aW) (jB fns:List Nt) (H:Hp):Prop where
 web:bY H w ws
 hd:bY H l ws
 told:cg H to jB
 few:cg H fa fns
 lt:LT p H
 sp:bA H r
 ne:w≠r/\l≠r/\to≠r/\fa≠r
 r0:H0 r=none
 kp:Kp p H0 H
section
variable {H0:Hp} {p r w l to fa:Addr} {ws:List aW} {jB fns:List Nt} {H H':Hp}
theorem K_.same (h:K_ H0 p r w l to fa ws jB fns H) (s:Same H H'):K_ H0 p r w l to fa ws jB fns H':=⟨h.web.same s,h.hd.same s,h.told.same s,h.few.same s,h.lt.same s,h.sp.keep s,h.ne,h.r0,fun b u e n=>s _ _ (h.kp b u e n)⟩
theorem K_.uI (h:K_ H0 p r w l to fa ws jB fns H) (k:Kp p H H') (t:LT p H'):K_ H0 p r w l to fa ws jB fns H':=⟨h.web.uI k h.lt,h.hd.uI k h.lt,h.told.uI k h.lt,h.few.uI k h.lt,t,h.sp.uI k h.lt,h.ne,h.r0,fun b u e n=>k _ _ (h.kp b u e n) n⟩
theorem K_.vX (h:K_ H0 p r w l to fa ws jB fns H) (k:Kp r H H') (S:bA H' r):K_ H0 p r w l to fa ws jB fns H':=⟨h.web.vX h.sp k h.ne.1,h.hd.vX h.sp k h.ne.2.1,h.told.vX h.sp k h.ne.2.2.1,h.few.vX h.sp k h.ne.2.2.2,h.lt.vX h.sp k,S,h.ne,h.r0,fun b u e n=>k _ _ (h.kp b u e n) (au e h.r0)⟩
end
theorem Qt {p a:Addr} {xs:List V} {H H':Hp} (h:bh K H a xs) (hp:H p=some (.kE #[])) (k:Kp p H H'):bh K H' a xs:=by
 rcases h with (h|⟨o,h⟩)|h
 ·exact .inl (.inl (k _ _ h (dB h hp (by intro z;cases z))))
 ·exact .inl (.inr ⟨o,k _ _ h (dB h hp (by intro z;cases z))⟩)
 ·exact .inr h
theorem xU {H:Hp} {vs:List V} {ws:List aW} (c:Nat) (d:aD H vs (ws.map tD)):aD H (vs.take c) ((ws.take c).map tD):=by
 rw [List.map_take];exact d.take c
theorem Ay {l:List Nt} {i:Nat} {x:Nt} (nd:l.Nodup) (e:l[i]? = some x):x∉l.take i++l.drop (i+1):=by
 have il:=(List.getElem?_eq_some_iff.mp e).1
 have ex:l=l.take i++x::l.drop (i+1):=by
  have h1:=(List.take_append_drop i l).symm;rw [List.drop_eq_getElem_cons il] at h1;have h2:l[i]=x:=(List.getElem?_eq_some_iff.mp e).2;rw [h2] at h1;exact h1
 rw [ex,List.nodup_append] at nd;obtain ⟨_,n2,n3⟩:=nd;intro hx;rcases List.mem_append.mp hx with q|q
 ·exact n3 x q x (.head _) rfl
 ·exact (List.nodup_cons.mp n2).1 q
theorem HS {t u:TS} {D:Ends} {σ:St} {H:Hp} (Rp:Hp->Prop) (rest:∀H',Rp H'->u D σ H') (ht:(∀H',Rp H'->u D σ H')->t {D with nx:=u D} σ H):vP t u D σ H:=ht rest
theorem M7 {xs:List V} {lo hi:Option Int} {v:V} (h:v∈fD xs lo hi):v∈xs:=by
 unfold fD at h;exact List.mem_of_mem_drop (List.mem_of_mem_take h)
theorem Wg (M:List Nt) (p:Nt->Bool) (q:Nt->Bool):(List.range M.length).filterMap (fun i=>(M[i]?).bind fun o=>if p o=true then some (V.bl (q o)) else none)=((M.filter p).map q).map V.bl:=by
 induction M with
 | nil=>rfl
 | cons x l ih=>
   rw [List.length_cons,List.range_succ_eq_map,List.filterMap_cons,List.filterMap_map,List.filter_cons];have e:List.filterMap ((fun i=>((x::l)[i]?).bind fun o=>if p o=true then some (V.bl (q o)) else none)∘Nat.succ) (List.range l.length)=((l.filter p).map q).map V.bl:=by rw [←ih];rfl
   rw [e];cases h:p x with
   | true=>simp [h]
   | false=>simp [h]
def CQ (p:Addr) (K:PySem.W.Frag):Sp:=fun vs H Q _=>∃(a:Addr) (ns:List Int),vs=[.ref a]/\bh K H a (ns.map V.int)/\ns.length<=63/\H p=some (.kE #[]) /\ ∀H',Q (.bl true) H'
theorem Rb {p:Addr} {f:Addr} {fd:FuncData} (F:kJ K "law" "law" lB f fd) (GX:FnAt P w K mg base 1 "_law_spring" ["script"] (rF K)) (cQ:FnAt P w K mg base 1 "_law_draw" ["spring","many"] (lq K)) (Tq:FnAt P w K mg base 2 "_law_web" ["spring","most"] (HD K)) (GZ:FnAt P w K mg base 2 "_law_of_two" ["spring","web"] (HF K)) (lN:FnAt P w K mg base 4 "strict_notes" ["web"] (oR p K)) (mR:FnAt P w K mg base 4 "wants_apart" ["web"] (vZ p K)) (Ov:FnAt P w K mg base 4 "notes" ["web"] (vY K)) (zW:FnAt P w K mg base 5 "enough" ["web","some"] (Qz K)) (xg:FnAt P w K mg base 5 "meets_want" ["web","note","want"] (HJ K)) (mU:FnAt P w K mg base 1 "_law_first_ones" ["web","cut","some"] (rJ K)) (Et:FnAt P w K mg base 1 "_law_many" ["some","hand"] (Ah K)) (Bt:uM mg):cX P w K mg base jx 6 f fd ["script"] (CQ p K):=by
 refine F.ok gn (fun vs H Q E h=> ?_) (fun cdv A outer s H vs Q E hr h=> ?_)
 ·obtain ⟨a,ns,rfl,_⟩:=h
  rfl
 ·obtain ⟨a,ns,rfl,hS,hlen,hp0,k⟩:=h
  have Bv:=hr.units;have hu:=jr hr
  refine ⟨_,(aB (aO (i:=1) gn.nd rfl (Or.inl rfl) (aU GX (hr.mono (by decide)) (by rfl) (aj (pv 0) aq)))
   (aB (aO (i:=2) gn.nd rfl (Or.inl rfl) (aU cQ (hr.mono (by decide)) (by rfl) (aj (pv 1) (aj aA aq))))
   (aB (aO (i:=3) gn.nd rfl (Or.inl rfl) (aU Tq (hr.mono (by decide)) (by rfl) (aj (pv 1) (aj aA aq))))
   (aB (fU (bZ j8 (pv 2) aA (bC _)) (aH (aO (i:=3) gn.nd rfl (Or.inl rfl) (aU GZ (hr.mono (by decide)) (by rfl) (aj (pv 1) (aj (pv 3) aq))))) cG)
   (aB (aO (i:=4) gn.nd rfl (Or.inr rfl) (lW (mQ (K:=K) rfl) (by rfl) Bt.K5 Em (aj (pv 3) aq)))
   (aB (aO (i:=5) gn.nd rfl (Or.inr rfl) (aU lN (hr.mono (by decide)) (by rfl) (aj (pv 4) aq)))
   (aB (aO (i:=6) gn.nd rfl (Or.inr rfl) (aU Ov (hr.mono (by decide)) (by rfl) (aj (pv 4) aq)))
   (aB (aO (i:=7) gn.nd rfl (Or.inl rfl) (aU cQ (hr.mono (by decide)) (by rfl) (aj (pv 1) (aj (bx dj (bw (bJ (K:=K) rfl) (by rfl) Bt.lG jf (aj (pv 3) aq)) aA) aq))))
   (aB (fU (PW.pt (yw (bZ Dk (aU zW (hr.mono (by decide)) (by rfl) (aj (pv 4) (aj (lW (mQ (K:=K) rfl) (by rfl) Bt.K5 Em (aj (pv 5) aq)) aq))) jk (bC _)) (wk (bZ (wC (K:=K) rfl Bv) (pv 4) (pv 3) (bC _))))) (aH (aZ jk)) cG)
   (aB (fU (bZ (wC (K:=K) rfl Bv) (aU lN (hr.mono (by decide)) (by rfl) (aj (b_ (gO (K:=K) rfl) (pv 3) cW (cH (pv 7))) aq)) (aU mU (hr.mono (by decide)) (by rfl) (aj (pv 3) (aj (pv 7) (aj (pv 5) aq)))) (bC _)) (aH (aZ jk)) cG)
   (aB (fU (bZ (wC (K:=K) rfl Bv) (aU mR (hr.mono (by decide)) (by rfl) (aj (b_ (gO (K:=K) rfl) (pv 3) cW (cH (pv 7))) aq)) (aU mU (hr.mono (by decide)) (by rfl) (aj (pv 3) (aj (pv 7) (aj (aU mR (hr.mono (by decide)) (by rfl) (aj (pv 4) aq)) aq)))) (bC _)) (aH (aZ jk)) cG)
   (aB (aO (i:=8) gn.nd rfl (Or.inl rfl) (aU cQ (hr.mono (by decide)) (by rfl) (aj (pv 1) (aj (bw (vB rfl) (by rfl) Bt.Pz Kz (aj aA (aj (bw (bJ (K:=K) rfl) (by rfl) Bt.lG jf (aj (pv 6) aq)) aq))) aq))))
   (aB (d8 PassesOwn.never rfl (bU (K:=K) rfl (b_ (gO (K:=K) rfl) (pv 6) (cH (pv 8)) (cH (bx dj (pv 8) aA)))) (aV (i:=9) gn.nd rfl (Or.inr rfl))
   (aH (fU (lC (gZ (bw (j_ (K:=K) rfl rfl) (by rfl) Bt.PB KC (aj (fJ rfl (N:=["one","handed","note"]) (own:=["one"]) (caps:=[4,9]) (aR.of (by kernel_rfl)) (bU (K:=K) rfl (pv 5)) (fun _ _ _ _=>(aV (i:=0) (show List.Nodup (["one","handed","note"]:List Str) by decide +kernel) rfl (Or.inl rfl))) (fun _ _ _ _=>(ji (PW.pt (wu (bZ j8 (aK (aM (K:=K) rfl) (pv 0) aA (fun _ _=>rfl)) (aK (aM (K:=K) rfl) (pv 2) aA (fun _ _=>rfl)) (bC _)) (qO (bZ j8 (aK (aM (K:=K) rfl) (pv 0) aA (fun _ _=>rfl)) (aK (aM (K:=K) rfl) (pv 2) aA (fun _ _=>rfl)) (bC _))))))) (fun _ _ _ _=>(aU xg (hr.mono (by decide)) (by rfl) (aj (pv 1) (aj (pv 0) (aj (pv 2) aq)))))) aq)))) (aH (aZ jk)) cG)))
   (aB (fU (PW.pt (wu (bZ j8 (pv 2) aA (bC _)) (qO (gZ (bw (j_ (K:=K) rfl rfl) (by rfl) Bt.PB KC (aj (fJ rfl (N:=["hand","told","fewest"]) (own:=["hand"]) (caps:=[5,6]) (aR.of (by kernel_rfl)) (gA (by rfl) Bt.ju (aj aA aq)) (fun _ _ _ _=>(aV (i:=0) (show List.Nodup (["hand","told","fewest"]:List Str) by decide +kernel) rfl (Or.inl rfl))) (fun _ _ _ _=>iK) (fun _ _ _ _=>(eX I_ (aU Et (hr.mono (by decide)) (by rfl) (aj (pv 1) (aj (pv 0) aq))) (aU Et (hr.mono (by decide)) (by rfl) (aj (pv 2) (aj (pv 0) aq))) (bC _)))) aq)))))) (aH (aZ jk)) cG)
   (aB (d8 PassesOwn.never rfl (gA (by rfl) Bt.ju (aj (bx o_ (bx o_ (bx dj aA (bw (vA rfl) (by rfl) Bt.K4 B_ (aj (bw (bJ (K:=K) rfl) (by rfl) Bt.lG jf (aj (pv 0) aq)) (aj aA aq)))) (pv 2)) (bw (vA rfl) (by rfl) Bt.K4 B_ (aj aA (aj (bw (bJ (K:=K) rfl) (by rfl) Bt.lG jf (aj (pv 5) aq)) aq)))) aq)) (aV (i:=10) gn.nd rfl (Or.inl rfl))
   (aB (aO (i:=8) gn.nd rfl (Or.inl rfl) (aU cQ (hr.mono (by decide)) (by rfl) (aj (pv 1) (aj (bw (bJ (K:=K) rfl) (by rfl) Bt.lG jf (aj (pv 5) aq)) aq))))
   (aH (fU (bZ Dk (aU zW (hr.mono (by decide)) (by rfl) (aj (pv 4) (aj (bx Q7 (b_ (gO (K:=K) rfl) (pv 5) cW (cH (pv 8))) (b_ (gO (K:=K) rfl) (pv 5) (cH (bx dj (pv 8) aA)) cW)) aq))) jk (bC _)) (aH (aZ jk)) cG))))
   (aH (aZ (eX (Dn (K:=K) rfl Bv) (pv 4) (pv 3) (bC _))))))))))))))))))), ?_⟩
  refine ⟨_,rfl,a,ns,rfl,hS,hlen,fun r H1 hr1 S1 LQ=> ?_⟩;refine ⟨_,rfl,r,2,rfl,S1,by decide,by decide,fun tn H2 tn0 tn1 S2 k2=> ?_⟩;refine ⟨_,rfl,r,100,rfl,S2,by decide,by decide,fun w ws H3 hw W ok len S3 k3=> ?_⟩;have lt3:LT p H3:=((LT.same (.inl hp0) LQ).vX S1 k2).vX S2 k3;have DG:Kp p H H3:=fun b u e n=>k3 _ _ (k2 _ _ (LQ _ _ e) (au e hr1)) (au e hr1)
  have XH:w≠r:=by
   obtain ⟨f1,f2,f3,e1,_⟩:=S2;exact (au e1 hw).symm
  refine ⟨_,rfl,rfl,_,rfl, ?_⟩;refine RQ (fun σ' H'=>∃(w:Addr) (ws:List aW),σ'=[some (.ref a),some (.ref r),some (.int tn),some (.ref w),none,none,none,none,none,none,none]/\bY H' w ws/\(∀x∈ws,lK x)/\ws.length<=300/\bA H' r/\LT p H'/\w≠r/\Kp p H H'/\(tn=1 -> ∃a b,Two ws a b)) (fun σ' H4 ⟨w,ws,e,W4,Li,sU,S4,lt4,aa',uz,two⟩=> ?_) (fun hb=> ?_) (fun hb rest=> ?_)
  ·subst e
   have qT:∀x∈ws,0<=x.1/\x.1<8:=fun x hx=>(Li x hx).1;have few:=pH sU;obtain ⟨wv,VP,Wi⟩:=id W4;refine ⟨_,rfl,w,_,rfl,.inl (bh.of VP),fun l hl=> ?_⟩;have s5:=aC (o:=HO.lst wv) hl;have L5:bY (upd H4 l (HO.lst wv)) l ws:=⟨wv,ak,aD.keep s5.tups _ (aQ _ lD ws) Wi⟩;have W5:=W4.same s5;have S5:=S4.keep s5;have Rt:=lt4.same s5
   have nlr:l≠r:=by
    obtain ⟨f1,f2,f3,e1,_⟩:=S4;exact (au e1 hl).symm
   have kp5:Kp p H (upd H4 l (HO.lst wv)):=fun b u e n=>s5 _ _ (uz b u e n);generalize upd H4 l (HO.lst wv)=H5 at L5 W5 S5 Rt kp5 ⊢;refine ⟨_,rfl,l,ws,rfl,L5,Li,sU,Rt,fun to jB H6 hto T6 tp ts Lj lt6=> ?_⟩
   have ntr:to≠r:=by
    obtain ⟨f1,f2,f3,e1,_⟩:=S5;exact (au e1 hto).symm
   refine ⟨_,rfl,l,ws,rfl,L5.uI Lj Rt,sU,qT,fun fa fns H7 hfa F7 fp fs s7=> ?_⟩;have S6:=S5.uI Lj Rt
   have nfr:fa≠r:=by
    obtain ⟨f1,f2,f3,e1,_⟩:=S6;exact (au e1 hfa).symm
   have I7:K_ H p r w l to fa ws jB fns H7:=⟨(W5.uI Lj Rt).same s7,(L5.uI Lj Rt).same s7,T6.same s7,F7,lt6.same s7,S6.keep s7,⟨aa',nlr,ntr,nfr⟩,hr1,fun b u e n=>s7 _ _ (Lj _ _ (kp5 b u e n) n)⟩;clear L5 W5 S5 Rt kp5 T6 F7 S6 lt6 Lj s7 hfa hto W4 S4 lt4 uz VP Wi hl s5;obtain ⟨wv,VP,Wi⟩:=id I7.web;have T7:wv.length=ws.length:=by rw [Wi.length,List.length_map]
   refine ⟨_,rfl,_,rfl,w,_,rfl,.inl (bh.of VP),_,_,rfl,rfl,r,_,rfl,I7.sp,by omega,by omega,fun cI H8 c0 c1 S8 k8=> ?_⟩;have I8:=I7.vX k8 S8;obtain ⟨c,rfl⟩:∃c:Nat,cI=(c:Int):=⟨cI.toNat,by omega⟩;have cl:c<=ws.length:=by omega
   clear I7 VP Wi k8 S8;have tnl:jB.length<=20000:=by rw [tp.length_eq,List.length_map];exact few
   have Ls:∀x∈jB,∃y∈bI ws,x=nF ws y:=fun x hx=>by
    obtain ⟨y,hy,rfl⟩:=List.mem_map.mp (tp.mem_iff.mp hx);exact ⟨y,hy,rfl⟩
   have Ud:∀y∈bI ws,nF ws y∈jB:=fun y hy=>tp.mem_iff.mpr (List.mem_map.mpr ⟨y,hy,rfl⟩)
   have Qg:∀x∈jB,zT ws x:=fun x hx=>by
    obtain ⟨y,hy,rfl⟩:=Ls x hx;exact ⟨_,_,(iM ((bM qT).mp hy)).1⟩
   have Uc:∀x∈jB,0<=x.2.2.1/\x.2.2.1<8:=fun x hx=>by
    obtain ⟨y,hy,rfl⟩:=Ls x hx;obtain ⟨_,_,e,_⟩:=iM ((bM qT).mp hy);have jl:=(cP ((bM qT).mp hy)).1.1;have eb:ws[y.2.2]? = some ws[y.2.2]:=by simp [jl]
    show 0<=hnd ws y.2.2/\hnd ws y.2.2<8;rw [bO eb];exact qT _ (List.getElem_mem jl)
   obtain ⟨nv,G6,G7⟩:=id I8.told;have TQ:nv.length=jB.length:=by rw [G7.length,List.length_map]
   refine ⟨_,rfl,_,rfl,to,_,rfl,.inl (bh.of G6),fun c1' hc1=> ?_⟩;have s9:=aC (o:=HO.lst nv) hc1;refine ⟨l,c1',ws,jB,rfl,I8.hd.same s9,sU,qT,⟨nv,ak,aD.keep s9.tups _ (aQ _ h_ _) G7⟩,by omega,Qg,fun bb H10 hb s10=> ?_⟩;have eb:bb=true:=hb.mpr (Fe Ud qT);subst eb;refine ⟨_,_,rfl,rfl,_,rfl, ?_⟩;refine (show if false=true then _ else _ from fL ?_);have Y6:=I8.same (s9.trans s10);clear hb s10 s9 hc1 I8 G6 G7 TQ;obtain ⟨v1,e1,d1⟩:=id Y6.hd;obtain ⟨v2,e2,d2⟩:=id Y6.web;have v2l:v2.length=ws.length:=by rw [d2.length,List.length_map]
   refine ⟨_,rfl,_,rfl,_,_,gR e1 d1,gR e2 d2,jP Li,jP Li,_,rfl, ?_⟩;rw [if_pos rfl,n_ tD Kc];refine u6 rfl ?_;have okT:∀x∈ws.take c,lK x:=fun x hx=>Li x (List.mem_of_mem_take hx);have Vs:(ws.take c).length<=300:=by rw [List.length_take];omega
   have lT:(ws.take c).length=c:=by rw [List.length_take];omega
   refine ⟨_,rfl,_,rfl,_,rfl,_,_,rfl,bh.of e2,fun p1 hp1=> ?_⟩;rw [jK];have XC:=aC (o:=HO.lst (v2.take c)) hp1;have Y5:=Y6.same XC;have WT:bY (upd H10 p1 (HO.lst (v2.take c))) p1 (ws.take c):=⟨_,ak,aD.keep XC.tups _ (aQ _ lD _) (xU c d2)⟩;generalize upd H10 p1 (HO.lst (v2.take c))=H11 at Y5 WT XC ⊢;refine ⟨p1,ws.take c,rfl,WT,okT,Vs,Y5.lt,fun r1 ms H12 acE M12 mp mss Vx Vn=> ?_⟩;have Y4:=Y5.uI Vx Vn;refine ⟨_,rfl,_,rfl,_,rfl,w,to,ws,c,jB,rfl,Y4.web,sU,cl,Y4.told,by omega,Uc,fun r2 H13 N13 zY=> ?_⟩
   have ems:ms=jB.filter (pc ws c):=by
    refine uV ?_ mss (List.Pairwise.filter _ ts);refine mp.trans ?_;rw [zj qT cl];exact (tp.filter _).symm
   subst ems;have I13:=Y4.same zY;obtain ⟨u1,g1,t1⟩:=id (M12.same zY);obtain ⟨u2,g2,t2⟩:=id N13;refine ⟨_,_,gR g1 t1,gR g2 t2,jQ _,jQ _,_,rfl, ?_⟩;rw [if_pos rfl,n_ nD Kd];refine u6 rfl ?_;clear M12 N13 g1 g2 t1 t2 Y4 Y5 WT XC hp1 acE mp mss Vx Vn zY e1 e2 d1 d2 Y6;obtain ⟨v3,e3,d3⟩:=id I13.web;refine ⟨_,rfl,_,rfl,_,rfl,_,_,rfl,bh.of e3,fun p1 hp1=> ?_⟩;rw [jK];have O1:=aC (o:=HO.lst (v3.take c)) hp1;have Y0:=I13.same O1;have WT:bY (upd H13 p1 (HO.lst (v3.take c))) p1 (ws.take c):=⟨_,ak,aD.keep O1.tups _ (aQ _ lD _) (xU c d3)⟩;generalize upd H13 p1 (HO.lst (v3.take c))=H14 at Y0 WT O1 ⊢;refine ⟨p1,ws.take c,rfl,WT,okT,Vs,Y0.lt,fun r1 H15 acD M15 Vw Vm=> ?_⟩;have Xn:=Y0.uI Vw Vm;refine ⟨_,rfl,_,rfl,_,rfl,l,ws,rfl,Xn.hd,Li,sU,Xn.lt,fun wa H16 hwa A16 Ry Vl=> ?_⟩;have I16:=Xn.uI Ry Vl;have M16:=M15.uI Ry Xn.lt;refine ⟨w,wa,ws,c,_,rfl,I16.web,sU,cl,A16,by rw [List.length_map];omega,fun x hx=> ?_,fun r2 H17 N17 ZV=> ?_⟩
   ·obtain ⟨y,hy,rfl⟩:=List.mem_map.mp hx
    have jl:=(cP ((bM qT).mp hy)).1.1;have eb:ws[y.2.2]? = some ws[y.2.2]:=by simp [jl]
    show 0<=hnd ws y.2.2/\hnd ws y.2.2<8;rw [bO eb];exact qT _ (List.getElem_mem jl)
   have YZ:=I16.same ZV;obtain ⟨u1,g1,t1⟩:=id (M16.same ZV);obtain ⟨u2,g2,t2⟩:=id N17;rw [zf qT cl] at t1;refine ⟨_,_,gR g1 t1,gR g2 t2,jQ _,jQ _,_,rfl, ?_⟩;rw [if_pos rfl,n_ nD Kd];refine u6 rfl ?_;clear M15 M16 N17 g1 g2 t1 t2 I16 Xn Y0 WT O1 hp1 acD Vw Vm ZV Ry Vl A16 hwa e3 d3 I13;obtain ⟨fv,V8,Wm⟩:=id YZ.few;have fvl:fv.length=fns.length:=by rw [Wm.length,List.length_map]
   have fnl:fns.length<=90000:=by
    rw [fp.length_eq];have:=um ws ws.length;have nn:ws.length*ws.length<=300*300:=Nat.mul_le_mul sU sU;omega
   refine ⟨_,rfl,_,rfl,fa,_,rfl,.inl (bh.of V8),_,_,rfl,r,_,rfl,YZ.sp, ?_, ?_,fun aI H18 a0 a1 S18 RM=> ?_⟩
   ·split<;>omega
   ·split<;>omega
   have I18:=YZ.vX RM S18;obtain ⟨at0,rfl⟩:∃n:Nat,aI=(n:Int):=⟨aI.toNat,by omega⟩;clear YZ V8 Wm RM S18 a1;obtain ⟨fv,V8,Wm⟩:=id I18.few;refine ⟨_,rfl,_,rfl,_,rfl,_,rfl,_,_,rfl,rfl,_,rfl,_,_,rfl,bh.of V8,fun p2 hp2=> ?_⟩;have Xy:=aC (o:=HO.lst (fD fv (some (at0:Int)) (some ((at0:Int)+20)))) hp2;have YX:=I18.same Xy;have Nq:(upd H18 p2 (HO.lst (fD fv (some (at0:Int)) (some ((at0:Int)+20))))) p2=some (.lst (fD fv (some (at0:Int)) (some ((at0:Int)+20)))):=ak
   have Jt:∀v∈fD fv (some (at0:Int)) (some ((at0:Int)+20)),∃t x,v = .ref t/\x∈fns/\(upd H18 p2 (HO.lst (fD fv (some (at0:Int)) (some ((at0:Int)+20))))) t=some (.tup (nV x)):=fun v hv=>by
    obtain ⟨t,x,rfl,hx,ht⟩:=wD Wm (M7 hv);exact ⟨t,x,rfl,hx,Xy _ _ ht⟩
   refine ⟨p2,rfl,⟨_,bh.of Nq⟩, ?_⟩;generalize upd H18 p2 (HO.lst (fD fv (some (at0:Int)) (some ((at0:Int)+20))))=H19 at Xy YX Nq Jt ⊢
   refine jH (K:=K) (a:=p2) (xs:=fD fv (some (at0:Int)) (some ((at0:Int)+20))) (fun i σ Xo=>∃(x9:Option V),σ=[some (.ref a),some (.ref r),some (.int tn),some (.ref w),some (.ref l),some (.ref to),some (.ref fa),some (.int (c:Int)),some (.int (at0:Int)),x9,none]/\Same H19 Xo)
    ⟨none,rfl,Same.refl _⟩ (fun i σ Xo _ ⟨_,_,sm⟩=>bh.of (sm _ _ Nq)) ?_ ?_
   ·rintro i v σ Xo hi ⟨x9,rfl,sm⟩
    obtain ⟨tx,x,rfl,hx,htx⟩:=Jt v (List.mem_of_getElem? hi);have T4:=YX.same sm;have JR:=sm _ _ htx;obtain ⟨T9,y,hy,y1,y2,ym⟩:=Jk qT (fp.mem_iff.mp hx);obtain ⟨tv,htv,YM⟩:=id T4.told;have tvl:tv.length=jB.length:=by rw [YM.length,List.length_map]
    refine ⟨_,rfl,to,rfl,⟨_,bh.of htv⟩,fun D hD=> ?_⟩;refine oA (K:=K) (fun i=>(jB[i]?).bind fun o=>if (decide (o.1=x.1)&&decide (o.2.2.1=x.2.2.1))=true then some (V.bl (mB o x)) else none) hD (bh.of htv) (by omega) (fun j v H21 G F hj L_ kG kF=> ?_) (fun H21 L_ e21=> ?_)
    ·obtain ⟨o,t,eo,rfl,ht⟩:=jm YM hj
     rw [eo] at kG kF;simp only [Option.bind_some] at kG kF;have RX:=L_ _ _ ht;refine ⟨_,rfl,_,_,_,_,rfl,rfl,cJ.of RX,rfl,_,rfl,_,_,_,_,rfl,rfl,cJ.of (L_ _ _ JR),rfl,rfl,_,rfl, ?_⟩
     by_cases q1:o.1=x.1
     rotate_left
     ·rw [decide_eq_false (show ¬V.int o.1=V.int x.1 from fun z=>q1 (by injection z))]
      refine fL ?_;exact kG _ (Same.refl _) (by rw [decide_eq_false q1];rfl)
     rw [decide_eq_true (show V.int o.1=V.int x.1 by rw [q1])];refine fG ?_;refine ⟨_,rfl,_,_,_,_,rfl,rfl,cJ.of RX,rfl,_,rfl,_,_,_,_,rfl,rfl,cJ.of (L_ _ _ JR),rfl,rfl,_,rfl, ?_⟩
     by_cases q2:o.2.2.1=x.2.2.1
     rotate_left
     ·rw [decide_eq_false (show ¬V.int o.2.2.1=V.int x.2.2.1 from fun z=>q2 (by injection z))]
      refine fL ?_;exact kG _ (Same.refl _) (by rw [decide_eq_false q2,Bool.and_false];rfl)
     rw [decide_eq_true (show V.int o.2.2.1=V.int x.2.2.1 by rw [q2])];refine fG ?_;refine ⟨_,rfl,_,rfl,_,rfl,l,t,tx,ws,o,x,rfl,(T4.hd).same L_,sU,RX,L_ _ _ JR,Qg o (List.mem_of_getElem? eo),T9,fun Ot TJ=>kF _ _ TJ ?_⟩;rw [decide_eq_true q1,decide_eq_true q2];rfl
    ·rw [tvl,Wg] at e21
     refine ⟨D,_,rfl,bh.of e21,_,rfl, ?_⟩
     have adX:(((jB.filter fun o=>decide (o.1=x.1)&&decide (o.2.2.1=x.2.2.1)).map fun o=>mB o x).any id)=true:=by
      rw [List.any_eq_true];refine ⟨true,List.mem_map.mpr ⟨nF ws y,List.mem_filter.mpr ⟨Ud y hy, ?_⟩,ym⟩,rfl⟩;rw [decide_eq_true y1,decide_eq_true y2];rfl
     rw [adX];refine fL ?_;exact ⟨_,rfl,sm.trans L_⟩
   ·rintro σ Xo ⟨x9,rfl,sm⟩
    have T4:=YX.same sm;clear Nq Jt Xy YX I18 V8 Wm;dsimp only;refine HS (fun H'=>Same Xo H') (fun H21 L_=> ?_) (fun rest=> ?_)
    rotate_left
    ·
     refine ⟨_,rfl,rfl,_,rfl, ?_⟩
     by_cases q:tn=1
     rotate_left
     ·rw [decide_eq_false (show ¬V.int tn=V.int 1 from fun z=>q (by injection z))]
      refine fL ?_;exact rest _ (Same.refl _)
     rw [decide_eq_true (show V.int tn=V.int 1 by rw [q])];refine fG ?_;obtain ⟨a2,b2,t2⟩:=two q;refine ⟨_,rfl,by decide,by decide,fun D hD=> ?_⟩;refine vq (n:=8) (fun i=>some (.bl false)) hD (by decide) (fun i Ot G F hi TJ kG kF=> ?_) (fun Ot TJ e22=> ?_)
     ·refine fG (B:=G Ot) ?_
      refine ⟨_,rfl,_,rfl,to,jB,_,rfl,T4.told.same TJ,by omega,fun H23 UG=> ?_⟩;refine ⟨_,rfl,_,rfl,fa,fns,_,rfl,(T4.few.same TJ).same UG,fnl,fun H24 OJ=>⟨_,_,rfl,rfl, ?_⟩⟩
      have cle:(jB.filter fun x=>decide (x.1=0+(i:Int))).length<=(fns.filter fun x=>decide (x.1=0+(i:Int))).length:=by
       rw [(tp.filter _).length_eq,(fp.filter _).length_eq];exact count_le t2 qT _
      show F (V.bl (decide (((fns.filter fun x=>decide (x.1=0+(i:Int))).length:Int)<((jB.filter fun x=>decide (x.1=0+(i:Int))).length:Int)))) H24;rw [decide_eq_false (by omega)];exact kF _ _ (UG.trans OJ) rfl
     ·refine ⟨D,List.replicate 8 false,rfl,bh.of e22,_,rfl, ?_⟩
      refine fL ?_;exact rest _ TJ
    have I21:=T4.same L_;have acN:=Qt hS hp0 I21.kp;obtain ⟨tv,htv,YM⟩:=id I21.told;have tvl:tv.length=jB.length:=by rw [YM.length,List.length_map]
    obtain ⟨m5,e5,m50,m55⟩:∃m:Int,(if (5:Int)<((ns.map V.int).length:Int) then 5 else ((ns.map V.int).length:Int))=m/\0<=m/\m<=5:=⟨_,rfl,by split<;>omega,by split<;>omega⟩;obtain ⟨m1,e1',m10,m11,m1p⟩:∃m:Int,(if ((tv.length:Nat):Int)<1 then ((tv.length:Nat):Int) else 1)=m/\0<=m/\m<=1/\(0<m->0<jB.length):=⟨_,rfl,by split<;>omega,by split<;>omega,by split<;>omega⟩
    have hN:0<=(1+m5)*tn*m1/\(1+m5)*tn*m1<=6/\(0<(1+m5)*tn*m1->tn=1/\0<jB.length):=by
     have ht:tn=0\/tn=1:=by omega
     have hm:m1=0\/m1=1:=by omega
     rcases ht with rfl|rfl<;>rcases hm with rfl|rfl
     ·simp
     ·simp
     ·simp
     ·refine ⟨by omega,by omega,fun _=>⟨rfl,m1p (by decide)⟩⟩
    refine ⟨_,rfl,a,_,rfl,.inl acN,_,_,rfl,_,_,rfl,rfl,_,rfl,_,_,rfl,rfl,.inr ⟨by omega,by omega⟩,_,rfl,to,_,rfl,.inl (bh.of htv),_,_,rfl,_,_,rfl,rfl,.inr ⟨?_, ?_⟩,_,rfl, ?_, ?_, ?_⟩
    ·rw [e1'];omega
    ·rw [e1'];omega
    ·rw [e5,e1'];omega
    ·rw [e5,e1'];omega
    subst e5 e1'
    refine jG (lo:=0) (n:=((1+(if (5:Int)<((ns.map V.int).length:Int) then 5 else ((ns.map V.int).length:Int)))*tn*(if ((tv.length:Nat):Int)<1 then ((tv.length:Nat):Int) else 1)).toNat) (fun n σ Ot=>∃(x8 x10:Option V),σ=[some (.ref a),some (.ref r),some (.int tn),some (.ref w),some (.ref l),some (.ref to),some (.ref fa),some (.int (c:Int)),x8,x9,x10]/\K_ H p r w l to fa ws jB fns Ot)
     ⟨_,_,rfl,I21⟩ ?_ ?_
    ·rintro n σ Ot hn ⟨x8,x10,rfl,Tp⟩
     obtain ⟨q1,q2⟩:=hN.2.2 (Int.lt_of_not_ge fun z=>by rw [Int.toNat_of_nonpos z] at hn;exact absurd hn (Nat.not_lt_zero _));obtain ⟨a2,b2,t2⟩:=two q1;obtain ⟨tw,htw,Wj⟩:=id Tp.told;have twl:tw.length=jB.length:=by rw [Wj.length,List.length_map]
     refine ⟨_,rfl,_,rfl,to,_,rfl,.inl (bh.of htw),r,_,rfl,Tp.sp,by omega,by omega,fun zI H23 z0 z1 S23 RL=> ?_⟩;have I23:=Tp.vX RL S23;obtain ⟨z,rfl⟩:∃z:Nat,zI=(z:Int):=⟨zI.toNat,by omega⟩;have zl:z<jB.length:=by omega
     obtain ⟨x,ex⟩:∃x,jB[z]? = some x:=⟨jB[z],by simp [zl]⟩;clear Tp htw Wj RL S23;obtain ⟨tw,htw,Wj⟩:=id I23.told;refine ⟨_,rfl,_,rfl,_,rfl,_,rfl,_,_,rfl,bh.of htw,fun pa hpa=> ?_⟩;rw [jK];have OJ:=aC (o:=HO.lst (tw.take z)) hpa;refine ⟨_,rfl,_,rfl,_,_,rfl,rfl,_,rfl,_,_,rfl,bh.of (OJ _ _ htw),fun pb hpb=> ?_⟩;rw [show ((z:Int)+1)=((z+1:Nat):Int) from rfl,zA];have Uz:=aC (o:=HO.lst (tw.drop (z+1))) hpb;have af7:tw.length=jB.length:=by rw [Wj.length,List.length_map]
     refine ⟨pa,pb,_,_,rfl,rfl,Uz _ _ ak,ak,by rw [List.length_take,List.length_drop,sizeLine_eq];omega,fun pq hpq=> ?_⟩;have s26:=aC (o:=HO.lst (tw.take z++tw.drop (z+1))) hpq;have s46:=(OJ.trans Uz).trans s26
     have NR:cg (upd (upd (upd H23 pa (HO.lst (tw.take z))) pb (HO.lst (tw.drop (z+1)))) pq (HO.lst (tw.take z++tw.drop (z+1)))) pq (jB.take z++jB.drop (z+1)):=by
      refine ⟨_,ak, ?_⟩;rw [List.map_append,List.map_take,List.map_drop];have dk:=aD.keep s46.tups _ (aQ _ h_ _) Wj;exact aD.append (dk.take z) (dk.drop (z+1))
     have sub:∀y∈jB.take z++jB.drop (z+1),y∈jB:=fun y hy=>by
      rcases List.mem_append.mp hy with q|q
      ·exact List.mem_of_mem_take q
      ·exact List.mem_of_mem_drop q
     have I26:=I23.same s46;refine ⟨l,pq,ws,jB.take z++jB.drop (z+1),rfl,I26.hd,sU,qT,NR,by rw [List.length_append,List.length_take,List.length_drop];omega,fun y hy=>Qg y (sub y hy),fun bb H27 hb s27=> ?_⟩
     have eb:bb=false:=by
      cases bb with
      | false=>rfl
      | true=>
        obtain ⟨y,hy,rfl⟩:=Ls x (List.mem_of_getElem? ex);exact absurd (hb.mp rfl) (lost t2 hy (fun z hz=>Ls z (sub z hz)) qT (Ay ((tp.nodup_iff).mpr (Jj qT)) ex))
     subst eb;refine ⟨_,_,rfl,rfl,_,rfl, ?_⟩;refine (show if false=true then _ else _ from fL ?_);exact ⟨_,_,rfl,I26.same s27⟩
    ·rintro σ Ot ⟨x8,x10,rfl,Tp⟩
     obtain ⟨v1,e1,d1⟩:=id Tp.hd;obtain ⟨v2,e2,d2⟩:=id Tp.web;refine ⟨_,rfl,_,rfl,_,_,gR e1 d1,gR e2 d2,jP Li,jP Li, ?_⟩;show Q (.bl (PyData.eqv (.list (ws.map tD)) (.list (ws.map tD)))) Ot;rw [n_ tD Kc,decide_eq_true rfl];exact k Ot
  ·exact ⟨w,ws,rfl,W,ok,by omega,S3,lt3,XH,DG,fun q=>absurd (of_decide_eq_false hb) (by rw [q];simp)⟩
  ·refine ⟨_,rfl,_,rfl,r,w,ws,rfl,S3,W,ok,by omega,fun w2 Tw a2 b2 H4 W4 Li l4 t4 S4 k4 hw2=> ?_⟩
   refine rest _ _ ⟨w2,Tw,rfl,W4,Li,by omega,S4,lt3.vX S3 k4, ?_,fun b u e n=>k4 _ _ (DG b u e n) (au e hr1),fun _=>⟨a2,b2,t4⟩⟩;obtain ⟨f1,f2,f3,e1,_⟩:=S3;exact (au e1 hw2).symm
end
theorem len0 {us:List Value} (h:us.length=0):us=[]:=List.eq_nil_of_length_eq_zero h
theorem bW {us:List Value} {n:Nat} (h:us.length=n+1):∃a vs,us=a::vs/\vs.length=n:=by
 cases us with
 | nil=>cases h
 | cons a t=>exact ⟨a,t,rfl,Nat.succ.inj h⟩
theorem Cj (kV doc pm:Value) (an:Option Addr) (cdv ct:Value) (us:List Value) (hl:us.length=(["script"]:List Str).length):bindArgs (PySem.W.fnOf "_law_spring" "_law_spring" (aG eU) (aF eU) (ao eU) .none kV doc pm an cdv ct) ⟨us,[]⟩=pure ((["script"]:List Str).zip us):=by obtain ⟨_,_,rfl,h1⟩:=bW hl;cases len0 h1;rfl
theorem K3 (kV doc pm:Value) (an:Option Addr) (cdv ct:Value) (us:List Value) (hl:us.length=(["spring","many"]:List Str).length):bindArgs (PySem.W.fnOf "_law_draw" "_law_draw" (aG iJ) (aF iJ) (ao iJ) .none kV doc pm an cdv ct) ⟨us,[]⟩=pure ((["spring","many"]:List Str).zip us):=by obtain ⟨_,_,rfl,h1⟩:=bW hl;obtain ⟨_,_,rfl,h2⟩:=bW h1;cases len0 h2;rfl
theorem Og (kV doc pm:Value) (an:Option Addr) (cdv ct:Value) (us:List Value) (hl:us.length=(["spring","most"]:List Str).length):bindArgs (PySem.W.fnOf "_law_web" "_law_web" (aG jT) (aF jT) (ao jT) .none kV doc pm an cdv ct) ⟨us,[]⟩=pure ((["spring","most"]:List Str).zip us):=by obtain ⟨_,_,rfl,h1⟩:=bW hl;obtain ⟨_,_,rfl,h2⟩:=bW h1;cases len0 h2;rfl
theorem zM (kV doc pm:Value) (an:Option Addr) (cdv ct:Value) (us:List Value) (hl:us.length=(["value"]:List Str).length):bindArgs (PySem.W.fnOf "is_whole" "is_whole" (aG dI) (aF dI) (ao dI) .none kV doc pm an cdv ct) ⟨us,[]⟩=pure ((["value"]:List Str).zip us):=by obtain ⟨_,_,rfl,h1⟩:=bW hl;cases len0 h1;rfl
theorem KR (kV doc pm:Value) (an:Option Addr) (cdv ct:Value) (us:List Value) (hl:us.length=(["web"]:List Str).length):bindArgs (PySem.W.fnOf "names" "names" (aG iD) (aF iD) (ao iD) .none kV doc pm an cdv ct) ⟨us,[]⟩=pure ((["web"]:List Str).zip us):=by obtain ⟨_,_,rfl,h1⟩:=bW hl;cases len0 h1;rfl
theorem qH (kV doc pm:Value) (an:Option Addr) (cdv ct:Value) (us:List Value) (hl:us.length=(["one","other"]:List Str).length):bindArgs (PySem.W.fnOf "touches_meet" "touches_meet" (aG bQ) (aF bQ) (ao bQ) .none kV doc pm an cdv ct) ⟨us,[]⟩=pure ((["one","other"]:List Str).zip us):=by obtain ⟨_,_,rfl,h1⟩:=bW hl;obtain ⟨_,_,rfl,h2⟩:=bW h1;cases len0 h2;rfl
theorem Cg (kV doc pm:Value) (an:Option Addr) (cdv ct:Value) (us:List Value) (hl:us.length=(["web","place","later"]:List Str).length):bindArgs (PySem.W.fnOf "is_step" "is_step" (aG eN) (aF eN) (ao eN) .none kV doc pm an cdv ct) ⟨us,[]⟩=pure ((["web","place","later"]:List Str).zip us):=by obtain ⟨_,_,rfl,h1⟩:=bW hl;obtain ⟨_,_,rfl,h2⟩:=bW h1;obtain ⟨_,_,rfl,h3⟩:=bW h2;cases len0 h3;rfl
theorem zN (kV doc pm:Value) (an:Option Addr) (cdv ct:Value) (us:List Value) (hl:us.length=(["name","known"]:List Str).length):bindArgs (PySem.W.fnOf "is_known" "is_known" (aG dJ) (aF dJ) (ao dJ) .none kV doc pm an cdv ct) ⟨us,[]⟩=pure ((["name","known"]:List Str).zip us):=by obtain ⟨_,_,rfl,h1⟩:=bW hl;obtain ⟨_,_,rfl,h2⟩:=bW h1;cases len0 h2;rfl
theorem KZ (kV doc pm:Value) (an:Option Addr) (cdv ct:Value) (us:List Value) (hl:us.length=(["known","more"]:List Str).length):bindArgs (PySem.W.fnOf "learn" "learn" (aG iH) (aF iH) (ao iH) .none kV doc pm an cdv ct) ⟨us,[]⟩=pure ((["known","more"]:List Str).zip us):=by obtain ⟨_,_,rfl,h1⟩:=bW hl;obtain ⟨_,_,rfl,h2⟩:=bW h1;cases len0 h2;rfl
theorem uL (kV doc pm:Value) (an:Option Addr) (cdv ct:Value) (us:List Value) (hl:us.length=(["web","named","knowns","place"]:List Str).length):bindArgs (PySem.W.fnOf "bare_steps" "bare_steps" (aG cF) (aF cF) (ao cF) .none kV doc pm an cdv ct) ⟨us,[]⟩=pure ((["web","named","knowns","place"]:List Str).zip us):=by obtain ⟨_,_,rfl,h1⟩:=bW hl;obtain ⟨_,_,rfl,h2⟩:=bW h1;obtain ⟨_,_,rfl,h3⟩:=bW h2;obtain ⟨_,_,rfl,h4⟩:=bW h3;cases len0 h4;rfl
theorem zJ (kV doc pm:Value) (an:Option Addr) (cdv ct:Value) (us:List Value) (hl:us.length=(["named","bare","name"]:List Str).length):bindArgs (PySem.W.fnOf "notes_to" "notes_to" (aG dG) (aF dG) (ao dG) .none kV doc pm an cdv ct) ⟨us,[]⟩=pure ((["named","bare","name"]:List Str).zip us):=by obtain ⟨_,_,rfl,h1⟩:=bW hl;obtain ⟨_,_,rfl,h2⟩:=bW h1;obtain ⟨_,_,rfl,h3⟩:=bW h2;cases len0 h3;rfl
theorem KQ (kV doc pm:Value) (an:Option Addr) (cdv ct:Value) (us:List Value) (hl:us.length=(["web"]:List Str).length):bindArgs (PySem.W.fnOf "notes" "notes" (aG iC) (aF iC) (ao iC) .none kV doc pm an cdv ct) ⟨us,[]⟩=pure ((["web"]:List Str).zip us):=by obtain ⟨_,_,rfl,h1⟩:=bW hl;cases len0 h1;rfl
theorem Ci (kV doc pm:Value) (an:Option Addr) (cdv ct:Value) (us:List Value) (hl:us.length=(["value"]:List Str).length):bindArgs (PySem.W.fnOf "is_note" "is_note" (aG eO) (aF eO) (ao eO) .none kV doc pm an cdv ct) ⟨us,[]⟩=pure ((["value"]:List Str).zip us):=by obtain ⟨_,_,rfl,h1⟩:=bW hl;cases len0 h1;rfl
theorem wZ (kV doc pm:Value) (an:Option Addr) (cdv ct:Value) (us:List Value) (hl:us.length=(["places","note"]:List Str).length):bindArgs (PySem.W.fnOf "is_strict" "is_strict" (aG cV) (aF cV) (ao cV) .none kV doc pm an cdv ct) ⟨us,[]⟩=pure ((["places","note"]:List Str).zip us):=by obtain ⟨_,_,rfl,h1⟩:=bW hl;obtain ⟨_,_,rfl,h2⟩:=bW h1;cases len0 h2;rfl
theorem qJ (kV doc pm:Value) (an:Option Addr) (cdv ct:Value) (us:List Value) (hl:us.length=(["places","some"]:List Str).length):bindArgs (PySem.W.fnOf "check_strict" "check_strict" (aG bT) (aF bT) (ao bT) .none kV doc pm an cdv ct) ⟨us,[]⟩=pure ((["places","some"]:List Str).zip us):=by obtain ⟨_,_,rfl,h1⟩:=bW hl;obtain ⟨_,_,rfl,h2⟩:=bW h1;cases len0 h2;rfl
theorem wX (kV doc pm:Value) (an:Option Addr) (cdv ct:Value) (us:List Value) (hl:us.length=(["web"]:List Str).length):bindArgs (PySem.W.fnOf "places_of" "places_of" (aG cT) (aF cT) (ao cT) .none kV doc pm an cdv ct) ⟨us,[]⟩=pure ((["web"]:List Str).zip us):=by obtain ⟨_,_,rfl,h1⟩:=bW hl;cases len0 h1;rfl
theorem zH (kV doc pm:Value) (an:Option Addr) (cdv ct:Value) (us:List Value) (hl:us.length=(["places","some"]:List Str).length):bindArgs (PySem.W.fnOf "steps_by" "steps_by" (aG dF) (aF dF) (ao dF) .none kV doc pm an cdv ct) ⟨us,[]⟩=pure ((["places","some"]:List Str).zip us):=by obtain ⟨_,_,rfl,h1⟩:=bW hl;obtain ⟨_,_,rfl,h2⟩:=bW h1;cases len0 h2;rfl
theorem wY (kV doc pm:Value) (an:Option Addr) (cdv ct:Value) (us:List Value) (hl:us.length=(["named","steps"]:List Str).length):bindArgs (PySem.W.fnOf "knowns_by" "knowns_by" (aG cU) (aF cU) (ao cU) .none kV doc pm an cdv ct) ⟨us,[]⟩=pure ((["named","steps"]:List Str).zip us):=by obtain ⟨_,_,rfl,h1⟩:=bW hl;obtain ⟨_,_,rfl,h2⟩:=bW h1;cases len0 h2;rfl
theorem GC (kV doc pm:Value) (an:Option Addr) (cdv ct:Value) (us:List Value) (hl:us.length=(["web","some"]:List Str).length):bindArgs (PySem.W.fnOf "enough" "enough" (aG fQ) (aF fQ) (ao fQ) .none kV doc pm an cdv ct) ⟨us,[]⟩=pure ((["web","some"]:List Str).zip us):=by obtain ⟨_,_,rfl,h1⟩:=bW hl;obtain ⟨_,_,rfl,h2⟩:=bW h1;cases len0 h2;rfl
theorem Ce (kV doc pm:Value) (an:Option Addr) (cdv ct:Value) (us:List Value) (hl:us.length=(["web","places","note"]:List Str).length):bindArgs (PySem.W.fnOf "is_want" "is_want" (aG eG) (aF eG) (ao eG) .none kV doc pm an cdv ct) ⟨us,[]⟩=pure ((["web","places","note"]:List Str).zip us):=by obtain ⟨_,_,rfl,h1⟩:=bW hl;obtain ⟨_,_,rfl,h2⟩:=bW h1;obtain ⟨_,_,rfl,h3⟩:=bW h2;cases len0 h3;rfl
theorem zO (kV doc pm:Value) (an:Option Addr) (cdv ct:Value) (us:List Value) (hl:us.length=(["note"]:List Str).length):bindArgs (PySem.W.fnOf "hands_of" "hands_of" (aG dM) (aF dM) (ao dM) .none kV doc pm an cdv ct) ⟨us,[]⟩=pure ((["note"]:List Str).zip us):=by obtain ⟨_,_,rfl,h1⟩:=bW hl;cases len0 h1;rfl
theorem KY (kV doc pm:Value) (an:Option Addr) (cdv ct:Value) (us:List Value) (hl:us.length=(["note","want"]:List Str).length):bindArgs (PySem.W.fnOf "meets" "meets" (aG iG) (aF iG) (ao iG) .none kV doc pm an cdv ct) ⟨us,[]⟩=pure ((["note","want"]:List Str).zip us):=by obtain ⟨_,_,rfl,h1⟩:=bW hl;obtain ⟨_,_,rfl,h2⟩:=bW h1;cases len0 h2;rfl
theorem uK (kV doc pm:Value) (an:Option Addr) (cdv ct:Value) (us:List Value) (hl:us.length=(["web","note","want"]:List Str).length):bindArgs (PySem.W.fnOf "meets_want" "meets_want" (aG cD) (aF cD) (ao cD) .none kV doc pm an cdv ct) ⟨us,[]⟩=pure ((["web","note","want"]:List Str).zip us):=by obtain ⟨_,_,rfl,h1⟩:=bW hl;obtain ⟨_,_,rfl,h2⟩:=bW h1;obtain ⟨_,_,rfl,h3⟩:=bW h2;cases len0 h3;rfl
theorem oF (kV doc pm:Value) (an:Option Addr) (cdv ct:Value) (us:List Value) (hl:us.length=(["web"]:List Str).length):bindArgs (PySem.W.fnOf "wants_by_hands" "wants_by_hands" (aG bG) (aF bG) (ao bG) .none kV doc pm an cdv ct) ⟨us,[]⟩=pure ((["web"]:List Str).zip us):=by obtain ⟨_,_,rfl,h1⟩:=bW hl;cases len0 h1;rfl
theorem zK (kV doc pm:Value) (an:Option Addr) (cdv ct:Value) (us:List Value) (hl:us.length=(["web","places","want"]:List Str).length):bindArgs (PySem.W.fnOf "note_for" "note_for" (aG dH) (aF dH) (ao dH) .none kV doc pm an cdv ct) ⟨us,[]⟩=pure ((["web","places","want"]:List Str).zip us):=by obtain ⟨_,_,rfl,h1⟩:=bW hl;obtain ⟨_,_,rfl,h2⟩:=bW h1;obtain ⟨_,_,rfl,h3⟩:=bW h2;cases len0 h3;rfl
theorem mH (kV doc pm:Value) (an:Option Addr) (cdv ct:Value) (us:List Value) (hl:us.length=(["web"]:List Str).length):bindArgs (PySem.W.fnOf "wants_with_notes" "wants_with_notes" (aG aY) (aF aY) (ao aY) .none kV doc pm an cdv ct) ⟨us,[]⟩=pure ((["web"]:List Str).zip us):=by obtain ⟨_,_,rfl,h1⟩:=bW hl;cases len0 h1;rfl
theorem qI (kV doc pm:Value) (an:Option Addr) (cdv ct:Value) (us:List Value) (hl:us.length=(["web"]:List Str).length):bindArgs (PySem.W.fnOf "strict_notes" "strict_notes" (aG bR) (aF bR) (ao bR) .none kV doc pm an cdv ct) ⟨us,[]⟩=pure ((["web"]:List Str).zip us):=by obtain ⟨_,_,rfl,h1⟩:=bW hl;cases len0 h1;rfl
theorem ud (kV doc pm:Value) (an:Option Addr) (cdv ct:Value) (us:List Value) (hl:us.length=(["web"]:List Str).length):bindArgs (PySem.W.fnOf "wants_apart" "wants_apart" (aG cj) (aF cj) (ao cj) .none kV doc pm an cdv ct) ⟨us,[]⟩=pure ((["web"]:List Str).zip us):=by obtain ⟨_,_,rfl,h1⟩:=bW hl;cases len0 h1;rfl
theorem Ck (kV doc pm:Value) (an:Option Addr) (cdv ct:Value) (us:List Value) (hl:us.length=(["spring","web"]:List Str).length):bindArgs (PySem.W.fnOf "_law_of_two" "_law_of_two" (aG eV) (aF eV) (ao eV) .none kV doc pm an cdv ct) ⟨us,[]⟩=pure ((["spring","web"]:List Str).zip us):=by obtain ⟨_,_,rfl,h1⟩:=bW hl;obtain ⟨_,_,rfl,h2⟩:=bW h1;cases len0 h2;rfl
theorem uf (kV doc pm:Value) (an:Option Addr) (cdv ct:Value) (us:List Value) (hl:us.length=(["web","cut","some"]:List Str).length):bindArgs (PySem.W.fnOf "_law_first_ones" "_law_first_ones" (aG cu) (aF cu) (ao cu) .none kV doc pm an cdv ct) ⟨us,[]⟩=pure ((["web","cut","some"]:List Str).zip us):=by obtain ⟨_,_,rfl,h1⟩:=bW hl;obtain ⟨_,_,rfl,h2⟩:=bW h1;obtain ⟨_,_,rfl,h3⟩:=bW h2;cases len0 h3;rfl
theorem K1 (kV doc pm:Value) (an:Option Addr) (cdv ct:Value) (us:List Value) (hl:us.length=(["some","hand"]:List Str).length):bindArgs (PySem.W.fnOf "_law_many" "_law_many" (aG iI) (aF iI) (ao iI) .none kV doc pm an cdv ct) ⟨us,[]⟩=pure ((["some","hand"]:List Str).zip us):=by obtain ⟨_,_,rfl,h1⟩:=bW hl;obtain ⟨_,_,rfl,h2⟩:=bW h1;cases len0 h2;rfl
theorem all_mk {l:PySem.W.OpenLaw} {w:World} {K:PySem.W.Frag} {h:Heap} {mg:Str->Option Value} {fa p f0 f1 f2 f3 f4 f5 f6 f7 f8 f9 YK f11 YJ YH YG YF YD YC YB Yz Yy Yx Yw Yv Yu Yt Ys Yr Yq Yp Yo f31 S9:Addr} (X:K.In h) (G:h.Ns mainGlobals mg) (hfa:mg "law" = some (.ref fa))
 {od0 an0 od1 an1 od2 an2 od3 an3 od4 an4 od5 an5 od6 an6 od7 an7 od8 an8 od9 an9 aaO aeg aaN aef aaM aee aaL aed aaK aec aaJ aeb aaI aea aaH ad' aaG ad_ aaF ad9 aaE ad8 aaD ad7 aaC ad6 aaB ad5 aaA ad4 aaz ad3 aay ad2 aax ad1 aaw ad0 aav adZ aau adY aat Xd:Option Addr} {sl0 sl1 sl2 sl3 sl4 sl5 sl6 sl7 sl8 sl9 ZR ZQ ZP ZM ZL ZK ZJ ZG ZF ZD ZC Zz Zy Zx Zw Zv Zu Zt Zr Zq Zo Zn:Array (Option Value)} {oc0 kV0 dc0 pm0 cd0 ct0 oc1 kV1 dc1 pm1 cd1 ct1 oc2 kV2 dc2 pm2 cd2 ct2 oc3 kV3 dc3 pm3 cd3 ct3 oc4 kV4 dc4 pm4 cd4 ct4 oc5 kV5 dc5 pm5 cd5 ct5 oc6 kV6 dc6 pm6 cd6 ct6 oc7 kV7 dc7 pm7 cd7 ct7 oc8 kV8 dc8 pm8 cd8 ct8 oc9 kV9 dc9 pm9 cd9 ct9 aa_ ace adb aaq Xb adC aa9 acd ada aap Xa adB aa8 ab' ac' aao W_ adA aa7 ab_ ac_ aan W9 adz aa6 ab9 ac9 aam W8 ady aa5 ab8 ac8 aal W6 adx aa4 ab7 ac7 aak W0 adw aa3 ab6 ac6 aaj WY adv aa2 ab5 ac5 aai WX adu aa1 ab4 ac4 aah WR adt aa0 ab3 ac3 aag WQ adq aaZ ab2 ac2 aaf WM adp aaY ab1 ac1 aae WL ado aaX ab0 ac0 aad WK adn aaW abZ acZ aac Wz adl aaV abY acY Z_ adk aaU abX acX Z9 Wy adi aaT abW acW Z8 Wx adh aaS abV acV Z7 Ww adg aaR abU acU Z6 Wv adf aaQ abT acT Z5 Wu ade aaP VB Wo U6 SX Wq:Value}
 (a0:PySem.W.nsIn K mainGlobals "_law_spring" = some (some (.ref f0))) (l0:K.lookup f0=some ⟨oc0,od0,.func (PySem.W.fnOf "_law_spring" "_law_spring" (aG eU) (aF eU) (ao eU) .none kV0 dc0 pm0 an0 cd0 ct0),sl0⟩) (c0:PySem.W.codeIn K cd0 "_law_spring" = true) (k0:PySem.W.keepIn K (.ref f0)=true)
 (a1:PySem.W.nsIn K mainGlobals "_law_draw" = some (some (.ref f1))) (l1:K.lookup f1=some ⟨oc1,od1,.func (PySem.W.fnOf "_law_draw" "_law_draw" (aG iJ) (aF iJ) (ao iJ) .none kV1 dc1 pm1 an1 cd1 ct1),sl1⟩) (c1:PySem.W.codeIn K cd1 "_law_draw" = true) (k1:PySem.W.keepIn K (.ref f1)=true)
 (a2:PySem.W.nsIn K mainGlobals "_law_web" = some (some (.ref f2))) (l2:K.lookup f2=some ⟨oc2,od2,.func (PySem.W.fnOf "_law_web" "_law_web" (aG jT) (aF jT) (ao jT) .none kV2 dc2 pm2 an2 cd2 ct2),sl2⟩) (c2:PySem.W.codeIn K cd2 "_law_web" = true) (k2:PySem.W.keepIn K (.ref f2)=true)
 (a3:PySem.W.nsIn K mainGlobals "is_whole" = some (some (.ref f3))) (l3:K.lookup f3=some ⟨oc3,od3,.func (PySem.W.fnOf "is_whole" "is_whole" (aG dI) (aF dI) (ao dI) .none kV3 dc3 pm3 an3 cd3 ct3),sl3⟩) (c3:PySem.W.codeIn K cd3 "is_whole" = true) (k3:PySem.W.keepIn K (.ref f3)=true)
 (a4:PySem.W.nsIn K mainGlobals "names" = some (some (.ref f4))) (l4:K.lookup f4=some ⟨oc4,od4,.func (PySem.W.fnOf "names" "names" (aG iD) (aF iD) (ao iD) .none kV4 dc4 pm4 an4 cd4 ct4),sl4⟩) (c4:PySem.W.codeIn K cd4 "names" = true) (k4:PySem.W.keepIn K (.ref f4)=true)
 (a5:PySem.W.nsIn K mainGlobals "touches_meet" = some (some (.ref f5))) (l5:K.lookup f5=some ⟨oc5,od5,.func (PySem.W.fnOf "touches_meet" "touches_meet" (aG bQ) (aF bQ) (ao bQ) .none kV5 dc5 pm5 an5 cd5 ct5),sl5⟩) (c5:PySem.W.codeIn K cd5 "touches_meet" = true) (k5:PySem.W.keepIn K (.ref f5)=true)
 (a6:PySem.W.nsIn K mainGlobals "is_step" = some (some (.ref f6))) (l6:K.lookup f6=some ⟨oc6,od6,.func (PySem.W.fnOf "is_step" "is_step" (aG eN) (aF eN) (ao eN) .none kV6 dc6 pm6 an6 cd6 ct6),sl6⟩) (c6:PySem.W.codeIn K cd6 "is_step" = true) (k6:PySem.W.keepIn K (.ref f6)=true)
 (a7:PySem.W.nsIn K mainGlobals "is_known" = some (some (.ref f7))) (l7:K.lookup f7=some ⟨oc7,od7,.func (PySem.W.fnOf "is_known" "is_known" (aG dJ) (aF dJ) (ao dJ) .none kV7 dc7 pm7 an7 cd7 ct7),sl7⟩) (c7:PySem.W.codeIn K cd7 "is_known" = true) (k7:PySem.W.keepIn K (.ref f7)=true)
 (a8:PySem.W.nsIn K mainGlobals "learn" = some (some (.ref f8))) (l8:K.lookup f8=some ⟨oc8,od8,.func (PySem.W.fnOf "learn" "learn" (aG iH) (aF iH) (ao iH) .none kV8 dc8 pm8 an8 cd8 ct8),sl8⟩) (c8:PySem.W.codeIn K cd8 "learn" = true) (k8:PySem.W.keepIn K (.ref f8)=true)
 (a9:PySem.W.nsIn K mainGlobals "bare_steps" = some (some (.ref f9))) (l9:K.lookup f9=some ⟨oc9,od9,.func (PySem.W.fnOf "bare_steps" "bare_steps" (aG cF) (aF cF) (ao cF) .none kV9 dc9 pm9 an9 cd9 ct9),sl9⟩) (c9:PySem.W.codeIn K cd9 "bare_steps" = true) (k9:PySem.W.keepIn K (.ref f9)=true)
 (a10:PySem.W.nsIn K mainGlobals "notes_to" = some (some (.ref YK))) (l10:K.lookup YK=some ⟨aa_,aaO,.func (PySem.W.fnOf "notes_to" "notes_to" (aG dG) (aF dG) (ao dG) .none ace adb aaq aeg Xb adC),ZR⟩) (c10:PySem.W.codeIn K Xb "notes_to" = true) (k10:PySem.W.keepIn K (.ref YK)=true)
 (a11:PySem.W.nsIn K mainGlobals "notes" = some (some (.ref f11))) (l11:K.lookup f11=some ⟨aa9,aaN,.func (PySem.W.fnOf "notes" "notes" (aG iC) (aF iC) (ao iC) .none acd ada aap aef Xa adB),ZQ⟩) (c11:PySem.W.codeIn K Xa "notes" = true) (k11:PySem.W.keepIn K (.ref f11)=true)
 (a12:PySem.W.nsIn K mainGlobals "is_note" = some (some (.ref YJ))) (l12:K.lookup YJ=some ⟨aa8,aaM,.func (PySem.W.fnOf "is_note" "is_note" (aG eO) (aF eO) (ao eO) .none ab' ac' aao aee W_ adA),ZP⟩) (c12:PySem.W.codeIn K W_ "is_note" = true) (k12:PySem.W.keepIn K (.ref YJ)=true)
 (a13:PySem.W.nsIn K mainGlobals "is_strict" = some (some (.ref YH))) (l13:K.lookup YH=some ⟨aa7,aaL,.func (PySem.W.fnOf "is_strict" "is_strict" (aG cV) (aF cV) (ao cV) .none ab_ ac_ aan aed W9 adz),ZM⟩) (c13:PySem.W.codeIn K W9 "is_strict" = true) (k13:PySem.W.keepIn K (.ref YH)=true)
 (a14:PySem.W.nsIn K mainGlobals "check_strict" = some (some (.ref YG))) (l14:K.lookup YG=some ⟨aa6,aaK,.func (PySem.W.fnOf "check_strict" "check_strict" (aG bT) (aF bT) (ao bT) .none ab9 ac9 aam aec W8 ady),ZL⟩) (c14:PySem.W.codeIn K W8 "check_strict" = true) (k14:PySem.W.keepIn K (.ref YG)=true)
 (a15:PySem.W.nsIn K mainGlobals "places_of" = some (some (.ref YF))) (l15:K.lookup YF=some ⟨aa5,aaJ,.func (PySem.W.fnOf "places_of" "places_of" (aG cT) (aF cT) (ao cT) .none ab8 ac8 aal aeb W6 adx),ZK⟩) (c15:PySem.W.codeIn K W6 "places_of" = true) (Yj:PySem.W.keepIn K (.ref YF)=true)
 (a16:PySem.W.nsIn K mainGlobals "steps_by" = some (some (.ref YD))) (l16:K.lookup YD=some ⟨aa4,aaI,.func (PySem.W.fnOf "steps_by" "steps_by" (aG dF) (aF dF) (ao dF) .none ab7 ac7 aak aea W0 adw),ZJ⟩) (c16:PySem.W.codeIn K W0 "steps_by" = true) (Yi:PySem.W.keepIn K (.ref YD)=true)
 (a17:PySem.W.nsIn K mainGlobals "knowns_by" = some (some (.ref YC))) (l17:K.lookup YC=some ⟨aa3,aaH,.func (PySem.W.fnOf "knowns_by" "knowns_by" (aG cU) (aF cU) (ao cU) .none ab6 ac6 aaj ad' WY adv),ZG⟩) (c17:PySem.W.codeIn K WY "knowns_by" = true) (Yh:PySem.W.keepIn K (.ref YC)=true)
 (a18:PySem.W.nsIn K mainGlobals "enough" = some (some (.ref YB))) (l18:K.lookup YB=some ⟨aa2,aaG,.func (PySem.W.fnOf "enough" "enough" (aG fQ) (aF fQ) (ao fQ) .none ab5 ac5 aai ad_ WX adu),ZF⟩) (c18:PySem.W.codeIn K WX "enough" = true) (RM:PySem.W.keepIn K (.ref YB)=true)
 (a19:PySem.W.nsIn K mainGlobals "is_want" = some (some (.ref Yz))) (l19:K.lookup Yz=some ⟨aa1,aaF,.func (PySem.W.fnOf "is_want" "is_want" (aG eG) (aF eG) (ao eG) .none ab4 ac4 aah ad9 WR adt),ZD⟩) (c19:PySem.W.codeIn K WR "is_want" = true) (Yg:PySem.W.keepIn K (.ref Yz)=true)
 (a20:PySem.W.nsIn K mainGlobals "hands_of" = some (some (.ref Yy))) (l20:K.lookup Yy=some ⟨aa0,aaE,.func (PySem.W.fnOf "hands_of" "hands_of" (aG dM) (aF dM) (ao dM) .none ab3 ac3 aag ad8 WQ adq),ZC⟩) (c20:PySem.W.codeIn K WQ "hands_of" = true) (Ye:PySem.W.keepIn K (.ref Yy)=true)
 (a21:PySem.W.nsIn K mainGlobals "meets" = some (some (.ref Yx))) (l21:K.lookup Yx=some ⟨aaZ,aaD,.func (PySem.W.fnOf "meets" "meets" (aG iG) (aF iG) (ao iG) .none ab2 ac2 aaf ad7 WM adp),Zz⟩) (c21:PySem.W.codeIn K WM "meets" = true) (Yd:PySem.W.keepIn K (.ref Yx)=true)
 (a22:PySem.W.nsIn K mainGlobals "meets_want" = some (some (.ref Yw))) (l22:K.lookup Yw=some ⟨aaY,aaC,.func (PySem.W.fnOf "meets_want" "meets_want" (aG cD) (aF cD) (ao cD) .none ab1 ac1 aae ad6 WL ado),Zy⟩) (c22:PySem.W.codeIn K WL "meets_want" = true) (Yc:PySem.W.keepIn K (.ref Yw)=true)
 (a23:PySem.W.nsIn K mainGlobals "wants_by_hands" = some (some (.ref Yv))) (l23:K.lookup Yv=some ⟨aaX,aaB,.func (PySem.W.fnOf "wants_by_hands" "wants_by_hands" (aG bG) (aF bG) (ao bG) .none ab0 ac0 aad ad5 WK adn),Zx⟩) (c23:PySem.W.codeIn K WK "wants_by_hands" = true) (RL:PySem.W.keepIn K (.ref Yv)=true)
 (a24:PySem.W.nsIn K mainGlobals "note_for" = some (some (.ref Yu))) (l24:K.lookup Yu=some ⟨aaW,aaA,.func (PySem.W.fnOf "note_for" "note_for" (aG dH) (aF dH) (ao dH) .none abZ acZ aac ad4 Wz adl),Zw⟩) (c24:PySem.W.codeIn K Wz "note_for" = true) (Yb:PySem.W.keepIn K (.ref Yu)=true)
 (a25:PySem.W.nsIn K mainGlobals "wants_with_notes" = some (some (.ref Yt))) (l25:K.lookup Yt=some ⟨aaV,aaz,.func (PySem.W.fnOf "wants_with_notes" "wants_with_notes" (aG aY) (aF aY) (ao aY) .none abY acY Z_ ad3 (.ref S9) adk),Zv⟩) (c25:PySem.W.codeIn K (.ref S9) "wants_with_notes" = true) (X_:PySem.W.keepIn K (.ref Yt)=true) (Ym:PySem.W.codeHdIn K S9 p=true) (hkp:K.lookup p=none)
 (a26:PySem.W.nsIn K mainGlobals "strict_notes" = some (some (.ref Ys))) (l26:K.lookup Ys=some ⟨aaU,aay,.func (PySem.W.fnOf "strict_notes" "strict_notes" (aG bR) (aF bR) (ao bR) .none abX acX Z9 ad2 Wy adi),Zu⟩) (c26:PySem.W.codeIn K Wy "strict_notes" = true) (X8:PySem.W.keepIn K (.ref Ys)=true)
 (a27:PySem.W.nsIn K mainGlobals "wants_apart" = some (some (.ref Yr))) (l27:K.lookup Yr=some ⟨aaT,aax,.func (PySem.W.fnOf "wants_apart" "wants_apart" (aG cj) (aF cj) (ao cj) .none abW acW Z8 ad1 Wx adh),Zt⟩) (c27:PySem.W.codeIn K Wx "wants_apart" = true) (X7:PySem.W.keepIn K (.ref Yr)=true)
 (a28:PySem.W.nsIn K mainGlobals "_law_of_two" = some (some (.ref Yq))) (l28:K.lookup Yq=some ⟨aaS,aaw,.func (PySem.W.fnOf "_law_of_two" "_law_of_two" (aG eV) (aF eV) (ao eV) .none abV acV Z7 ad0 Ww adg),Zr⟩) (c28:PySem.W.codeIn K Ww "_law_of_two" = true) (X6:PySem.W.keepIn K (.ref Yq)=true)
 (a29:PySem.W.nsIn K mainGlobals "_law_first_ones" = some (some (.ref Yp))) (l29:K.lookup Yp=some ⟨aaR,aav,.func (PySem.W.fnOf "_law_first_ones" "_law_first_ones" (aG cu) (aF cu) (ao cu) .none abU acU Z6 adZ Wv adf),Zq⟩) (c29:PySem.W.codeIn K Wv "_law_first_ones" = true) (X5:PySem.W.keepIn K (.ref Yp)=true)
 (a30:PySem.W.nsIn K mainGlobals "_law_many" = some (some (.ref Yo))) (l30:K.lookup Yo=some ⟨aaQ,aau,.func (PySem.W.fnOf "_law_many" "_law_many" (aG iI) (aF iI) (ao iI) .none abT acT Z5 adY Wu ade),Zo⟩) (c30:PySem.W.codeIn K Wu "_law_many" = true) (X4:PySem.W.keepIn K (.ref Yo)=true)
 (a31:PySem.W.nsIn K mainGlobals "law" = some (some (.ref f31))) (l31:K.lookup f31=some ⟨aaP,aat,.func (PySem.W.fnOf "law" "law" (aG lB) (aF lB) (ao lB) .none VB Wo U6 Xd SX Wq),Zn⟩) (c31:PySem.W.codeIn K SX "law" = true) (k31:PySem.W.keepIn K (.ref f31)=true)
 (jN:PySem.W.nsIn K mainGlobals "ValueError" = some none) (Hl:PySem.W.nsIn K mainGlobals "abs" = some none) (Hj:PySem.W.nsIn K mainGlobals "all" = some none) (Hi:PySem.W.nsIn K mainGlobals "any" = some none) (z9:PySem.W.nsIn K mainGlobals "bool" = some none) (kO:PySem.W.nsIn K mainGlobals "enumerate" = some none) (Hh:PySem.W.nsIn K mainGlobals "int" = some none) (jM:PySem.W.nsIn K mainGlobals "isinstance" = some none) (Hg:PySem.W.nsIn K mainGlobals "len" = some none) (z8:PySem.W.nsIn K mainGlobals "list" = some none) (Hf:PySem.W.nsIn K mainGlobals "max" = some none) (G_:PySem.W.nsIn K mainGlobals "min" = some none) (vN:PySem.W.nsIn K mainGlobals "range" = some none) (rB:PySem.W.nsIn K mainGlobals "sorted" = some none) (vM:PySem.W.nsIn K mainGlobals "tuple" = some none):
 (K.lookup p=none /\ ∃c,PySem.W.codeHdIn K c p=true) /\ ∃fd:FuncData,(∀(s:Shared) (v:Value),BindsTo s fd ⟨[v],[]⟩ [("script",v)]) /\ ∀base:Heap,K.In base->base.Ns mainGlobals mg->Bm mg base->cX l.prog w K mg base jx 6 fa fd ["script"] (CQ p K):=by
 have e:=hfa.symm.trans (PySem.W.mg_of X G a31);cases e;have Bt:uM mg:=⟨PySem.W.mg_none_of X G jN,PySem.W.mg_none_of X G Hl,PySem.W.mg_none_of X G Hj,PySem.W.mg_none_of X G Hi,PySem.W.mg_none_of X G z9,PySem.W.mg_none_of X G kO,PySem.W.mg_none_of X G Hh,PySem.W.mg_none_of X G jM,PySem.W.mg_none_of X G Hg,PySem.W.mg_none_of X G z8,PySem.W.mg_none_of X G Hf,PySem.W.mg_none_of X G G_,PySem.W.mg_none_of X G vN,PySem.W.mg_none_of X G rB,PySem.W.mg_none_of X G vM⟩;have F0:=bK (st:=eU) l0 c0 k0;have F1:=bK (st:=iJ) l1 c1 k1;have F2:=bK (st:=jT) l2 c2 k2;have F3:=bK (st:=dI) l3 c3 k3;have F4:=bK (st:=iD) l4 c4 k4;have F5:=bK (st:=bQ) l5 c5 k5;have F6:=bK (st:=eN) l6 c6 k6;have F7:=bK (st:=dJ) l7 c7 k7;have F8:=bK (st:=iH) l8 c8 k8;have F9:=bK (st:=cF) l9 c9 k9;have F10:=bK (st:=dG) l10 c10 k10;have F11:=bK (st:=iC) l11 c11 k11;have F12:=bK (st:=eO) l12 c12 k12;have F13:=bK (st:=cV) l13 c13 k13;have F14:=bK (st:=bT) l14 c14 k14;have F15:=bK (st:=cT) l15 c15 Yj;have F16:=bK (st:=dF) l16 c16 Yi;have F17:=bK (st:=cU) l17 c17 Yh;have F18:=bK (st:=fQ) l18 c18 RM;have F19:=bK (st:=eG) l19 c19 Yg;have F20:=bK (st:=dM) l20 c20 Ye;have F21:=bK (st:=iG) l21 c21 Yd;have F22:=bK (st:=cD) l22 c22 Yc;have F23:=bK (st:=bG) l23 c23 RL;have F24:=bK (st:=dH) l24 c24 Yb;have L25:=Nz (st:=aY) l25 c25 X_ Ym;have F25:=L25.fun;have F26:=bK (st:=bR) l26 c26 X8;have F27:=bK (st:=cj) l27 c27 X7;have F28:=bK (st:=eV) l28 c28 X6;have F29:=bK (st:=cu) l29 c29 X5;have F30:=bK (st:=iI) l30 c30 X4;have F31:=bK (st:=lB) l31 c31 k31;refine ⟨⟨hkp,_,Ym⟩, ?_⟩;refine ⟨PySem.W.fnOf "law" "law" (aG lB) (aF lB) (ao lB) .none VB Wo U6 Xd SX Wq,fun s v=> .of_eq rfl,fun base _ _ BM=> ?_⟩;have A0:FnAt l.prog w K mg base 1 "_law_spring" ["script"] (rF K):=⟨f0,_,FN F0 Bt,PySem.W.mg_of X G a0,k0,F0.binds (ps:=["script"]) Cj⟩;have A1:FnAt l.prog w K mg base 1 "_law_draw" ["spring","many"] (lq K):=⟨f1,_,MK F1,PySem.W.mg_of X G a1,k1,F1.binds (ps:=["spring","many"]) K3⟩;have A2:FnAt l.prog w K mg base 2 "_law_web" ["spring","most"] (HD K):=⟨f2,_,Q9 F2 A1 Bt,PySem.W.mg_of X G a2,k2,F2.binds (ps:=["spring","most"]) Og⟩;have A3:FnAt l.prog w K mg base 1 "is_whole" ["value"] (Qw K):=⟨f3,_,yH F3 Bt,PySem.W.mg_of X G a3,k3,F3.binds (ps:=["value"]) zM⟩;have A4:FnAt l.prog w K mg base 1 "names" ["web"] (lU K):=⟨f4,_,Jd F4,PySem.W.mg_of X G a4,k4,F4.binds (ps:=["web"]) KR⟩;have A5:FnAt l.prog w K mg base 1 "touches_meet" ["one","other"] (Fg K):=⟨f5,_,qy F5,PySem.W.mg_of X G a5,k5,F5.binds (ps:=["one","other"]) qH⟩;have A6:FnAt l.prog w K mg base 2 "is_step" ["web","place","later"] (Ag K):=⟨f6,_,Bf F6 A5,PySem.W.mg_of X G a6,k6,F6.binds (ps:=["web","place","later"]) Cg⟩;have A7:FnAt l.prog w K mg base 1 "is_known" ["name","known"] (qN K):=⟨f7,_,Jg F7,PySem.W.mg_of X G a7,k7,F7.binds (ps:=["name","known"]) zN⟩;have A8:FnAt l.prog w K mg base 1 "learn" ["known","more"] (qM K):=⟨f8,_,Jf F8 Bt,PySem.W.mg_of X G a8,k8,F8.binds (ps:=["known","more"]) KZ⟩;have A9:FnAt l.prog w K mg base 3 "bare_steps" ["web","named","knowns","place"] (Ai K):=⟨f9,_,MN F9 A6 A7 A8 Bt,PySem.W.mg_of X G a9,k9,F9.binds (ps:=["web","named","knowns","place"]) uL⟩;have A10:FnAt l.prog w K mg base 1 "notes_to" ["named","bare","name"] (oU K):=⟨YK,_,Bc F10,PySem.W.mg_of X G a10,k10,F10.binds (ps:=["named","bare","name"]) zJ⟩;have A11:FnAt l.prog w K mg base 4 "notes" ["web"] (vY K):=⟨f11,_,Jc F11 A4 A9 A10 Bt,PySem.W.mg_of X G a11,k11,F11.binds (ps:=["web"]) KQ⟩;have A12:FnAt l.prog w K mg base 2 "is_note" ["value"] (rH K):=⟨YJ,_,Bg F12 A3 Bt,PySem.W.mg_of X G a12,k12,F12.binds (ps:=["value"]) Ci⟩;have A13:FnAt l.prog w K mg base 3 "is_strict" ["places","note"] (nH K):=⟨YH,_,FJ F13 A12,PySem.W.mg_of X G a13,k13,F13.binds (ps:=["places","note"]) wZ⟩;have A14:FnAt l.prog w K mg base 4 "check_strict" ["places","some"] (CV K):=⟨YG,_,Rc F14 A13 Bt,PySem.W.mg_of X G a14,k14,F14.binds (ps:=["places","some"]) qJ⟩;have A15:FnAt l.prog w K mg base 2 "places_of" ["web"] (k_ K):=⟨YF,_,FP F15 A4 Bt,PySem.W.mg_of X G a15,Yj,F15.binds (ps:=["web"]) wX⟩;have A16:FnAt l.prog w K mg base 1 "steps_by" ["places","some"] (Qx K):=⟨YD,_,Vc F16 Bt,PySem.W.mg_of X G a16,Yi,F16.binds (ps:=["places","some"]) zH⟩;have A17:FnAt l.prog w K mg base 2 "knowns_by" ["named","steps"] (Qy K):=⟨YC,_,Vd F17 A8 Bt,PySem.W.mg_of X G a17,Yh,F17.binds (ps:=["named","steps"]) wY⟩;have A18:FnAt l.prog w K mg base 5 "enough" ["web","some"] (Qz K):=⟨YB,_,Ve F18 A15 A14 A4 A16 A17 A5 A7 Bt,PySem.W.mg_of X G a18,RM,F18.binds (ps:=["web","some"]) GC⟩;have A19:FnAt l.prog w K mg base 4 "is_want" ["web","places","note"] (rG K):=⟨Yz,_,FQ F19 A13 A5,PySem.W.mg_of X G a19,Yg,F19.binds (ps:=["web","places","note"]) Ce⟩;have A20:FnAt l.prog w K mg base 1 "hands_of" ["note"] (lV K):=⟨Yy,_,Bh F20,PySem.W.mg_of X G a20,Ye,F20.binds (ps:=["note"]) zO⟩;have A21:FnAt l.prog w K mg base 2 "meets" ["note","want"] (qL K):=⟨Yx,_,Je F21 A20,PySem.W.mg_of X G a21,Yd,F21.binds (ps:=["note","want"]) KY⟩;have A22:FnAt l.prog w K mg base 5 "meets_want" ["web","note","want"] (HJ K):=⟨Yw,_,Ra F22 A15 A14 A19 A21,PySem.W.mg_of X G a22,Yc,F22.binds (ps:=["web","note","want"]) uK⟩;have A23:FnAt l.prog w K mg base 2 "wants_by_hands" ["web"] (oO K):=⟨Yv,_,Ba F23 A4 A5 A20 Bt,PySem.W.mg_of X G a23,RL,F23.binds (ps:=["web"]) oF⟩;have A24:FnAt l.prog w K mg base 1 "note_for" ["web","places","want"] (oV K):=⟨Yu,_,Bd F24 Bt,PySem.W.mg_of X G a24,Yb,F24.binds (ps:=["web","places","want"]) zK⟩;have A25:FnAt l.prog w K mg base 3 "wants_with_notes" ["web"] (CP p K):=⟨Yt,_,Q8 L25 A15 A23 A24 A21 BM Bt,PySem.W.mg_of X G a25,X_,F25.binds (ps:=["web"]) mH⟩;have A26:FnAt l.prog w K mg base 4 "strict_notes" ["web"] (oR p K):=⟨Ys,_,Bb F26 A25 Bt,PySem.W.mg_of X G a26,X8,F26.binds (ps:=["web"]) qI⟩;have A27:FnAt l.prog w K mg base 4 "wants_apart" ["web"] (vZ p K):=⟨Yr,_,Jh F27 A25 Bt,PySem.W.mg_of X G a27,X7,F27.binds (ps:=["web"]) ud⟩;have A28:FnAt l.prog w K mg base 2 "_law_of_two" ["spring","web"] (HF K):=⟨Yq,_,Q_ F28 A1,PySem.W.mg_of X G a28,X6,F28.binds (ps:=["spring","web"]) Ck⟩;have A29:FnAt l.prog w K mg base 1 "_law_first_ones" ["web","cut","some"] (rJ K):=⟨Yp,_,FT F29 Bt,PySem.W.mg_of X G a29,X5,F29.binds (ps:=["web","cut","some"]) uf⟩;have A30:FnAt l.prog w K mg base 1 "_law_many" ["some","hand"] (Ah K):=⟨Yo,_,MJ F30 Bt,PySem.W.mg_of X G a30,X4,F30.binds (ps:=["some","hand"]) K1⟩;exact Rb F31 A0 A1 A2 A28 A26 A27 A11 A18 A22 A29 A30 Bt
theorem walk {l:PySem.W.OpenLaw} {p:Addr} {q:Program} {loose:List Str} {XP:(Str->Option Value)->Heap->Prop} {YP:World->Heap->Prop} {d:DefRec} {K:Params->PySem.W.Frag} (hn:l.most=some 63) (hdf:d.params.defaults=[])
 (hY:∀(w:World) (h:Heap),YP w h->(K w.params).In h) (hT:∀(w:World) (h:Heap),YP w h->h.get? p=some (PySem.W.tabObj #[]))
 (F:∀(w:World) (mg:Str->Option Value) (fa:Addr) (h:Heap),(K w.params).In h->h.Ns mainGlobals mg->mg d.name=some (.ref fa) ->
   ((K w.params).lookup p=none /\ ∃c,PySem.W.codeHdIn (K w.params) c p=true) /\ ∃fd:FuncData,(∀(s:Shared) (u:Value),BindsTo s fd ⟨[u],[]⟩ [("script",u)]) /\ ∀base:Heap,(K w.params).In base->base.Ns mainGlobals mg->Bm mg base->cX l.prog w (K w.params) mg base jx 6 fa fd ["script"] (CQ p (K w.params))):
 PySem.W.WalkO q loose XP YP l.row.toRowW d [] (fun f vs=>PySem.call f vs):=
 L2.Hq (n:=63) (k:=6) (x:= "script") (CX:=fun _=>jx) (sp:=fun w=>CQ p (K w.params)) hn (by decide) hdf ⟨rfl,by decide,by decide⟩ hY hT F (fun _ _ a ns hl _ hS hH=>⟨a,ns,rfl,hS,hl,hH,fun _=>rfl⟩) fun _ _ _ _ _ z=>z
end Prf
namespace PySem.W.Fast
def tw15874562096985297088:=()
def tw9698345551762385922:=()
def tw3192474351758616917:=()
def tw8489195757346258418:=()
def tw7086136438015783433:=()
def tw5704642619786000606:=()
def tw12783811224703214450:=()
def tw10556904670182386741:=()
def tw6640633617958514763:=()
def tw8081803935414310940:=()
def tw18108290868085176588:=()
def tw5672267537654418352:=()
def tw11109492083412629031:=()
def tw10604371428505469046:=()
def tw4747376484295113548:=()
def tw18148852286185119984:=()
def tw5893447236478532743:=()
def tw13316663849264393311:=()
def tw3558009842781682223:=()
def tw13653106115156165904:=()
def tw7274588763377325900:=()
def tw4043401289929473365:=()
def tw9523491708225249503:=()
def tw15352647069603272883:=()
def tw17619883604613534261:=()
def tw1718941306697556664:=()
def tw6741698706425495962:=()
def tw12359318081226749725:=()
def tw2502084835116346066:=()
def tw16916449085156393059:=()
def tw17629256388865785511:=()
def tw15089353480982334336:=()
def tw7086929286286083460:=()
def tw3482076670784808686:=()
def tw5997695797669510369:=()
def tw16029202441063510700:=()
def tw266748297308218089:=()
def tw7908882156801997286:=()
def tw5197688438588623036:=()
def tw10104116987475332375:=()
def tw4009342830793642749:=()
def tw12550262803494284688:=()
def tw4116406276661309556:=()
def tw6984072942390717939:=()
def tw18187512590324619946:=()
def tw10618684553268664697:=()
def tw9319336963772430472:=()
def tw12737828405791330359:=()
def tw5651107559347978999:=()
def tw1865561123335372949:=()
def tw9394179273437691433:=()
def tw5372838933161458269:=()
def tw5089569181920809775:=()
def tw14851429651589660092:=()
def tw3397328611332246279:=()
def tw234049960661648646:=()
def tw14944644949767977165:=()
def tw10054881481257534432:=()
def tw3359015863433692589:=()
def tw3409262092927125203:=()
def tw17664872302987232904:=()
def tw2545482762115641175:=()
def tw13496440182329866516:=()
def tw15309469084815031210:=()
def tw17470004574323329912:=()
def tw7135384845006741987:=()
def tw12705821694115940272:=()
def tw13687995482515348498:=()
def tw2245019328956697987:=()
def tw1261596893792402781:=()
def tw7719403964844877448:=()
def tw2219420592842445434:=()
def tw5763293427495992675:=()
def tw16305475667111573179:=()
def tw18296727868480646973:=()
def tw15723326833545988902:=()
def tw9480270519794699514:=()
def tw16843623860605681433:=()
def tw17248912857293968827:=()
def tw1167760117305082559:=()
def tw7529101802932800984:=()
def tw7797406574460500099:=()
def tw11140477104403331471:=()
def tw13207677957850165027:=()
def tw14821559403002950143:=()
def tw12785807421599983196:=()
def tw11830200575277777908:=()
def tw15963987890728645005:=()
def tw5886869185412540269:=()
def tw15038596945815547625:=()
def tw3555796215062856631:=()
def tw8273943423912222110:=()
def tw4639438510164269682:=()
def tw1554841887155671624:=()
def tw16504109122554788533:=()
def tw4077770089997697801:=()
def tw3204029456677819494:=()
def tw2410384785498230484:=()
def tw16233952202015664491:=()
def tw7615112813634057952:=()
def tw8187246418688553192:=()
def tw3749658374454433221:=()
def tw2619272567484103036:=()
def tw7788225982214801588:=()
def tw8317115427879845744:=()
def tw3021396901660838822:=()
def tw4180381433877171171:=()
def tw14502958532685197822:=()
def tw13490188938338315584:=()
def tw11286291712872403895:=()
def tw7250715733280625967:=()
def tw15246866608263836340:=()
def tw13307054439022453492:=()
def tw14641059025466632834:=()
def tw4464641168566823386:=()
def tw9870901169802594524:=()
def tw17121293207213197811:=()
def tw16851941771641145869:=()
def tw4808623243713882516:=()
def tw15712836324414172083:=()
def tw6611376575853587696:=()
def tw13120249290380185132:=()
def tw13556037491785832865:=()
def tw292283379384339817:=()
def tw10237860944141618750:=()
def tw3729890128552794789:=()
def tw15626950985591743554:=()
def tw8679962503024587108:=()
def tw1002349728283036758:=()
def tw11491130352955701527:=()
def tw1811399733897534066:=()
def tw5436342418540098770:=()
def tw8125353662543955665:=()
def tw18197532058156087557:=()
def tw2441496175203292973:=()
def tw5399017939527108578:=()
def tw10124118416962619790:=()
def tw18201393610482312828:=()
def tw1805267308389621118:=()
def tw7867224449677733476:=()
def tw15983181858972515888:=()
def tw8128448221756675586:=()
def tw1130735924368949025:=()
def tw10294379906405335077:=()
def tw9812868951042264634:=()
def tw13569540910901194639:=()
def tw4408444594822520184:=()
def tw10372845320132172597:=()
def tw1604647280831715541:=()
def tw12948406008828771859:=()
def tw4155267378131393040:=()
def tw83687326822675159:=()
def tw12196952118730533263:=()
def tw13060697991953439818:=()
def tw13038948838065596702:=()
def tw6731536973708669028:=()
def tw2663591942650526502:=()
def tw17986643579114305768:=()
def tw14362758121574493798:=()
def tw1324270452897344552:=()
def tw2470358057267116151:=()
def tw4526069368301104249:=()
def tw9443909059270340780:=()
def tw5585838136776140857:=()
def tw13687364106280037002:=()
def tw15558327236166888024:=()
def tw9576609919902385064:=()
def tw10474150932577367838:=()
def tw13321899229850151306:=()
def tw9727424379429794764:=()
def tw13273128399403325315:=()
def tw6011711374718569461:=()
def tw12052335603682393166:=()
def tw6442449605671265858:=()
def tw11230776656083842415:=()
def tw12765956150471116205:=()
def tw16472727391860267902:=()
def tw14099600069749056075:=()
def tw14410645641055676787:=()
def tw9928589855590591751:=()
def tw18282019448163365851:=()
def tw15305175099420424611:=()
def tw3423338449159321609:=()
def tw15497935757754312024:=()
def tw8442452544322019529:=()
def tw12882580208040833472:=()
def tw12560152825989924732:=()
def tw17103331594137313361:=()
def tw2275960290060892670:=()
def tw9319215743873931575:=()
def tw5709262266086822845:=()
def tw16493982953522475893:=()
def tw7836732096515489259:=()
def tw1816569628856132881:=()
def tw8670459207446832199:=()
def tw5406220176961422328:=()
def tw4098078918480618304:=()
def tw13590310017331434678:=()
def tw8087189005731169891:=()
def tw17052794695914704901:=()
def tw11024150934140159097:=()
def tw4192416958273369030:=()
def tw10043451136599776969:=()
def tw12324612530212983278:=()
def tw17169741790201235740:=()
def tw16685760578331727326:=()
def tw6257523080858179619:=()
def tw10285409097140821340:=()
def tw4846242663464356321:=()
def tw15159199007033376546:=()
def tw18234116253829632467:=()
def tw15954158671839334207:=()
def tw13895131341220467141:=()
def tw4282454163462326202:=()
def tw13565194883324983611:=()
def tw9528004448118104672:=()
end PySem.W.Fast
open PySem PySem.W PyProof.Rows
set_option maxRecDepth 100000 in
set_option maxHeartbeats 0 in
theorem PySem.Challenge.cw_fewnotes_k34_whole_strict_notes_are_enou_holds : PySem.Challenge.rw_fewnotes_k34_whole_strict_notes_are_enou.Holds := by
 w_on;o_law;k_head;(case hw=>w_witness2)
 k_fill
 refine Prf.walk (l:=PySem.Challenge.rw_fewnotes_k34_whole_strict_notes_are_enou) rfl rfl (fun w h Y=>PySem.W.km_in_of Y) (fun w h Y=>PySem.W.km_tabs_of Y _ (List.Mem.head _)) ?F
 case F=>
  intro w mg fa h KX G hmg
  replace hmg:mg (Str.ofString "law")=some (.ref fa):=hmg
  refine' Prf.all_mk KX G hmg ?a0 ?l0 ?c0 ?k0 ?a1 ?l1 ?c1 ?k1 ?a2 ?l2 ?c2 ?k2 ?a3 ?l3 ?c3 ?k3 ?a4 ?l4 ?c4 ?k4 ?a5 ?l5 ?c5 ?k5 ?a6 ?l6 ?c6 ?k6 ?a7 ?l7 ?c7 ?k7 ?a8 ?l8 ?c8 ?k8 ?a9 ?l9 ?c9 ?k9 ?a10 ?l10 ?c10 ?k10 ?a11 ?l11 ?c11 ?k11 ?a12 ?l12 ?c12 ?k12 ?a13 ?l13 ?c13 ?k13 ?a14 ?l14 ?c14 ?k14 ?a15 ?l15 ?c15 ?Yj ?a16 ?l16 ?c16 ?Yi ?a17 ?l17 ?c17 ?Yh ?a18 ?l18 ?c18 ?RM ?a19 ?l19 ?c19 ?Yg ?a20 ?l20 ?c20 ?Ye ?a21 ?l21 ?c21 ?Yd ?a22 ?l22 ?c22 ?Yc ?a23 ?l23 ?c23 ?RL ?a24 ?l24 ?c24 ?Yb ?a25 ?l25 ?c25 ?X_ ?Ym ?hkp ?a26 ?l26 ?c26 ?X8 ?a27 ?l27 ?c27 ?X7 ?a28 ?l28 ?c28 ?X6 ?a29 ?l29 ?c29 ?X5 ?a30 ?l30 ?c30 ?X4 ?a31 ?l31 ?c31 ?k31 ?jN ?Hl ?Hj ?Hi ?z9 ?kO ?Hh ?jM ?Hg ?z8 ?Hf ?G_ ?vN ?rB ?vM
  (case a0=>k_is)
  (case l0=>k_is)
  (case c0=>k_is)
  (case k0=>k_is)
  (case a1=>k_is)
  (case l1=>k_is)
  (case c1=>k_is)
  (case k1=>k_is)
  (case a2=>k_is)
  (case l2=>k_is)
  (case c2=>k_is)
  (case k2=>k_is)
  (case a3=>k_is)
  (case l3=>k_is)
  (case c3=>k_is)
  (case k3=>k_is)
  (case a4=>k_is)
  (case l4=>k_is)
  (case c4=>k_is)
  (case k4=>k_is)
  (case a5=>k_is)
  (case l5=>k_is)
  (case c5=>k_is)
  (case k5=>k_is)
  (case a6=>k_is)
  (case l6=>k_is)
  (case c6=>k_is)
  (case k6=>k_is)
  (case a7=>k_is)
  (case l7=>k_is)
  (case c7=>k_is)
  (case k7=>k_is)
  (case a8=>k_is)
  (case l8=>k_is)
  (case c8=>k_is)
  (case k8=>k_is)
  (case a9=>k_is)
  (case l9=>k_is)
  (case c9=>k_is)
  (case k9=>k_is)
  (case a10=>k_is)
  (case l10=>k_is)
  (case c10=>k_is)
  (case k10=>k_is)
  (case a11=>k_is)
  (case l11=>k_is)
  (case c11=>k_is)
  (case k11=>k_is)
  (case a12=>k_is)
  (case l12=>k_is)
  (case c12=>k_is)
  (case k12=>k_is)
  (case a13=>k_is)
  (case l13=>k_is)
  (case c13=>k_is)
  (case k13=>k_is)
  (case a14=>k_is)
  (case l14=>k_is)
  (case c14=>k_is)
  (case k14=>k_is)
  (case a15=>k_is)
  (case l15=>k_is)
  (case c15=>k_is)
  (case Yj=>k_is)
  (case a16=>k_is)
  (case l16=>k_is)
  (case c16=>k_is)
  (case Yi=>k_is)
  (case a17=>k_is)
  (case l17=>k_is)
  (case c17=>k_is)
  (case Yh=>k_is)
  (case a18=>k_is)
  (case l18=>k_is)
  (case c18=>k_is)
  (case RM=>k_is)
  (case a19=>k_is)
  (case l19=>k_is)
  (case c19=>k_is)
  (case Yg=>k_is)
  (case a20=>k_is)
  (case l20=>k_is)
  (case c20=>k_is)
  (case Ye=>k_is)
  (case a21=>k_is)
  (case l21=>k_is)
  (case c21=>k_is)
  (case Yd=>k_is)
  (case a22=>k_is)
  (case l22=>k_is)
  (case c22=>k_is)
  (case Yc=>k_is)
  (case a23=>k_is)
  (case l23=>k_is)
  (case c23=>k_is)
  (case RL=>k_is)
  (case a24=>k_is)
  (case l24=>k_is)
  (case c24=>k_is)
  (case Yb=>k_is)
  (case a25=>k_is)
  (case l25=>k_is)
  (case c25=>k_is)
  (case X_=>k_is)
  (case Ym=>kernel_rfl)
  (case hkp=>kernel_rfl)
  (case a26=>k_is)
  (case l26=>k_is)
  (case c26=>k_is)
  (case X8=>k_is)
  (case a27=>k_is)
  (case l27=>k_is)
  (case c27=>k_is)
  (case X7=>k_is)
  (case a28=>k_is)
  (case l28=>k_is)
  (case c28=>k_is)
  (case X6=>k_is)
  (case a29=>k_is)
  (case l29=>k_is)
  (case c29=>k_is)
  (case X5=>k_is)
  (case a30=>k_is)
  (case l30=>k_is)
  (case c30=>k_is)
  (case X4=>k_is)
  (case a31=>k_is)
  (case l31=>k_is)
  (case c31=>k_is)
  (case k31=>k_is)
  (case jN=>k_is)
  (case Hl=>k_is)
  (case Hj=>k_is)
  (case Hi=>k_is)
  (case z9=>k_is)
  (case kO=>k_is)
  (case Hh=>k_is)
  (case jM=>k_is)
  (case Hg=>k_is)
  (case z8=>k_is)
  (case Hf=>k_is)
  (case G_=>k_is)
  (case vN=>k_is)
  (case rB=>k_is)
  (case vM=>k_is)
#print axioms PySem.Challenge.cw_fewnotes_k34_whole_strict_notes_are_enou_holds
