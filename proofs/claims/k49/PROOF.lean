import PyProof.Rows.All
import Wide.All
import OpenK.AllK
import Wide.FinOn
import Lean
import PyProof.EqAt
import PyProof.EqKinds
import PyProof.TupleCall
import PyProof.EqLayable
import PyProof.ExcArgsOwn
import PyProof.ExcAttrAll.Exception
import PyProof.RulesAs
import PyProof.ExcBaseAll.ValueError
import PyProof.NsDelKeeps
import KE.KRevSl
import OpenK.KOps
import OpenK.KWalk
import KE.KCallOwn
import PySem.Challenge.RW_fewnotes_k49_no_such_hand
set_option Elab.async false
set_option linter.all false
set_option maxRecDepth 100000
namespace L2
open PySem PySem.Spec PyProof.Rows
abbrev Key:=Sum Int Str
def w6:Key->Value->Bool
 | .inl k,v=>Value.isInt k v
 | .inr x,v=>Value.isStrOf x v
def aez (w:World):Key->Int
 | .inl k=>hashInt k
 | .inr x=>hashStr w x
theorem dB:∀{k:Key} {v:Value},w6 k v=true->(∃i t,k=Sum.inl i/\v=Value.int i t)\/(∃x t,k=Sum.inr x/\v=Value.str x t)
 | .inl i,v,h=>by
   obtain ⟨t,e⟩:=Value.isInt_shape (k:=i) (v:=v) h;exact .inl ⟨i,t,rfl,e⟩
 | .inr x,v,h=>by
   obtain ⟨t,e⟩:=Value.isStrOf_shape (x:=x) (v:=v) h;exact .inr ⟨x,t,rfl,e⟩
theorem Km (i:Int) (t:Tok):w6 (.inl i) (.int i t)=true:=by simp [w6,Value.isInt]
theorem Kl (x:Str) (t:Tok):w6 (.inr x) (.str x t)=true:=by simp [w6,Value.isStrOf]
theorem V0 (a b:Int):decide ((Sum.inl a:Key)=Sum.inl b)=(a==b):=by
 by_cases e:a=b
 ·subst e;simp
 ·have h:¬(Sum.inl a:Key)=Sum.inl b:=fun q=>e (Sum.inl.inj q)
  rw [decide_eq_false h];exact (beq_eq_false_iff_ne.mpr e).symm
theorem VN (a b:Str):decide ((Sum.inr a:Key)=Sum.inr b)=decide (a=b):=by
 by_cases e:a=b
 ·subst e;simp
 ·have h:¬(Sum.inr a:Key)=Sum.inr b:=fun q=>e (Sum.inr.inj q)
  rw [decide_eq_false h,decide_eq_false e]
theorem VR (a:Int) (b:Str):decide ((Sum.inl a:Key)=Sum.inr b)=false:=decide_eq_false (fun q=>nomatch q)
theorem VP (a:Str) (b:Int):decide ((Sum.inr a:Key)=Sum.inl b)=false:=decide_eq_false (fun q=>nomatch q)
def cJ (prog:Program) (w:World):PySem.KeyKind prog w Key where
 is:=w6
 hash:=aez w
 inj:=fun v a b ha hb=>by
  rcases dB ha with ⟨i,t,rfl,rfl⟩|⟨x,t,rfl,rfl⟩
  ·rcases dB hb with ⟨j,u,rfl,e⟩|⟨y,u,rfl,e⟩
   ·injection e with e1 _;rw [e1]
   ·exact nomatch e
  ·rcases dB hb with ⟨j,u,rfl,e⟩|⟨y,u,rfl,e⟩
   ·exact nomatch e
   ·injection e with e1 _;rw [e1]
 byValue:=fun k v h=>by
  rcases dB h with ⟨i,t,rfl,rfl⟩|⟨x,t,rfl,rfl⟩<;>rfl
 pyHash:=fun hv h=>by
  rcases dB hv with ⟨i,t,rfl,rfl⟩|⟨x,t,rfl,rfl⟩
  ·exact wpAny_pyHash_int h
  ·exact wpAny_pyHash_str h
 eqBool:=fun hu hv h=>by
  rcases dB hu with ⟨i,t,rfl,rfl⟩|⟨x,t,rfl,rfl⟩
  ·rcases dB hv with ⟨j,u,rfl,rfl⟩|⟨y,u,rfl,rfl⟩
   ·rw [V0] at h;exact wpAny_eqBool_int h
   ·rw [VR] at h;exact SeqAt.EqAt.int_str i t y u _ _ _ _ h
  ·rcases dB hv with ⟨j,u,rfl,rfl⟩|⟨y,u,rfl,rfl⟩
   ·rw [VP] at h;exact SeqAt.EqAt.str_int x t j u _ _ _ _ h
   ·rw [VN] at h;exact wpAny_eqBool_str h
 «strs» :=fun k x t v h=>by
  rcases dB h with ⟨i,u,rfl,e⟩|⟨y,u,rfl,e⟩
  ·exact nomatch e
  ·injection e with e1 _
   subst e1;cases v<;>rfl
theorem GD (prog:Program) (w:World) (k:Key) (v:Value):(cJ prog w).is k v=w6 k v:=rfl
theorem CW (prog:Program) (w:World) (i:Int) (t:Tok):(cJ prog w).is (.inl i) (.int i t)=true:=Km i t
theorem CV (prog:Program) (w:World) (x:Str) (t:Tok):(cJ prog w).is (.inr x) (.str x t)=true:=Kl x t
end L2
namespace L2
open PySem PySem.Spec PyProof.Rows
inductive V where
 | non|bl (b:Bool)|int (i:Int)|str (x:Str)|Ho (b:Array UInt8)|flt (b:UInt64)|ref (a:Addr)|ty (n:String)
 deriving DecidableEq
def RelV:V->Value->Prop
 | .non,u=>u=Value.none
 | .bl b,u=>u=Value.bool b
 | .int i,u=>∃t,u=Value.int i t
 | .str x,u=>∃t,u=Value.str x t
 | .Ho b,u=>∃t,u=Value.bytes b t
 | .flt b,u=>∃t,u=Value.float b t
 | .ref a,u=>u=Value.ref a
 | .ty n,u=>u=Value.type n
abbrev Vals:List V->List Value->Prop:=Paired RelV
theorem Vals.length {xs:List V} {us:List Value} (r:Vals xs us):xs.length=us.length:=Paired.length r
theorem Vals.get:∀{xs:List V} {us:List Value} {i:Nat} {x:V},Vals xs us->xs[i]? = some x -> ∃u,us[i]? = some u/\RelV x u
 | _,_,_,_,.nil,e=>by simp at e
 | _,_,0,_,.cons r _,e=>by simp at e;subst e;exact ⟨_,rfl,r⟩
 | _,_,i+1,x,.cons _ t,e=>by
   obtain ⟨u,h1,h2⟩:=Vals.get (i:=i) (x:=x) t (by simpa using e);exact ⟨u,by simpa using h1,h2⟩
theorem Vals.set {x:V} {u:Value} (r:RelV x u):∀{xs:List V} {us:List Value} (i:Nat),Vals xs us->Vals (xs.set i x) (us.set i u)
 | _,_,_,.nil=> .nil
 | _,_,0,.cons _ t=> .cons r t
 | _,_,i+1,.cons q t=> .cons q (Vals.set r i t)
theorem Vals.append {xs ys:List V} {us ws:List Value} (h:Vals xs us) (s:Vals ys ws):Vals (xs++ys) (us++ws):=by
 induction h with
 | nil=>exact s
 | cons r t ih=>exact .cons r ih
theorem Vals.take:∀{xs:List V} {us:List Value} (n:Nat),Vals xs us->Vals (xs.take n) (us.take n)
 | _,_,0,_=> .nil
 | _,_,_+1,.nil=> .nil
 | _,_,n+1,.cons r t=> .cons r (Vals.take n t)
theorem Vals.drop:∀{xs:List V} {us:List Value} (n:Nat),Vals xs us->Vals (xs.drop n) (us.drop n)
 | _,_,0,r=>r
 | _,_,_+1,.nil=> .nil
 | _,_,n+1,.cons _ t=>Vals.drop n t
def m8:Option V->Option Value->Prop
 | some v,some u=>RelV v u
 | none,none=>True
 | _,_=>False
def KV {κ:Type}:List (κ×V)->List (κ×Value)->Prop:=Paired fun (p:κ×V) (q:κ×Value)=>p.1=q.1/\RelV p.2 q.2
def kV:Key->V
 | .inl i=> .int i
 | .inr x=> .str x
inductive HO where
 | lst (xs:List V)
 | tup (xs:List V)
 | dK (kvs:List (Key×V))|dT (kvs:List (List Key×V))
 | set (S:Int->Bool) (n:Nat)
 | ins (C dx:Addr) (fs:List (Str×V))
 | own (x:Addr)
 | xd (fs:List (Str×V))
 | met (f x:Addr)
 | rng (lo hi:Int)
 | m6 (o:Obj) (u:HO)
 | QF (ps:Array Value)
 | ext (φ:Heap->Prop)
abbrev Hp:=Addr->Option HO
def upd (H:Hp) (a:Addr) (o:HO):Hp:=fun b=>if b=a then some o else H b
theorem aq {H:Hp} {a:Addr} {o:HO}:upd H a o a=some o:=by unfold upd;rw [if_pos rfl]
theorem aN {H:Hp} {a b:Addr} {o:HO} (h:b≠a):upd H a o b=H b:=by unfold upd;rw [if_neg h]
theorem QC {H:Hp} {a:Addr} {o u:HO}:upd (upd H a o) a u=upd H a u:=by
 funext b;unfold upd;split<;>rfl
theorem uO {H:Hp} {a b:Addr} {o u:HO} (h:H a=some o) (h':H b=some u) (d:o≠u):a≠b:=by
 intro e;subst e;rw [h] at h';exact d (Option.some.inj h')
theorem aB {H:Hp} {a b:Addr} {o:HO} (h:H a=some o) (h':H b=none):a≠b:=by
 intro e;subst e;rw [h] at h';cases h'
section
variable (P:Program) (w:World)
def cM (H:Hp) (h:Heap) (a:Addr):HO->Prop
 | .lst xs=>xs.length<=sizeLine /\ ∃(its:List Value) (n:Nat),Vals xs its/\h.get? a=some {cls:= .type "list",data:= .seq its.toArray n}
 | .tup xs=>xs.length<=sizeLine /\ ∃its:List Value,Vals xs its/\IsTup h a its.toArray
 | .dK kvs=>kvs.length<=sizeLine/\(a==sysModules)=false /\ ∃vs,KV kvs vs/\h.DictOf (cJ P w) a vs
 | .dT kvs=>kvs.length<=sizeLine/\(a==sysModules)=false /\ ∃xs:List (List Key×Addr×Value),
    Paired (fun (p:List Key×V) (q:List Key×Addr×Value)=>p.1=q.1/\H q.2.1=some (.tup (p.1.map kV))/\RelV p.2 q.2.2) kvs xs /\
    ∃o es ep,h.get? a=some o/\o.ExactDict/\o.data = .dict es ep/\es.toList=xs.map (entryOfKey (tupleKind (cJ P w)))/\(xs.map (·.1)).Nodup
 | .set S n=>h.SetOf (intKind P w) a S n
 | .ins C dx fs=>H dx=some (.own a)/\fs.length<=1000/\dx≠a/\h.get? a=some (PySem.W.instObj C dx) /\
    ∃mA,h.Ns1 dx mA/\(∀f,m8 (fs.lookup f) (mA f))/\PySem.Within mA (fs.map (·.1))
 | .own _=>∃o,h.get? a=some o
 | .xd fs=>∃mA,h.Ns1 a mA /\ ∀f,m8 (fs.lookup f) (mA f)
 | .rng lo hi=>∃t u v,h.get? a=some {cls:= .type "range",data:= .fields #[.int lo t,.int hi u,.int 1 v]}
 | .m6 o u=>h.get? a=some o/\cM H h a u
 | .QF ps=>h.get? a=some {cls:= .none,data:= .fields ps}
 | .met f x=>h.get? a=some (PySem.W.methodObj (.ref f) (.ref x))
 | .ext φ=>φ h/\(∃o,h.get? a=some o) /\ ∀h1 h2:Heap,φ h1->(∀o,h1.get? a=some o->h2.get? a=some o)->φ h2
def qU (H:Hp) (h:Heap):Prop:=∀a o,H a=some o->cM P w H h a o
end
section
variable {P:Program} {w:World} {H H':Hp} {h h':Heap} {a:Addr} {o:HO}
theorem cM.lt (x:cM P w H h a o):a<h.objs.size:=by
 cases o with
 | lst xs=>obtain ⟨_,_,_,_,e⟩:=x;exact Heap.lt_size e
 | tup xs=>obtain ⟨_,_,_,p⟩:=x;exact p.lt
 | dK kvs=>obtain ⟨_,_,_,_,o,_,_,e,_⟩:=x;exact Heap.lt_size e
 | dT kvs=>obtain ⟨_,_,_,_,o,_,_,e,_⟩:=x;exact Heap.lt_size e
 | set S n=>obtain ⟨o,_,_,_,e,_⟩:=x;exact Heap.lt_size e
 | ins C dx fs=>obtain ⟨_,_,_,e,_⟩:=x;exact Heap.lt_size e
 | own y=>obtain ⟨_,e⟩:=x;exact Heap.lt_size e
 | xd fs=>obtain ⟨_,⟨_,_,_,e,_⟩,_⟩:=x;exact Heap.lt_size e
 | rng lo hi=>obtain ⟨_,_,_,e⟩:=x;exact Heap.lt_size e
 | m6 ob u=>obtain ⟨e,_⟩:=x;exact Heap.lt_size e
 | QF ps=>exact Heap.lt_size (show h.get? a=some _ from x)
 | met f y=>exact Heap.lt_size (show h.get? a=some _ from x)
 | ext φ=>obtain ⟨_,⟨_,e⟩,_⟩:=x;exact Heap.lt_size e
theorem Paired.Ym {α β:Type} {F G:α->β->Prop}:∀{l₁:List α} {l₂:List β},Paired F l₁ l₂->(∀a b,F a b->G a b)->Paired G l₁ l₂
 :=by
 intro l₁ l₂ h f
 induction h with
 | nil=>exact .nil
 | cons r t ih=>exact .cons (f _ _ r) ih
theorem cM.stay (x:cM P w H h a o) (k:∀b u,(b=a\/H b=some (.own a))->h.get? b=some u->h'.get? b=some u)
 (ho:∀b,H b=some (.own a)->H' b=some (.own a)) (ht:∀b xs,H b=some (.tup xs)->H' b=some (.tup xs)):cM P w H' h' a o:=by
 induction o with
 | lst xs=>obtain ⟨z,its,n,r,e⟩:=x;exact ⟨z,its,n,r,k _ _ (.inl rfl) e⟩
 | tup xs=>obtain ⟨z,its,r,ob,e,c⟩:=x;exact ⟨z,its,r,ob,k _ _ (.inl rfl) e,c⟩
 | dK kvs=>obtain ⟨z,y,vs,r,ob,es,ep,e,c⟩:=x;exact ⟨z,y,vs,r,ob,es,ep,k _ _ (.inl rfl) e,c⟩
 | dT kvs=>
   obtain ⟨z,y,xs,r,ob,es,ep,e,c⟩:=x;exact ⟨z,y,xs,Paired.Ym r fun p q z=>⟨z.1,ht _ _ z.2.1,z.2.2⟩,ob,es,ep,k _ _ (.inl rfl) e,c⟩
 | set S n=>obtain ⟨ob,es,ep,t,e,c⟩:=x;exact ⟨ob,es,ep,t,k _ _ (.inl rfl) e,c⟩
 | ins C dx fs=>
   obtain ⟨d,z,ne,e,mA,⟨od,es,ep,e2,c⟩,r⟩:=x;exact ⟨ho _ d,z,ne,k _ _ (.inl rfl) e,mA,⟨od,es,ep,k _ _ (.inr d) e2,c⟩,r⟩
 | own y=>obtain ⟨ob,e⟩:=x;exact ⟨ob,k _ _ (.inl rfl) e⟩
 | xd fs=>obtain ⟨mA,⟨od,es,ep,e,c⟩,r⟩:=x;exact ⟨mA,⟨od,es,ep,k _ _ (.inl rfl) e,c⟩,r⟩
 | rng lo hi=>obtain ⟨t,u,v,e⟩:=x;exact ⟨t,u,v,k _ _ (.inl rfl) e⟩
 | m6 ob u ih=>obtain ⟨e,q⟩:=x;exact ⟨k _ _ (.inl rfl) e,ih q⟩
 | QF ps=>
   have e:h.get? a=some {cls:= .none,data:= .fields ps}:=x;show h'.get? a=some {cls:= .none,data:= .fields ps};exact k a _ (.inl rfl) e
 | met f y=>
   have e:h.get? a=some (PySem.W.methodObj (.ref f) (.ref y)):=x;show h'.get? a=some (PySem.W.methodObj (.ref f) (.ref y));exact k a _ (.inl rfl) e
 | ext φ=>obtain ⟨p,⟨o,e⟩,st⟩:=x;exact ⟨st _ _ p fun o q=>k _ _ (.inl rfl) q,⟨o,k _ _ (.inl rfl) e⟩,st⟩
theorem qU.lt (x:qU P w H h) (e:H a=some o):a<h.objs.size:=(x a o e).lt
theorem qU.fresh (x:qU P w H h) (e:h.objs.size<=a):H a=none:=by
 cases q:H a with
 | none=>rfl
 | some u=>exact absurd (Nat.lt_of_lt_of_le (x.lt q) e) (Nat.lt_irrefl _)
theorem qU.kept (x:qU P w H h) (k:∀b u,h.get? b=some u->h'.get? b=some u):qU P w H h':=fun a o e=>
 (x a o e).stay (fun b u _ q=>k b u q) (fun _ q=>q) fun _ _ q=>q
theorem qU.laid (x:qU P w H h) (k:∀b u,h.get? b=some u->h'.get? b=some u) (hp:h.objs.size<=a) (new:cM P w (upd H a o) h' a o):qU P w (upd H a o) h':=fun b u e=>by
 have hn:=x.fresh hp
 by_cases hb:b=a
 ·subst hb;rw [aq] at e;cases e;exact new
 ·rw [aN hb] at e
  exact (x b u e).stay (fun c v _ q=>k c v q) (fun c q=>by rw [aN (aB q hn)];exact q) fun c xs q=>by rw [aN (aB q hn)];exact q
end
def Rd (H:Hp) (a:Addr) (u:HO):Prop:=H a=some u \/ ∃o,H a=some (.m6 o u)
theorem Rd.ok {P:Program} {w:World} {H:Hp} {h:Heap} {a:Addr} {u:HO} (r:Rd H a u) (x:qU P w H h):cM P w H h a u:=by
 rcases r with r|⟨o,r⟩
 ·exact x a u r
 ·obtain ⟨_,q⟩:=x a _ r
  exact q
def Z7:Option HO->Prop
 | some (.lst _)=>True
 | some (.dK _)=>True
 | some (.dT _)=>True
 | some (.set _ _)=>True
 | some (.ins _ _ _)=>True
 | some (.ext _)=>True
 | _=>False
section
variable {P:Program} {w:World} {H:Hp} {h h':Heap} {x e:Addr} {o':HO}
theorem qU.write (ok:qU P w H h) (mu:Z7 (H x)) (he:e=x\/H e=some (.own x)) (k:∀b u,b≠e->h.get? b=some u->h'.get? b=some u) (heo:∃u,h'.get? e=some u)
 (new:cM P w (upd H x o') h' x o'):qU P w (upd H x o') h':=fun b u q=>by
 have Ye:∀c y,H c=some (.own y)->c≠x:=fun c y r z=>by subst z;rw [r] at mu;exact mu
 have adW:∀c xs,H c=some (.tup xs)->c≠x:=fun c xs r z=>by subst z;rw [r] at mu;exact mu
 by_cases hb:b=x
 ·subst hb;rw [aq] at q;cases q;exact new
 ·rw [aN hb] at q
  by_cases hbe:b=e
  ·have q':H b=some (.own x):=by
    rcases he with z|z
    ·exact absurd (hbe.trans z) hb
    ·rw [hbe];exact z
   rw [q] at q';cases q';obtain ⟨v,hv⟩:=heo;exact ⟨v,by rw [hbe];exact hv⟩
  ·refine (ok b u q).stay (fun c v hc r=>k c v ?_ r) (fun c r=>by rw [aN (Ye c b r)];exact r) fun c xs r=>by rw [aN (adW c xs r)];exact r
   rcases hc with rfl|hc
   ·exact hbe
   ·rintro rfl
    rcases he with z|z
    ·exact Ye c b hc z
    ·rw [hc] at z;cases z;exact hb rfl
end
structure Un (fs ex:List Addr) (H H':Hp) (h h':Heap):Prop where
 keep:∀b o,h.get? b=some o->H b=none->b∉fs->b∉ex->h'.get? b=some o
 slot:∀b o,h.get? b=some o->H b=none->b∈fs->b∉ex -> ∃sl,h'.get? b=some {o with slots:=sl}
 free:∀b o,h.get? b=some o->H b=none->b∉ex->H' b=none
 there:∀b o,h.get? b=some o->b∉ex -> ∃o',h'.get? b=some o'
 tups:∀b xs,H b=some (.tup xs)->H' b=some (.tup xs)
 pH:∀b o u,H b=some (.m6 o u)->H' b=some (.m6 o u)
 rB:∀b ps,H b=some (.QF ps) -> ∃more,H' b=some (.QF (ps++more))
section
variable {fs fs' ex ex':List Addr} {H H1 H2:Hp} {h h1 h2 h':Heap} {a x e:Addr} {o:HO}
theorem Un.any (u:Un fs ex H H1 h h1) {b:Addr} {ob:Obj} (q:h.get? b=some ob) (n:H b=none) (hx:b∉ex):∃sl,h1.get? b=some {ob with slots:=sl}:=by
 by_cases hb:b∈fs
 ·exact u.slot b ob q n hb hx
 ·exact ⟨ob.slots,u.keep b ob q n hb hx⟩
theorem Un.kept (k:∀b u,h.get? b=some u->h'.get? b=some u):Un fs ex H H h h':=
 ⟨fun b ob q _ _ _=>k b ob q,fun b ob q _ _ _=>⟨ob.slots,k b ob q⟩,fun _ _ _ n _=>n,fun b ob q _=>⟨ob,k b ob q⟩,fun _ _ q=>q,fun _ _ _ q=>q,fun _ ps q=>⟨#[],by rw [q];simp⟩⟩
theorem Un.refl:Un fs ex H H h h:=Un.kept fun _ _ q=>q
theorem Un.laid (k:∀b u,h.get? b=some u->h'.get? b=some u) (hp:h.objs.size<=a) (hn:H a=none):Un fs ex H (upd H a o) h h' where
 keep:=fun b u q _ _ _=>k b u q
 slot:=fun b u q _ _ _=>⟨u.slots,k b u q⟩
 free:=fun b u q n _=>by rw [aN (Nat.ne_of_lt (Nat.lt_of_lt_of_le (Heap.lt_size q) hp))];exact n
 there:=fun b u q _=>⟨u,k b u q⟩
 tups:=fun b xs q=>by rw [aN (aB q hn)];exact q
 pH:=fun b u xs q=>by rw [aN (aB q hn)];exact q
 rB:=fun b ps q=>⟨#[],by rw [aN (aB q hn),q];simp⟩
theorem Un.write (mu:Z7 (H x)) (he:e=x\/H e=some (.own x)) (k:∀b u,b≠e->h.get? b=some u->h'.get? b=some u) (heo:∃u,h'.get? e=some u):Un fs ex H (upd H x o) h h':=by
 have hx:∀b,H b=none->b≠x:=fun b n z=>by subst z;rw [n] at mu;exact mu
 have hb:∀b,H b=none->b≠e:=fun b n z=>by
  subst z;rcases he with r|r
  ·exact hx b n r
  ·rw [n] at r;cases r
 have hm:∀b u,H b=some u -> ¬Z7 (some u)->b≠x:=fun b u q nm z=>by subst z;rw [q] at mu;exact nm mu
 refine ⟨fun b u q n _ _=>k b u (hb b n) q,fun b u q n _ _=>⟨u.slots,k b u (hb b n) q⟩,fun b u q n _=>by rw [aN (hx b n)];exact n,fun b u q _=> ?_,
  fun b xs q=>by rw [aN (hm b _ q fun z=>z)];exact q,fun b u xs q=>by rw [aN (hm b _ q fun z=>z)];exact q,fun b ps q=>⟨#[],by rw [aN (hm b _ q fun z=>z),q];simp⟩⟩
 by_cases hbe:b=e
 ·subst hbe;exact heo
 ·exact ⟨u,k b u hbe q⟩
end
def Qp (h:Heap) (H:Hp):List Addr:=(List.range h.objs.size).filter fun a=>(H a).isSome
def Am (h:Heap) (H:Hp):Heap:=PySem.W.hideAll h (Qp h H)
theorem Ky (h:Heap) (H:Hp):(Am h H).objs.size=h.objs.size:=PySem.W.hideAll_size _ _
theorem Ow {h:Heap} {H:Hp} {b:Addr} {o:Obj} (e:h.get? b=some o) (n:H b=none):(Am h H).get? b=some o:=
 PySem.W.hideAll_get _ e fun hm=>by
  have q:(H b).isSome=true:=(List.mem_filter.mp hm).2;rw [n] at q;simp at q
theorem Rx {h:Heap} {H:Hp} {b:Addr} {o:Obj} (e:(Am h H).get? b=some o):h.get? b=some o/\H b=none:=by
 have e':h.get? b=some o:=PySem.W.of_hideAll (Qp h H) e;refine ⟨e', ?_⟩;cases q:H b with
 | none=>rfl
 | some x=>
   have hm:b∈Qp h H:=List.mem_filter.mpr ⟨List.mem_range.mpr (Heap.lt_size e'),by simp [q]⟩;have z:(Am h H).get? b=none:=PySem.W.hideAll_none (Qp h H) hm;rw [z] at e;cases e
def Tf (g h:Heap) (L:Addr):List (Addr×Obj):=(List.range h.objs.size).filterMap fun a=>if a=L\/(g.get? a).isSome=true then none else (h.get? a).map fun o=>(a,o)
def rest (g h:Heap) (L d:Addr):List (Addr×Obj):=(Tf g h L).filter fun p=>decide (p.1≠d)
end L2
namespace L2
open PySem PySem.Spec PyProof.Rows
structure Mod (K:PySem.W.Frag) (mg:Str->Option Value) (base:Heap):Prop where
 Ol:K.In base
 glob:base.Ns mainGlobals mg
 blt:∃mb,base.Ns builtinsNs mb /\ ∀x:Str,x ≠ "__name__" -> mb x=bootBuiltins x
 nolimit:base.NoLimit
structure Cx where
 prog:Program
 w:World
 K:PySem.W.Frag
 mg:Str->Option Value
 base:Heap
 A:Around
 N:List Str
 s₀:Shared
 H₀:Hp
 env:Env
 outer:List Env
 stack:List Env
 ex:List Addr
 fn:Str->Bool
 calm:Bool
 pn:List (Addr×Obj)
 xe:Value->Shared->Prop
def frs (l:List Env):List Addr:=l.filterMap (·.frame)
abbrev Cx.fs (X:Cx):List Addr:=frs X.outer
def Vis (sc:Scope) (x:Str):Prop:=sc.names.lookup x=some .local\/sc.names.lookup x=some .cell\/sc.names.lookup x=some .free
def Loc (sc:Scope) (x:Str):Prop:=sc.names.lookup x=some .local\/sc.names.lookup x=some .cell
def Look (env:Env) (h:Heap) (m:Str->Option Value) (x:Str) (u:Value):Prop:=
 (env.kindOf x=some .local/\m x=some u)\/((env.kindOf x=some .cell\/env.kindOf x=some .free) /\ ∃c,env.cells.lookup x=some c/\h.IsCell c (some u))
structure Cx.Ok (X:Cx):Prop where
 mod:Mod X.K X.mg X.base
 kind:X.env.scope.kind = .function
 glob:X.env.globals=mainGlobals
 blt:X.env.builtins=builtinsNs
 above:X.s₀.heap.objs.size<=X.env.locals
 inj:∀x y c,X.env.cells.lookup x=some c->X.env.cells.lookup y=some c->x=y
 has:∀x,(X.env.kindOf x=some .cell\/X.env.kindOf x=some .free) -> ∃c,X.env.cells.lookup x=some c
 cab:∀x c,X.fn x=true->X.env.cells.lookup x=some c->X.s₀.heap.objs.size<=c
 hd:X.calm=true->X.A.handled=none
 frames:X.A.frames=some X.stack
 stk:X.stack=X.outer\/(X.stack=X.env::X.outer/\X.env.frame=some X.env.locals)
 W_:∀b∈X.ex,b≠X.env.locals /\ ∀x c,X.env.cells.lookup x=some c->c≠b
 bs:∀b o,X.base.get? b=some o->X.s₀.heap.get? b=some o/\X.H₀ b=none
 Eb:X.base.objs.size<=X.s₀.heap.objs.size
 yN:∀b o,X.base.get? b=some o->b∉X.ex
 DG:∀b∈X.ex,b∉X.fs
 m5:X.s₀.heap.FunFrames X.base X.outer
 Lr:∀b∈X.fs,X.H₀ b=none
structure Inv (X:Cx) (pins:List (Addr×Obj)) (σ:List (Option V)) (H:Hp) (s:Shared):Prop where
 ok:X.Ok
 os:s.os=X.s₀.os
 bare:AllBare s.gens
 base:Un X.fs X.ex X.H₀ H X.s₀.heap s.heap
 loc:∃m,s.heap.Ns X.env.locals m /\ ∀(i:Nat) (x:Str) (v:V),X.N[i]? = some x->σ[i]? = some (some v)->Vis X.env.scope x -> ∃u,RelV v u/\Look X.env s.heap m x u
 cell:∀x c,X.env.cells.lookup x=some c -> ∃v,s.heap.IsCell c v
 free:H X.env.locals=none
 gO:∀x c,X.env.cells.lookup x=some c->H c=none
 pin:∀p∈X.pn++pins,s.heap.get? p.1=some p.2/\H p.1=none/\p.1≠X.env.locals/\p.1∉X.fs /\ ∀v,p.2.data ≠ .cell v
 hok:qU X.prog X.w H s.heap
 len:σ.length=X.N.length
section
variable {X:Cx} {pins:List (Addr×Obj)} {σ:List (Option V)} {H H':Hp} {s:Shared} {h':Heap}
theorem Cx.Ok.ad5 (ok:X.Ok) {b:Addr} {o:Obj} (e:X.base.get? b=some o):b∉X.fs:=fun hb=>by
 have:=(ok.m5.mem hb).1;rw [e] at this;cases this
theorem Inv.bs (I:Inv X pins σ H s):∀b o,X.base.get? b=some o->s.heap.get? b=some o/\H b=none:=fun b o e=>
 ⟨I.base.keep b o (I.ok.bs b o e).1 (I.ok.bs b o e).2 (I.ok.ad5 e) (I.ok.yN b o e),I.base.free b o (I.ok.bs b o e).1 (I.ok.bs b o e).2 (I.ok.yN b o e)⟩
theorem Inv.bk (I:Inv X pins σ H s):∀b o,X.base.get? b=some o->s.heap.get? b=some o:=fun b o e=>(I.bs b o e).1
theorem Inv.mod (I:Inv X pins σ H s):Mod X.K X.mg X.base:=I.ok.mod
theorem Inv.lF (I:Inv X pins σ H s):X.K.In s.heap:=I.ok.mod.Ol.keeps I.bk
theorem Inv.fr (I:Inv X pins σ H s):∃m,Fr X.base X.env.locals s.heap m:=
 let ⟨m,hn,_⟩:=I.loc
 ⟨m,hn,I.bk,Nat.le_trans I.ok.Eb I.ok.above⟩
theorem Inv.lt (I:Inv X pins σ H s):X.env.locals<s.heap.objs.size:=let ⟨_,hn,_⟩:=I.loc;hn.lt
theorem Inv.sz (I:Inv X pins σ H s):X.s₀.heap.objs.size<=s.heap.objs.size:=Nat.le_trans I.ok.above (Nat.le_of_lt I.lt)
theorem Inv.ad4 (I:Inv X pins σ H s) {a:Addr} (h:s.heap.objs.size<=a):a∉X.fs:=fun hb=>by
 obtain ⟨_,o,ho,_⟩:=I.ok.m5.mem hb;exact absurd (Nat.lt_of_lt_of_le (Heap.lt_size ho) (Nat.le_trans I.sz h)) (Nat.lt_irrefl _)
theorem Inv.Us (I:Inv X pins σ H s):∀x c,X.env.cells.lookup x=some c->c≠X.env.locals:=fun x c e z=>by
 obtain ⟨v,o,ho,hd⟩:=I.cell x c e;obtain ⟨m,⟨o',es,ep,ho',hd',_⟩,_⟩:=I.loc;rw [z,ho'] at ho;cases ho;rw [hd'] at hd;cases hd
theorem Inv.m5 (I:Inv X pins σ H s):s.heap.FunFrames X.base X.outer:=by
 have all:∀(l:List Env),(∀b∈frs l,b∈X.fs)->X.s₀.heap.FunFrames X.base l->s.heap.FunFrames X.base l:=by
  intro l
  induction l with
  | nil=>intro _ _;trivial
  | cons env r ih=>
    intro hs hl;obtain ⟨hk,⟨L,o,hf,hn,ho,hd⟩,hr⟩:=hl;have hL:L∈X.fs:=hs L (by unfold frs;rw [List.filterMap_cons,hf];exact List.mem_cons_self);obtain ⟨sl,e⟩:=I.base.slot L o ho (I.ok.Lr L hL) hL fun z=>I.ok.DG L z hL;exact ⟨hk,⟨L,_,hf,hn,e,hd⟩,ih (fun b hb=>hs b (by unfold frs;rw [List.filterMap_cons,hf];exact List.mem_cons_of_mem _ hb)) hr⟩
 exact all X.outer (fun _ hb=>hb) I.ok.m5
theorem Inv.stack (I:Inv X pins σ H s):s.heap.FunFrames X.base X.stack:=by
 rcases I.ok.stk with e|⟨e,hf⟩
 ·rw [e];exact I.m5
 ·rw [e]
  obtain ⟨m,hn,_⟩:=I.loc;refine .cons (by rw [I.ok.kind];decide) hf hn ?_ I.m5;exact Heap.get?_none_of_le (Nat.le_trans I.ok.Eb I.ok.above)
theorem Inv.qD (I:Inv X pins σ H s):∀b∈frs X.stack,b∈X.env.locals::X.fs:=fun b hb=>by
 rcases I.ok.stk with e|⟨e,hf⟩
 ·rw [e] at hb;exact List.mem_cons_of_mem _ hb
 ·rw [e] at hb
  unfold frs at hb;rw [List.filterMap_cons,hf] at hb;exact hb
theorem Inv.vA (I:Inv X pins σ H s):∀b∈frs X.stack,H b=none:=fun b hb=>by
 rcases List.mem_cons.mp (I.qD b hb) with e|hb
 ·rw [e];exact I.free
 ·obtain ⟨_,o,ho,_⟩:=I.ok.m5.mem hb
  exact I.base.free b o ho (I.ok.Lr b hb) fun z=>I.ok.DG b z hb
theorem Inv.step {g':Array GenState} {t':Nat} {d':Drawn} {ch:List Addr} (I:Inv X pins σ H s)
 (hch:∀b∈ch,(b∈X.ex\/X.s₀.heap.objs.size<=b)/\b≠X.env.locals/\(∀x c,X.env.cells.lookup x=some c->c≠b) /\ ∀p∈X.pn++pins,p.1≠b)
 (keep:∀b o,b≠X.env.locals->b∉X.fs->b∉ch->s.heap.get? b=some o->H b=none->h'.get? b=some o)
 (slot:∀b o,b≠X.env.locals->b∈X.fs->b∉ch->s.heap.get? b=some o->H b=none -> ∃sl,h'.get? b=some {o with slots:=sl}) (free:∀b o,b∉ch->s.heap.get? b=some o->H b=none->H' b=none)
 (there:∀b o,b∉ch->s.heap.get? b=some o -> ∃o',h'.get? b=some o')
 (tups:∀b xs,H b=some (.tup xs)->H' b=some (.tup xs)) (pH:∀b o u,H b=some (.m6 o u)->H' b=some (.m6 o u)) (rB:∀b ps,H b=some (.QF ps) -> ∃more,H' b=some (.QF (ps++more)))
 (ns:∀m,s.heap.Ns X.env.locals m->h'.Ns X.env.locals m) (hok:qU X.prog X.w H' h') (hg:AllBare g'):
 Inv X pins σ H' {s with heap:=h',gens:=g',drawn:=d',toks:=t'}:=by
 have Uc:∀b o,X.s₀.heap.get? b=some o->b≠X.env.locals:=fun b o e=>Nat.ne_of_lt (Nat.lt_of_lt_of_le (Heap.lt_size e) I.ok.above)
 have neC:∀b o,X.s₀.heap.get? b=some o->b∉X.ex->b∉ch:=fun b o e hx hb=>by
  rcases (hch b hb).1 with z|z
  ·exact hx z
  ·exact absurd (Nat.lt_of_lt_of_le (Heap.lt_size e) z) (Nat.lt_irrefl _)
 have cellK:∀x c,X.env.cells.lookup x=some c -> ∀v,s.heap.IsCell c v->h'.IsCell c v:=fun x c e v ⟨o,ho,hd⟩=>by
  have Yj:c∉ch:=fun z=>(hch c z).2.2.1 x c e rfl
  by_cases hc:c∈X.fs
  ·obtain ⟨sl,q⟩:=slot c o (I.Us x c e) hc Yj ho (I.gO x c e)
   exact ⟨_,q,hd⟩
  ·exact ⟨o,keep c o (I.Us x c e) hc Yj ho (I.gO x c e),hd⟩
 refine ⟨I.ok,I.os,hg,⟨fun b o e n hb hx=> ?_,fun b o e n hb hx=> ?_,fun b o e n hx=> ?_,fun b o e hx=> ?_,fun b xs e=>tups b xs (I.base.tups b xs e),fun b o xs e=>pH b o xs (I.base.pH b o xs e),fun b ps e=> ?_⟩, ?_,fun x c e=> ?_, ?_,fun x c e=> ?_,fun p hp=> ?_,hok,I.len⟩
 ·exact keep b o (Uc b o e) hb (neC b o e hx) (I.base.keep b o e n hb hx) (I.base.free b o e n hx)
 ·obtain ⟨sl,e1⟩:=I.base.slot b o e n hb hx
  obtain ⟨sl',e2⟩:=slot b _ (Uc b o e) hb (neC b o e hx) e1 (I.base.free b o e n hx);exact ⟨sl',e2⟩
 ·obtain ⟨o',e1⟩:=I.base.there b o e hx
  exact free b o' (neC b o e hx) e1 (I.base.free b o e n hx)
 ·obtain ⟨o',e1⟩:=I.base.there b o e hx
  exact there b o' (neC b o e hx) e1
 ·obtain ⟨m1,e1⟩:=I.base.rB b ps e
  obtain ⟨m2,e2⟩:=rB b _ e1;exact ⟨m1++m2,by rw [e2,Array.append_assoc]⟩
 ·obtain ⟨m,hn,hl⟩:=I.loc
  refine ⟨m,ns m hn,fun i x v e1 e2 e3=> ?_⟩;obtain ⟨u,r,l⟩:=hl i x v e1 e2 e3;refine ⟨u,r, ?_⟩;rcases l with l|⟨k,c,e,z⟩
  ·exact .inl l
  ·exact .inr ⟨k,c,e,cellK x c e _ z⟩
 ·obtain ⟨v,z⟩:=I.cell x c e
  exact ⟨v,cellK x c e v z⟩
 ·obtain ⟨m,⟨o,_,_,ho,_⟩,_⟩:=I.loc
  exact free _ o (fun z=>(hch _ z).2.1 rfl) ho I.free
 ·obtain ⟨v,o,ho,hd⟩:=I.cell x c e
  exact free c o (fun z=>(hch c z).2.2.1 x c e rfl) ho (I.gO x c e)
 ·obtain ⟨e,n,ne,nf,d⟩:=I.pin p hp
  have Yj:p.1∉ch:=fun z=>(hch p.1 z).2.2.2 p hp rfl;exact ⟨keep p.1 p.2 ne nf Yj e n,free p.1 p.2 Yj e n,ne,nf,d⟩
theorem Inv.un {t':Nat} (I:Inv X pins σ H s) (u:Un X.fs [] H H' s.heap h') (hok:qU X.prog X.w H' h'):Inv X pins σ H' {s with heap:=h',toks:=t'}:=by
 obtain ⟨m,⟨o,es,ep,ho,r⟩,_⟩:=id I.loc;obtain ⟨sl,hL⟩:=u.any ho I.free (by simp)
 exact I.step (g':=s.gens) (d':=s.drawn) (ch:=[]) (fun _ z=>nomatch z) (fun b o _ hb _ e n=>u.keep b o e n hb (by simp)) (fun b o _ hb _ e n=>u.slot b o e n hb (by simp)) (fun b o _ e n=>u.free b o e n (by simp)) (fun b o _ e=>u.there b o e (by simp)) u.tups u.pH u.rB (fun m' hm=>by
  obtain ⟨o',es',ep',ho',r'⟩:=hm;rw [ho] at ho';cases ho';exact ⟨_,es',ep',hL,r'⟩) hok I.bare
theorem Inv.call {g':Array GenState} {t':Nat} {d':Drawn} {ch:List Addr} (I:Inv X pins σ H s) (u:Un (frs X.stack) ch H H' s.heap h') (hok:qU X.prog X.w H' h') (hg:AllBare g')
 (hch:∀b∈ch,(b∈X.ex\/X.s₀.heap.objs.size<=b)/\b≠X.env.locals/\(∀x c,X.env.cells.lookup x=some c->c≠b) /\ ∀p∈X.pn++pins,p.1≠b):
 Inv X pins σ H' {s with heap:=h',gens:=g',drawn:=d',toks:=t'}:=by
 obtain ⟨m,⟨o,es,ep,ho,r⟩,_⟩:=id I.loc;obtain ⟨sl,hL⟩:=u.any ho I.free fun z=>(hch _ z).2.1 rfl
 exact I.step (ch:=ch) hch (fun b o hL hb hc e n=>u.keep b o e n (fun z=>(List.mem_cons.mp (I.qD b z)).elim hL hb) hc) (fun b o _ _ hc e n=>u.any e n hc) (fun b o hc e n=>u.free b o e n hc) (fun b o hc e=>u.there b o e hc) u.tups u.pH u.rB (fun m' hm=>by
  obtain ⟨o',es',ep',ho',r'⟩:=hm;rw [ho] at ho';cases ho';exact ⟨_,es',ep',hL,r'⟩) hok hg
theorem Inv.turned {t':Nat} {it:Addr} (I:Inv X pins σ H s) (k:∀b o,b≠it->s.heap.get? b=some o->h'.get? b=some o) (hn:H it=none) (hL:it≠X.env.locals)
 (h1:it∈X.ex\/X.s₀.heap.objs.size<=it) (h2:∀x c,X.env.cells.lookup x=some c->c≠it) (h3:∀p∈X.pn++pins,p.1≠it):Inv X pins σ H {s with heap:=h',toks:=t'}:=by
 have Vx:∀b u,H b=some u->b≠it:=fun b u e z=>by rw [z,hn] at e;cases e
 refine I.step (g':=s.gens) (d':=s.drawn) (ch:=[it]) (fun b hb=> ?_) (fun b o _ _ hc e _=>k b o (fun z=>hc (by simp [z])) e) (fun b o _ _ hc e _=>⟨o.slots,k b o (fun z=>hc (by simp [z])) e⟩) (fun _ _ _ _ n=>n)
  (fun b o hc e=>⟨o,k b o (fun z=>hc (by simp [z])) e⟩) (fun _ _ e=>e) (fun _ _ _ e=>e) (fun b ps e=>⟨#[],by rw [e];simp⟩) (fun m hm=> ?_) (fun b u e=> ?_) I.bare
 ·have e:b=it:=by simpa using hb
  subst e;exact ⟨h1,hL,h2,h3⟩
 ·obtain ⟨o,es,ep,ho,r⟩:=hm
  exact ⟨o,es,ep,k _ o (Ne.symm hL) ho,r⟩
 ·refine (I.hok b u e).stay (fun c v hc q=>k c v ?_ q) (fun _ q=>q) fun _ _ q=>q
  rcases hc with z|z
  ·rw [z];exact Vx b u e
  ·exact Vx c _ z
theorem Inv.tok (I:Inv X pins σ H s) (t:Nat):Inv X pins σ H {s with toks:=t}:=I.un (h':=s.heap) (t':=t) Un.refl I.hok
theorem Inv.kept {t':Nat} (I:Inv X pins σ H s) (k:∀b u,s.heap.get? b=some u->h'.get? b=some u):Inv X pins σ H {s with heap:=h',toks:=t'}:=I.un (Un.kept k) (I.hok.kept k)
theorem Inv.laid {a:Addr} {o:HO} {t':Nat} (I:Inv X pins σ H s) (k:∀b u,s.heap.get? b=some u->h'.get? b=some u) (hp:s.heap.objs.size<=a) (new:cM X.prog X.w (upd H a o) h' a o):
 Inv X pins σ (upd H a o) {s with heap:=h',toks:=t'}:=I.un (Un.laid k hp (I.hok.fresh hp)) (I.hok.laid k hp new)
theorem Inv.write {x e:Addr} {o:HO} {t':Nat} (I:Inv X pins σ H s) (mu:Z7 (H x)) (he:e=x\/H e=some (.own x)) (k:∀b u,b≠e->s.heap.get? b=some u->h'.get? b=some u) (heo:∃u,h'.get? e=some u)
 (new:cM X.prog X.w (upd H x o) h' x o):Inv X pins σ (upd H x o) {s with heap:=h',toks:=t'}:=I.un (Un.write mu he k heo) (I.hok.write mu he k heo new)
theorem Inv.Iv {j6:List (Addr×Obj)} (I:Inv X pins σ H s) (h:∀p∈j6,s.heap.get? p.1=some p.2/\H p.1=none/\p.1≠X.env.locals/\p.1∉X.fs /\ ∀v,p.2.data ≠ .cell v):Inv X j6 σ H s:=
 ⟨I.ok,I.os,I.bare,I.base,I.loc,I.cell,I.free,I.gO,fun p hp=>(List.mem_append.mp hp).elim (fun z=>I.pin p (List.mem_append_left _ z)) (h p),I.hok,I.len⟩
theorem wQ {N:List Str} (hN:N.Nodup) {i j:Nat} {x:Str} (a:N[i]? = some x) (b:N[j]? = some x):i=j:=by
 obtain ⟨h1,e1⟩:=List.getElem?_eq_some_iff.mp a;obtain ⟨h2,e2⟩:=List.getElem?_eq_some_iff.mp b;exact (List.getElem_inj hN).mp (e1.trans e2.symm)
theorem tK {M:Model} {A:Around} {E:Value->Shared->Prop} {i:Nat} {x:Str} {v:V} {u:Value} {Q:Unit->Shared->Prop} (I:Inv X pins σ H s) (hN:X.N.Nodup) (hi:X.N[i]? = some x) (hx:Loc X.env.scope x) (r:RelV v u)
 (h:∀s',Inv X pins (σ.set i (some v)) H s'->(∃a,Heap.SameBut a s.heap s'.heap/\(a=X.env.locals\/X.env.cells.lookup x=some a))->Q () s') (hf:X.fn x=true\/X.env.scope.names.lookup x=some .local:=by first |exact .inl rfl|exact .inr rfl|assumption):wpAny M A (storeName X.env x u) Q E s:=by
 obtain ⟨m,hn,hl⟩:=id I.loc;have hcls:(X.env.scope.kind == .class||(X.env.scope.kind == .module&&X.env.locals != X.env.globals))=false:=by rw [I.ok.kind];rfl
 have ah4:i<σ.length:=by rw [I.len];exact (List.getElem?_eq_some_iff.mp hi).1
 have Us:=I.Us
 have tracked:∀{a:Addr} {h':Heap},(∃o,s.heap.get? a=some o/\H a=none)->Heap.SameBut a s.heap h'->qU X.prog X.w H h':=fun {a h'} ha hs b ob e=>by
  obtain ⟨_,_,hfree⟩:=ha;refine (I.hok b ob e).stay (fun c w' hc q=>(hs.2 c ?_).trans q) (fun _ q=>q) fun _ _ q=>q;rintro rfl;rcases hc with rfl|hc
  ·rw [hfree] at e;cases e
  ·rw [hfree] at hc;cases hc
 rcases hx with hk|hk
 ·refine wpAny_storeName_local hk hn (fun h' hn' hs=> ?_) hcls
  obtain ⟨oL,_,_,hoL,_⟩:=id hn;refine h _ ⟨I.ok,I.os,I.bare,⟨fun b o e n hb hx=> ?_,fun b o e n hb hx=> ?_,I.base.free,fun b o e hx=> ?_,I.base.tups,I.base.pH,I.base.rB⟩,⟨_,hn',fun j y v' e1 e2 e3=> ?_⟩,fun y c e=> ?_,I.free,I.gO,fun p hp=> ?_,tracked ⟨oL,hoL,I.free⟩ hs,by simpa using I.len⟩ ⟨_,hs,.inl rfl⟩
  ·exact (hs.2 b (Nat.ne_of_lt (Nat.lt_of_lt_of_le (Heap.lt_size e) I.ok.above))).trans (I.base.keep b o e n hb hx)
  ·obtain ⟨sl,e1⟩:=I.base.slot b o e n hb hx
   exact ⟨sl,(hs.2 b (Nat.ne_of_lt (Nat.lt_of_lt_of_le (Heap.lt_size e) I.ok.above))).trans e1⟩
  ·obtain ⟨o',e1⟩:=I.base.there b o e hx
   exact ⟨o',(hs.2 b (Nat.ne_of_lt (Nat.lt_of_lt_of_le (Heap.lt_size e) I.ok.above))).trans e1⟩
  ·by_cases hj:j=i
   ·subst hj
    rw [hi] at e1;cases e1;rw [List.getElem?_set_self ah4] at e2;cases e2;exact ⟨u,r,.inl ⟨hk,by simp⟩⟩
   ·rw [List.getElem?_set_ne (Ne.symm hj)] at e2
    obtain ⟨u',r',q⟩:=hl j y v' e1 e2 e3;refine ⟨u',r', ?_⟩;rcases q with ⟨k,e⟩|⟨k,c,e,z⟩
    ·refine .inl ⟨k, ?_⟩
     have:y≠x:=fun e=>hj (wQ hN e1 (e▸hi));simp [this,e]
    ·exact .inr ⟨k,c,e,z.sameBut hs (Us y c e)⟩
  ·obtain ⟨w',z⟩:=I.cell y c e
   exact ⟨w',z.sameBut hs (Us y c e)⟩
  ·obtain ⟨e,n,ne,nf,d⟩:=I.pin p hp
   exact ⟨(hs.2 p.1 ne).trans e,n,ne,nf,d⟩
 ·have hfn:X.fn x=true:=by
   rcases hf with z|z
   ·exact z
   ·rw [z] at hk;cases hk
  obtain ⟨c,hc⟩:=I.ok.has x (.inl hk);obtain ⟨w',z⟩:=I.cell x c hc;refine wpAny_storeName_cell I.ok.kind hk hc z (fun h' hc' hs=> ?_);obtain ⟨oc,hoc,afa⟩:=id z;refine h {s with heap:=h'} ⟨I.ok,I.os,I.bare,⟨fun b o e n hb hx=> ?_,fun b o e n hb hx=> ?_,I.base.free,fun b o e hx=> ?_,I.base.tups,I.base.pH,I.base.rB⟩,⟨m,hn.sameBut hs (Ne.symm (Us x c hc)),fun j y v' e1 e2 e3=> ?_⟩,fun y c' e=> ?_,I.free,I.gO,fun p hp=> ?_,tracked ⟨oc,hoc,I.gO x c hc⟩ hs,by simpa using I.len⟩ ⟨c,hs,.inr hc⟩
  ·exact (hs.2 b (Nat.ne_of_lt (Nat.lt_of_lt_of_le (Heap.lt_size e) (I.ok.cab x c hfn hc)))).trans (I.base.keep b o e n hb hx)
  ·obtain ⟨sl,e1⟩:=I.base.slot b o e n hb hx
   exact ⟨sl,(hs.2 b (Nat.ne_of_lt (Nat.lt_of_lt_of_le (Heap.lt_size e) (I.ok.cab x c hfn hc)))).trans e1⟩
  ·obtain ⟨o',e1⟩:=I.base.there b o e hx
   exact ⟨o',(hs.2 b (Nat.ne_of_lt (Nat.lt_of_lt_of_le (Heap.lt_size e) (I.ok.cab x c hfn hc)))).trans e1⟩
  ·by_cases hj:j=i
   ·subst hj
    rw [hi] at e1;cases e1;rw [List.getElem?_set_self ah4] at e2;cases e2;exact ⟨u,r,.inr ⟨.inl hk,c,hc,hc'⟩⟩
   ·rw [List.getElem?_set_ne (Ne.symm hj)] at e2
    obtain ⟨u',r',q⟩:=hl j y v' e1 e2 e3;refine ⟨u',r', ?_⟩;rcases q with q|⟨k,c',e,z'⟩
    ·exact .inl q
    ·refine .inr ⟨k,c',e,z'.sameBut hs ?_⟩
     rintro rfl;exact hj (wQ hN e1 (I.ok.inj _ _ _ e hc▸hi))
  ·by_cases hcc:c'=c
   ·subst hcc;exact ⟨_,hc'⟩
   ·obtain ⟨w2,z2⟩:=I.cell y c' e
    exact ⟨w2,z2.sameBut hs hcc⟩
  ·obtain ⟨e,n,ne,nf,d⟩:=I.pin p hp
   refine ⟨(hs.2 p.1 ?_).trans e,n,ne,nf,d⟩;intro q;rw [q,hoc] at e;have q':oc=p.2:=Option.some.inj e;exact d w' (by rw [←q'];exact afa)
theorem wg {M:Model} {A:Around} {E:Value->Shared->Prop} {i:Nat} {x:Str} {v:V} {u:Value} {Q:Unit->Shared->Prop} (I:Inv X pins σ H s) (hN:X.N.Nodup) (hi:X.N[i]? = some x) (hx:Loc X.env.scope x) (r:RelV v u)
 (h:∀s',Inv X pins (σ.set i (some v)) H s'->Q () s') (hf:X.fn x=true\/X.env.scope.names.lookup x=some .local:=by first |exact .inl rfl|exact .inr rfl|assumption):wpAny M A (storeName X.env x u) Q E s:=
 tK I hN hi hx r (fun s' I' _=>h s' I') hf
theorem Inv.call' {s':Shared} {ch:List Addr} (I:Inv X pins σ H s) (ho:s'.os=s.os) (u:Un (frs X.stack) ch H H' s.heap s'.heap) (hok:qU X.prog X.w H' s'.heap) (hg:AllBare s'.gens)
 (hch:∀b∈ch,(b∈X.ex\/X.s₀.heap.objs.size<=b)/\b≠X.env.locals/\(∀x c,X.env.cells.lookup x=some c->c≠b) /\ ∀p∈X.pn++pins,p.1≠b):Inv X pins σ H' s':=by
 obtain ⟨h',g',d',t',o'⟩:=s';have e:o'=s.os:=ho;subst e;exact I.call (g':=g') (t':=t') (d':=d') u hok hg hch
end
abbrev XK:=Value->Option Addr->Hp->Prop
abbrev St:=List (Option V)
abbrev VK:=V->Hp->Prop
abbrev TE:=St->Hp->VK->Prop
abbrev TT:=St->Hp->(Bool->Hp->Prop)->Prop
abbrev TA:=St->Hp->(List V->Hp->Prop)->Prop
structure Ends where
 nx:St->Hp->Prop
 rt:VK
 bk:St->Hp->Prop:=fun _ _=>False
 ct:St->Hp->Prop:=fun _ _=>False
abbrev TS:=Ends->St->Hp->Prop
def EP (X:Cx) (pins:List (Addr×Obj)) (σ:St) (Q:VK) (u:Value) (s':Shared):Prop:=∃v H',Inv X pins σ H' s'/\RelV v u/\Q v H'
def TP (X:Cx) (pins:List (Addr×Obj)) (σ:St) (Q:Bool->Hp->Prop) (b:Bool) (s':Shared):Prop:=∃H',Inv X pins σ H' s'/\Q b H'
def AP (X:Cx) (pins:List (Addr×Obj)) (σ:St) (Q:List V->Hp->Prop) (us:List Value) (s':Shared):Prop:=∃vs H',Inv X pins σ H' s'/\Vals vs us/\Q vs H'
def SP (X:Cx) (pins:List (Addr×Obj)) (D:Ends) (f:Flow) (s':Shared):Prop:=
 match f with
 | .next=>∃σ' H',Inv X pins σ' H' s'/\D.nx σ' H'
 | .brk=>∃σ' H',Inv X pins σ' H' s'/\D.bk σ' H'
 | .cont=>∃σ' H',Inv X pins σ' H' s'/\D.ct σ' H'
 | .ret u=>∃v σ' H',Inv X pins σ' H' s'/\RelV v u/\D.rt v H'
def PE (X:Cx) (e:Expr) (t:TE):Prop:=
 ∀(pins:List (Addr×Obj)) (s:Shared) (σ:St) (H:Hp) (Q:VK),Inv X pins σ H s->t σ H Q->wpAny (model X.prog X.w) X.A (eval e X.env) (EP X pins σ Q) X.xe s
def PT (X:Cx) (e:Expr) (t:TT):Prop:=
 ∀(pins:List (Addr×Obj)) (s:Shared) (σ:St) (H:Hp) (Q:Bool->Hp->Prop),Inv X pins σ H s->t σ H Q->wpAny (model X.prog X.w) X.A (isTrue e X.env (eval e X.env)) (TP X pins σ Q) X.xe s
def PW (X:Cx) (e:Expr) (t:TT):Prop:=
 ∀(whole:Sem Value) (pins:List (Addr×Obj)) (s:Shared) (σ:St) (H:Hp) (Q:Bool->Hp->Prop),Inv X pins σ H s->t σ H Q->wpAny (model X.prog X.w) X.A (isTrue e X.env whole) (TP X pins σ Q) X.xe s
theorem PW.pt {X:Cx} {e:Expr} {t:TT} (h:PW X e t):PT X e t:=h _
def PA (X:Cx) (es:List Expr) (t:TA):Prop:=
 ∀(pos:Pos) (pins:List (Addr×Obj)) (s:Shared) (σ:St) (H:Hp) (Q:List V->Hp->Prop),Inv X pins σ H s->t σ H Q->wpAny (model X.prog X.w) X.A (spliced (backTo pos (starEach es X.env))) (AP X pins σ Q) X.xe s
def PS (X:Cx) (st:Stmt) (t:TS):Prop:=
 ∀(pins:List (Addr×Obj)) (s:Shared) (σ:St) (H:Hp) (D:Ends),Inv X pins σ H s->t D σ H->wpAny (model X.prog X.w) X.A (exec st X.env) (SP X pins D) X.xe s
def Ht (X:Cx) (st:List Stmt) (t:TS):Prop:=
 ∀(pins:List (Addr×Obj)) (s:Shared) (σ:St) (H:Hp) (D:Ends),Inv X pins σ H s->t D σ H->wpAny (model X.prog X.w) X.A (execs st X.env) (SP X pins D) X.xe s
theorem cP {α:Type} {t:Sem α} {Q Q':α->Shared->Prop} {M:Model} {A:Around} {E:Value->Shared->Prop} {s:Shared} (h:wpAny M A t Q E s) (hQ:∀a s,Q a s->Q' a s):wpAny M A t Q' E s:=wpAny_mono h hQ fun _ _ x=>x
end L2
namespace L2
open PySem PySem.Spec PyProof.Rows
section
variable {X:Cx}
def v9 (i:Nat):TE:=fun σ H Q=>∃v,σ[i]? = some (some v)/\Q v H
def tC (v:V):TE:=fun _ H Q=>Q v H
theorem Vj {i:Nat} {x:Str} {pos:Pos} (hN:X.N[i]? = some x) (hv:Vis X.env.scope x) (hd:(x==("__debug__" :Str))=false:=by decide) (hcd:(x==("__classdict__" :Str))=false:=by decide):PE X (.Name x pos) (v9 i):=by
 intro pins s σ H Q I h;obtain ⟨v,e,h⟩:=h;obtain ⟨m,hn,hl⟩:=I.loc;obtain ⟨u,r,l⟩:=hl i x v hN e hv;have fin:EP X pins σ Q u s:=⟨v,H,I,r,h⟩;rcases l with ⟨hk,hm⟩|⟨hk,c,hc,hcell⟩
 ·exact wpAny_Name (wpAny_loadName_local I.ok.kind hk hn hm fin) hd
 ·rcases hk with hk|hk
  ·exact wpAny_Name (wpAny_loadName_cell I.ok.kind hk hc hcell fin) hd
  ·exact wpAny_Name (wpAny_loadName_free I.ok.kind hk hc hcell fin hcd) hd
theorem aF {i j pos}:PE X (.Constant (.int i) j pos) (tC (.int i)):=fun _ _ _ H _ I h=>wpAny_Constant_int ⟨.int i,H,I.tok _,⟨_,rfl⟩,h⟩
theorem iM {b j pos}:PE X (.Constant (.bool b) j pos) (tC (.bl b)):=fun _ _ _ H _ I h=>Constant_bool ⟨.bl b,H,I,rfl,h⟩
theorem cY {x j pos}:PE X (.Constant (.str x) j pos) (tC (.str x)):=fun _ _ _ H _ I h=>Calls.Constant_str ⟨.str x,H,I.tok _,⟨_,rfl⟩,h⟩
def Gl (X:Cx) (x:Str):Prop:=X.env.kindOf x=some .globalImplicit
theorem mH {E:Value->Shared->Prop} {pins:List (Addr×Obj)} {s:Shared} {σ:St} {H:Hp} {x:Str} {u:Value} {pos:Pos} {Q:Value->Shared->Prop} (I:Inv X pins σ H s) (hg:Gl X x) (hm:X.mg x=some u) (h:Q u s)
 (hd:(x==("__debug__" :Str))=false:=by decide):wpAny (model X.prog X.w) X.A (eval (.Name x pos) X.env) Q E s:=
 Calls.Name_function_global I.ok.kind hg (Calls.loadGlobal_global (by rw [I.ok.glob];exact I.mod.glob.keeps I.bk) hm h) hd
theorem uh {E:Value->Shared->Prop} {pins:List (Addr×Obj)} {s:Shared} {σ:St} {H:Hp} {x:Str} {u:Value} {pos:Pos} {Q:Value->Shared->Prop} (I:Inv X pins σ H s) (hg:Gl X x) (hm:X.mg x=none) (hv:bootBuiltins x=some u) (h:Q u s)
 (hn:x ≠ "__name__" :=by decide) (hd:(x==("__debug__" :Str))=false:=by decide):wpAny (model X.prog X.w) X.A (eval (.Name x pos) X.env) Q E s:=by
 obtain ⟨mb,h1,h2⟩:=I.mod.blt;exact Calls.Name_function_global I.ok.kind hg (Calls.loadGlobal_builtin (by rw [I.ok.glob];exact I.mod.glob.keeps I.bk) hm (by rw [I.ok.blt];exact h1.keeps I.bk) ((h2 x hn).trans hv) h) hd
theorem jd {x:Str} {v:V} {u:Value} {pos:Pos} (hg:Gl X x) (hm:X.mg x=some u) (r:RelV v u) (hd:(x==("__debug__" :Str))=false:=by decide):PE X (.Name x pos) (tC v):=
 fun _ _ _ H _ I h=>mH I hg hm ⟨v,H,I,r,h⟩ hd
theorem gA {x:Str} {v:V} {u:Value} {pos:Pos} (hg:Gl X x) (hm:X.mg x=none) (hv:bootBuiltins x=some u) (r:RelV v u) (hn:x ≠ "__name__" :=by decide) (hd:(x==("__debug__" :Str))=false:=by decide):PE X (.Name x pos) (tC v):=
 fun _ _ _ H _ I h=>uh I hg hm hv ⟨v,H,I,r,h⟩ hn hd
variable {a b:Expr} {ta tb:TE} {pos:Pos}
def tB (t:TE):TT:=fun σ H Q=>t σ H fun x H1=>∃c,x = .bl c/\Q c H1
theorem gG {e:Expr} {t:TE} (h:PE X e t) (he:∀whole,isTrue e X.env whole=(do let v ←whole;standAt e.pos;holding [v] (truthy v)):=by intro _;rfl):PT X e (tB t):=by
 intro pins s σ H Q I hw;refine isTrue_plain (cP (h pins s σ H _ I hw) fun v s1 ⟨x,H1,I1,r1,q1⟩=> ?_) (he _);obtain ⟨d,rfl,q⟩:=q1;cases r1;exact wpAny_truthy_bool ⟨H1,I1,q⟩
variable {tA tB':TT} {rest:List Expr}
def abE (t u:TT):TT:=fun σ H Q=>t σ H fun c H1=>if c=true then u σ H1 Q else Q false H1
def tOr (t u:TT):TT:=fun σ H Q=>t σ H fun c H1=>if c=true then Q true H1 else u σ H1 Q
def abz (t:TT):TT:=fun σ H Q=>t σ H fun c H1=>Q (!c) H1
theorem vD (ha:PT X a tA):PW X (.BoolOp .And [a] pos) tA:=by
 intro wh pins s σ H Q I h;refine isTrue_and (cP (ha pins s σ H Q I h) fun c s1 e=> ?_);cases c with
 | true=>exact isTrue_and_nil e
 | false=>exact e
theorem qH (ha:PT X a tA):PW X (.BoolOp .Or [a] pos) tA:=by
 intro wh pins s σ H Q I h;refine isTrue_or (cP (ha pins s σ H Q I h) fun c s1 e=> ?_);cases c with
 | false=>exact isTrue_or_nil e
 | true=>exact e
theorem z_ (ha:PT X a tA) (hb:PW X (.BoolOp .And (b::rest) pos) tB'):PW X (.BoolOp .And (a::b::rest) pos) (abE tA tB'):=by
 intro wh pins s σ H Q I h;refine isTrue_and (cP (ha pins s σ H _ I h) fun c s1 ⟨H1,I1,q1⟩=> ?_);cases c with
 | true=>exact hb wh pins s1 σ H1 Q I1 q1
 | false=>exact ⟨H1,I1,q1⟩
theorem wG (ha:PT X a tA) (hb:PW X (.BoolOp .Or (b::rest) pos) tB'):PW X (.BoolOp .Or (a::b::rest) pos) (tOr tA tB'):=by
 intro wh pins s σ H Q I h;refine isTrue_or (cP (ha pins s σ H _ I h) fun c s1 ⟨H1,I1,q1⟩=> ?_);cases c with
 | true=>exact ⟨H1,I1,q1⟩
 | false=>exact hb wh pins s1 σ H1 Q I1 q1
theorem iT (ha:PT X a tA):PT X (.UnaryOp .Not a pos) (abz tA):=by
 intro pins s σ H Q I h;exact isTrue_not (ha pins s σ H (fun c H1=>Q (!c) H1) I h)
def Xn (ta tb:TE):TE:=fun σ H Q=>ta σ H fun x H1=>∃c,x = .bl c/\if c=true then tb σ H1 Q else Q (.bl false) H1
def Xh (ta tb:TE):TE:=fun σ H Q=>ta σ H fun x H1=>∃c,x = .bl c/\if c=true then Q (.bl true) H1 else tb σ H1 Q
def Xi (ta:TE):TE:=fun σ H Q=>ta σ H fun x H1=>∃c,x = .bl c/\Q (.bl (!c)) H1
theorem mG {op} {t:TE} (h:PE X a t):PE X (.BoolOp op [a] pos) t:=fun pins s σ H Q I hw=>BoolOp_one (h pins s σ H Q I hw)
theorem nU (ha:PE X a ta) (hb:PE X (.BoolOp .And (b::rest) pos) tb):PE X (.BoolOp .And (a::b::rest) pos) (Xn ta tb):=by
 intro pins s σ H Q I h;refine BoolOp_and (cP (ha pins s σ H _ I h) fun v s1 ⟨x,H1,I1,r1,q1⟩=> ?_);obtain ⟨c,rfl,q1⟩:=q1;cases r1;refine wpAny_truthy_bool ?_;cases c with
 | true=>exact hb pins s1 σ H1 Q I1 q1
 | false=>exact ⟨.bl false,H1,I1,rfl,q1⟩
theorem Nm (ha:PE X a ta) (hb:PE X (.BoolOp .Or (b::rest) pos) tb):PE X (.BoolOp .Or (a::b::rest) pos) (Xh ta tb):=by
 intro pins s σ H Q I h;refine BoolOp_or (cP (ha pins s σ H _ I h) fun v s1 ⟨x,H1,I1,r1,q1⟩=> ?_);obtain ⟨c,rfl,q1⟩:=q1;cases r1;refine wpAny_truthy_bool ?_;cases c with
 | false=>exact hb pins s1 σ H1 Q I1 q1
 | true=>exact ⟨.bl true,H1,I1,rfl,q1⟩
theorem Np (ha:PE X a ta):PE X (.UnaryOp .Not a pos) (Xi ta):=by
 intro pins s σ H Q I h;refine UnaryOp_ (cP (ha pins s σ H _ I h) fun v s1 ⟨x,H1,I1,r1,q1⟩=> ?_);obtain ⟨c,rfl,q1⟩:=q1;cases r1;exact not_of (wpAny_truthy_bool ⟨.bl (!c),H1,I1,rfl,q1⟩)
def tIf (t:TT) (ta tb:TE):TE:=fun σ H Q=>t σ H fun c H1=>if c=true then ta σ H1 Q else tb σ H1 Q
theorem Cq {c:Expr} (hc:PT X c tA) (ha:PE X a ta) (hb:PE X b tb):PE X (.IfExp c a b pos) (tIf tA ta tb):=by
 intro pins s σ H Q I h;refine wpAny_IfExp (cP (hc pins s σ H _ I h) fun d s1 ⟨H1,I1,q1⟩=> ?_);cases d with
 | true=>exact ha pins s1 σ H1 Q I1 q1
 | false=>exact hb pins s1 σ H1 Q I1 q1
end
end L2
namespace L2
open PySem PySem.Spec PyProof.Rows
def bA (K:PySem.W.Frag) (H:Hp) (a:Addr) (xs:List V):Prop:=
 Rd H a (.lst xs) \/
  ∃(o:Obj) (its:Array Value) (n:Nat),K.lookup a=some o/\o.cls = .type "list" /\ o.dict=none/\o.data = .seq its n/\its.size<=sizeLine/\Vals xs its.toList
def gC (K:PySem.W.Frag) (H:Hp) (a:Addr) (xs:List V):Prop:=
 Rd H a (.tup xs) \/
  ∃(o:Obj) (its:Array Value) (n:Nat),K.lookup a=some o/\o.cls = .type "tuple" /\ o.data = .seq its n/\its.size<=sizeLine/\Vals xs its.toList
def ahd:Value->Option V
 | .none=>some .non
 | .bool b=>some (.bl b)
 | .int i _=>some (.int i)
 | .str x _=>some (.str x)
 | .bytes b _=>some (.Ho b)
 | .float b _=>some (.flt b)
 | .ref a=>some (.ref a)
 | .type n=>some (.ty n)
 | _=>none
theorem RelV.abs {x:V} {u:Value} (r:RelV x u):ahd u=some x:=by
 cases x with
 | non=>cases r;rfl
 | bl _=>cases r;rfl
 | int _=>obtain ⟨t,rfl⟩:=r;rfl
 | str _=>obtain ⟨t,rfl⟩:=r;rfl
 | Ho _=>obtain ⟨t,rfl⟩:=r;rfl
 | flt _=>obtain ⟨t,rfl⟩:=r;rfl
 | ref _=>cases r;rfl
 | ty _=>cases r;rfl
theorem RelV.inj {x y:V} {u:Value} (r:RelV x u) (q:RelV y u):x=y:=Option.some.inj (r.abs.symm.trans q.abs)
theorem Vals.inj {xs ys:List V} {us:List Value} (h:Vals xs us) (h':Vals ys us):xs=ys:=by
 induction h generalizing ys with
 | nil=>cases h';rfl
 | cons r t ih=>cases h' with
   | cons r' t'=>rw [r.inj r',ih t']
section
variable {X:Cx} {pins:List (Addr×Obj)} {σ:St} {H:Hp} {s:Shared} {a:Addr} {xs ys:List V}
theorem bA.of {K:PySem.W.Frag} (h:H a=some (.lst xs)):bA K H a xs:= .inl (.inl h)
theorem gC.of {K:PySem.W.Frag} (h:H a=some (.tup xs)):gC K H a xs:= .inl (.inl h)
theorem Inv.list (I:Inv X pins σ H s) (h:bA X.K H a xs):∃its:List Value,Vals xs its/\PlainL s.heap a its.toArray/\xs.length<=sizeLine:=by
 rcases h with h|⟨o,its,n,hk,hc,hd,hs,hz,r⟩
 ·obtain ⟨z,its,n,r,e⟩:=h.ok I.hok
  exact ⟨its,r,⟨_,n,e,rfl,rfl,rfl⟩,z⟩
 ·refine ⟨its.toList,r,⟨o,n,I.lF a o hk,hc,hd,by simpa using hs⟩, ?_⟩
  have e:=r.length;simp only [Array.length_toList] at e;omega
theorem Inv.tuple (I:Inv X pins σ H s) (h:gC X.K H a xs):∃its:List Value,Vals xs its/\IsTup s.heap a its.toArray/\xs.length<=sizeLine:=by
 rcases h with h|⟨o,its,n,hk,hc,hs,hz,r⟩
 ·obtain ⟨z,its,r,p⟩:=h.ok I.hok
  exact ⟨its,r,p,z⟩
 ·refine ⟨its.toList,r,⟨o,I.lF a o hk,hc,n,by simpa using hs⟩, ?_⟩
  have e:=r.length;simp only [Array.length_toList] at e;omega
theorem Inv.wX (I:Inv X pins σ H s) (h:bA X.K H a xs) (h':bA X.K H a ys):xs=ys:=by
 obtain ⟨its,r,⟨o,n,e,_,_,d⟩,_⟩:=I.list h;obtain ⟨its',r',⟨o',n',e',_,_,d'⟩,_⟩:=I.list h';rw [e] at e';cases e';rw [d] at d';injection d' with d1 _
 have:its=its':=by simpa using congrArg Array.toList d1
 subst this;exact r.inj r'
theorem Inv.JH (I:Inv X pins σ H s) (h:gC X.K H a xs) (h':gC X.K H a ys):xs=ys:=by
 obtain ⟨its,r,⟨o,e,_,n,d⟩,_⟩:=I.tuple h;obtain ⟨its',r',⟨o',e',_,n',d'⟩,_⟩:=I.tuple h';rw [e] at e';cases e';rw [d] at d';injection d' with d1 _
 have:its=its':=by simpa using congrArg Array.toList d1
 subst this;exact r.inj r'
end
abbrev Cx.wish (X:Cx) (E:Value->Shared->Prop):Cx:={X with xe:=E}
abbrev Cx.nox (X:Cx):Cx:=X.wish fun _ _=>False
theorem Cx.Ok.wish {X:Cx} (ok:X.Ok) (E:Value->Shared->Prop):(X.wish E).Ok:=
 ⟨ok.mod,ok.kind,ok.glob,ok.blt,ok.above,ok.inj,ok.has,ok.cab,ok.hd,ok.frames,ok.stk,ok.W_,ok.bs,ok.Eb,ok.yN,ok.DG,ok.m5,ok.Lr⟩
theorem Cx.Ok.nj {X:Cx} {E:Value->Shared->Prop} (ok:(X.wish E).Ok):X.Ok:=
 ⟨ok.mod,ok.kind,ok.glob,ok.blt,ok.above,ok.inj,ok.has,ok.cab,ok.hd,ok.frames,ok.stk,ok.W_,ok.bs,ok.Eb,ok.yN,ok.DG,ok.m5,ok.Lr⟩
section
variable {X:Cx} {pins:List (Addr×Obj)} {σ:St} {H:Hp} {s:Shared} {E:Value->Shared->Prop}
theorem Inv.wish (I:Inv X pins σ H s) (E:Value->Shared->Prop):Inv (X.wish E) pins σ H s:=⟨I.ok.wish E,I.os,I.bare,I.base,I.loc,I.cell,I.free,I.gO,I.pin,I.hok,I.len⟩
theorem Inv.nj (I:Inv (X.wish E) pins σ H s):Inv X pins σ H s:=⟨I.ok.nj,I.os,I.bare,I.base,I.loc,I.cell,I.free,I.gO,I.pin,I.hok,I.len⟩
theorem SP.nj {D:Ends} {f:Flow} {s':Shared} (h:SP (X.wish E) pins D f s'):SP X pins D f s':=by
 cases f with
 | next=>obtain ⟨σ',H',I,q⟩:=h;exact ⟨σ',H',I.nj,q⟩
 | brk=>obtain ⟨σ',H',I,q⟩:=h;exact ⟨σ',H',I.nj,q⟩
 | cont=>obtain ⟨σ',H',I,q⟩:=h;exact ⟨σ',H',I.nj,q⟩
 | ret u=>obtain ⟨v,σ',H',I,r,q⟩:=h;exact ⟨v,σ',H',I.nj,r,q⟩
theorem Ht.nox {st:List Stmt} {t:TS} (h:Ht X.nox st t):Ht X st t:=fun pins s σ H D I hw=>
 wpAny_mono (h pins s σ H D (I.wish _) hw) (fun _ _ q=>q.nj) fun _ _ z=>False.elim z
end
section
variable {X:Cx} {st:Stmt} {rest:List Stmt} {t u:TS} {e:Expr} {te:TE} {pos:Pos}
def HY:TS:=fun D σ H=>D.nx σ H
def UL (t u:TS):TS:=fun D σ H=>t {D with nx:=u D} σ H
theorem bQ:Ht X [] HY:=fun _ _ σ H _ I h=>wpAny_execs_nil ⟨σ,H,I,h⟩
theorem aC (h1:PS X st t) (h2:Ht X rest u):Ht X (st::rest) (UL t u):=by
 intro pins s σ H D I h;refine wpAny_execs_cons (cP (h1 pins s σ H {D with nx:=u D} I h) fun f s1 q=> ?_);cases f with
 | next=>
   obtain ⟨σ',H',I',q⟩:=q;exact h2 pins s1 σ' H' D I' q
 | ret v=>exact q
 | brk=>exact q
 | cont=>exact q
theorem aH (h1:PS X st t):Ht X [st] t:=by
 intro pins s σ H D I h;refine wpAny_execs_cons (cP (h1 pins s σ H D I h) fun f s1 q=> ?_);cases f with
 | next=>exact wpAny_execs_nil q
 | ret v=>exact q
 | brk=>exact q
 | cont=>exact q
theorem Inv.quiet {pins:List (Addr×Obj)} {σ:St} {H:Hp} {s:Shared} (I:Inv X pins σ H s):interactive X.env=false:=by simp [interactive,I.ok.kind]
def Xk (te:TE):TS:=fun D σ H=>te σ H fun _ H1=>D.nx σ H1
theorem cW (he:PE X e te) (hs:swapsWith e none pos.line X.env=pure false:=by rfl):PS X (.Expr e pos) (Xk te):=by
 intro pins s σ H D I h;exact wpAny_Expr_any (cP (he pins s σ H _ I h) fun v s1 ⟨x,H1,I1,r1,q1⟩=>⟨σ,H1,I1,q1⟩) I.quiet hs
def QG (te:TE):TS:=fun D σ H=>te σ H D.rt
theorem aX (he:PE X e te):PS X (.Return (some e) pos) (QG te):=by
 intro pins s σ H D I h;exact wpAny_Return_some (cP (he pins s σ H _ I h) fun v s1 ⟨x,H1,I1,r1,q1⟩=>⟨x,σ,H1,I1,r1,q1⟩)
def Xj (c:TT) (t u:TS):TS:=fun D σ H=>c σ H fun b H1=>if b=true then t D σ H1 else u D σ H1
theorem dN {c:Expr} {a b:List Stmt} {tc:TT} (hc:PT X c tc) (ha:Ht X a t) (hb:Ht X b u):PS X (.If c a b pos) (Xj tc t u):=by
 intro pins s σ H D I h;refine wpAny_If (cP (hc pins s σ H _ I h) fun d s1 ⟨H1,I1,q1⟩=> ?_);cases d with
 | true=>exact ha pins s1 σ H1 D I1 q1
 | false=>exact hb pins s1 σ H1 D I1 q1
end
abbrev TG:=V->St->Hp->(St->Hp->Prop)->Prop
abbrev Ux:=List V->St->Hp->(St->Hp->Prop)->Prop
def PG (X:Cx) (target:Expr) (t:TG):Prop:=
 ∀(pins:List (Addr×Obj)) (s:Shared) (σ:St) (H:Hp) (v:V) (u:Value) (Q:St->Hp->Prop),Inv X pins σ H s->RelV v u->t v σ H Q ->
  wpAny (model X.prog X.w) X.A (assign target X.env u) (fun _ s'=>∃σ' H',Inv X pins σ' H' s'/\Q σ' H') X.xe s
def Z5 (X:Cx) (ts:List Expr) (t:Ux):Prop:=
 ∀(pins:List (Addr×Obj)) (s:Shared) (σ:St) (H:Hp) (vs:List V) (us:List Value) (Q:St->Hp->Prop),Inv X pins σ H s->Vals vs us->t vs σ H Q ->
  wpAny (model X.prog X.w) X.A (assignInOrder ((assignEach ts X.env).map (·.2)) us) (fun _ s'=>∃σ' H',Inv X pins σ' H' s'/\Q σ' H') X.xe s
abbrev Wt:=V->V->V->Hp->(Hp->Prop)->Prop
def Z4 (X:Cx) (t:Wt):Prop:=
 ∀(pins:List (Addr×Obj)) (s:Shared) (σ:St) (H:Hp) (o i v:V) (ov iv u:Value) (Q:Hp->Prop),Inv X pins σ H s->RelV o ov->RelV i iv->RelV v u->t o i v H Q ->
  wpAny (model X.prog X.w) X.A (setItem ov iv u) (fun _ s'=>∃H',Inv X pins σ H' s'/\Q H') X.xe s
section
variable {X:Cx} {pos:Pos}
def gM (i:Nat):TG:=fun v σ H Q=>Q (σ.set i (some v)) H
theorem bw {i:Nat} {x:Str} (hN:X.N.Nodup) (hi:X.N[i]? = some x) (hx:Loc X.env.scope x) (hf:X.fn x=true\/X.env.scope.names.lookup x=some .local:=by first |exact .inl rfl|exact .inr rfl|assumption):PG X (.Name x pos) (gM i):=by
 intro pins s σ H v u Q I r h;exact wpAny_assign_Name (wg I hN hi hx r (fun s' I'=>⟨_,H,I',h⟩) hf)
def YB:Ux:=fun vs σ H Q=>vs=[]/\Q σ H
def O7 (t:TG) (u:Ux):Ux:=fun vs σ H Q=>∃v r,vs=v::r/\t v σ H fun σ' H'=>u r σ' H' Q
theorem vJ:Z5 X [] YB:=by
 intro pins s σ H vs us Q I r h;obtain ⟨e,h⟩:=h;subst e;cases r;exact assignInOrder_nil ⟨σ,H,I,h⟩
theorem fO {e:Expr} {es:List Expr} {t:TG} {u:Ux} (h1:PG X e t) (h2:Z5 X es u)
 (hs:(assignEach (e::es) X.env).map (·.2)=assign e X.env::(assignEach es X.env).map (·.2):=by rfl):Z5 X (e::es) (O7 t u):=by
 intro pins s σ H vs us Q I r h;obtain ⟨v,vr,e1,h⟩:=h;subst e1;cases r with
 | cons r rr=>
   rw [hs];refine assignInOrder_cons (cP (h1 pins s σ H _ _ _ I r h) fun _ s1 ⟨σ1,H1,I1,q1⟩=> ?_);exact h2 pins s1 σ1 H1 _ _ Q I1 rr q1
def V8 (K:PySem.W.Frag) (n:Nat) (t:Ux):TG:=fun v σ H Q=>∃a xs,v = .ref a/\gC K H a xs/\xs.length=n/\t xs σ H Q
theorem Vi {es:List Expr} {k:Nat} {t:Ux} {n:Nat} (hc:X.calm=true) (h:Z5 X es t)
 (hn:(assignEach es X.env).length=n:=by rfl) (hst:(assignEach es X.env).findIdx? (·.1)=none:=by rfl):PG X (.Tuple es k pos) (V8 X.K n t):=by
 intro pins s σ H v u Q I r hw;obtain ⟨a,xs,e1,hq,hl,hw⟩:=hw;subst e1;cases r;obtain ⟨its,rv,ht,hz⟩:=I.tuple hq;refine assign_Tuple_tuple (I.ok.hd hc) ht (by simp [hn,←hl,rv.length]) hst fun h' hx=> ?_;have I1:Inv X pins σ H {s with heap:=h'}:=I.kept (t':=s.toks) fun b o e=>hx b o (Nat.ne_of_lt (Heap.lt_size e)) e;exact h pins _ σ H xs _ Q I1 (by simpa using rv) hw
def afk (to ti:TE) (t:Wt):TG:=fun v σ H Q=>to σ H fun o H1=>ti σ H1 fun i H2=>t o i v H2 fun H3=>Q σ H3
theorem qI {o i:Expr} {to ti:TE} {t:Wt} (ho:PE X o to) (hi:PE X i ti) (hs:Z4 X t)
 (ha:∀v,assign (.Subscript o i pos) X.env v=(do
   let ov ←holding [v] (eval o X.env)
   let iv ←holding [v,ov] (eval i X.env)
   standAt pos
   holding [v,ov,iv] (setItem ov iv v)
   release [v,ov,iv] []):=by intro _;rfl):PG X (.Subscript o i pos) (afk to ti t):=by
 intro pins s σ H v u Q I r h;rw [ha];refine wpAny_bind (wpAny_holding (cP (ho pins s σ H _ I h) fun ov s1 ⟨x,H1,I1,r1,q1⟩=> ?_));refine wpAny_bind (wpAny_holding (cP (hi pins s1 σ H1 _ I1 q1) fun iv s2 ⟨y,H2,I2,r2,q2⟩=> ?_));refine wpAny_bind (wpAny_standAt (wpAny_bind (wpAny_holding (cP (hs pins s2 σ H2 x y v ov iv u _ I2 r1 r2 r q2) fun _ s3 ⟨H3,I3,q3⟩=> ?_))));exact wpAny_release ⟨σ,H3,I3,q3⟩
def QJ (te:TE) (g:TG):TS:=fun D σ H=>te σ H fun x H1=>g x σ H1 D.nx
theorem mF {tg e:Expr} {te:TE} {g:TG} (he:PE X e te) (hg:PG X tg g) (hs:swapsWithSole [tg] e pos.line X.env=pure false:=by rfl) (hw:swappedStores [tg] e X.env=pure none:=by rfl)
 (h1:(assignEach [tg] X.env).map (·.2)=[assign tg X.env]:=by rfl):PS X (.Assign [tg] e pos) (QJ te g):=by
 intro pins s σ H D I h;refine wpAny_Assign_stores (cP (he pins s σ H _ I h) fun v s1 ⟨x,H1,I1,r1,q1⟩=> ?_) hs hw;rw [h1];exact cP (hg pins s1 σ H1 x v _ I1 r1 q1) fun _ s2 q=>q
theorem aW {i:Nat} {x:Str} {e:Expr} {te:TE} {pos':Pos} (hN:X.N.Nodup) (hi:X.N[i]? = some x) (hx:Loc X.env.scope x) (he:PE X e te) (hs:swapsWith e (some (.Name x pos')) pos.line X.env=pure false:=by rfl) (hf:X.fn x=true\/X.env.scope.names.lookup x=some .local:=by first |exact .inl rfl|exact .inr rfl|assumption):
 PS X (.Assign [.Name x pos'] e pos) (QJ te (gM i)):=by
 intro pins s σ H D I h;refine wpAny_Assign_Name (cP (he pins s σ H _ I h) fun v s1 ⟨y,H1,I1,r1,q1⟩=> ?_) hs;exact wg I1 hN hi hx r1 (fun s2 I2=>⟨_,H1,I2,q1⟩) hf
end
section
variable {X:Cx} {pos:Pos}
end
structure It where
 go:Nat->Hp->Prop
 Uz:Nat->Hp->V->Hp->Prop
 stop:Nat->Hp->Prop
def mV (X:Cx) (pins:List (Addr×Obj)) (H:Hp) (b:Addr):Prop:=
 H b=none/\b≠X.env.locals/\b∉X.fs/\(b∈X.ex\/X.s₀.heap.objs.size<=b)/\(∀x c,X.env.cells.lookup x=some c->c≠b) /\ ∀p∈X.pn++pins,p.1≠b
theorem Inv.Ar {X:Cx} {pins:List (Addr×Obj)} {σ:St} {H H':Hp} {s:Shared} {b:Addr} (I:Inv X pins σ H s) (hb:s.heap.objs.size<=b) (hn:H' b=none):mV X pins H' b:=by
 refine ⟨hn,Nat.ne_of_gt (Nat.lt_of_lt_of_le I.lt hb),I.ad4 hb,.inr (Nat.le_trans I.sz hb),fun x c e z=> ?_,fun p hp z=> ?_⟩
 ·obtain ⟨v,q⟩:=I.cell x c e
  exact absurd (Nat.lt_of_lt_of_le q.lt (by rw [z];exact hb)) (Nat.lt_irrefl _)
 ·exact absurd (Nat.lt_of_lt_of_le (Heap.lt_size (I.pin p hp).1) (by rw [z];exact hb)) (Nat.lt_irrefl _)
structure Turn (P:Program) (w:World) (K:PySem.W.Frag) (tg:Expr) (J:It) (fp:List Addr) (it:Addr) (tn:Nat->Heap->Prop):Prop where
 mem:it∈fp
 obj:∀i h,tn i h -> ∀b∈fp,∃o,h.get? b=some o /\ ∀v,o.data ≠ .cell v
 keep:∀i h h',tn i h->(∀b∈fp,∀o,h.get? b=some o->h'.get? b=some o)->tn i h'
 item:∀(X:Cx),X.prog=P->X.w=w->X.K=K->X.calm=true -> ∀(i:Nat) (pins:List (Addr×Obj)) (s:Shared) (σ:St) (H:Hp) (E:Value->Shared->Prop),Inv X pins σ H s->(∀b∈fp,mV X pins H b)->tn i s.heap->J.go i H ->
  wpAny (model P w) X.A (pyNext (.ref it)) (fun r s1=>∃u,r=some u /\
   wpAny (model P w) X.A (letOwnedTupleGo tg (.ref it) u) (fun _ s2=>∃x H',Inv X pins σ H' s2/\RelV x u/\J.Uz i H x H'/\tn (i+1) s2.heap /\ ∀b∈fp,H' b=none) E s1) E s
 done:∀(X:Cx),X.prog=P->X.w=w->X.K=K->X.calm=true -> ∀(i:Nat) (pins:List (Addr×Obj)) (s:Shared) (σ:St) (H:Hp) (E:Value->Shared->Prop),Inv X pins σ H s->(∀b∈fp,mV X pins H b)->tn i s.heap->J.stop i H ->
  wpAny (model P w) X.A (pyNext (.ref it)) (fun r s1=>r=none/\Inv X pins σ H s1) E s
 self:∀(A:Around) (i:Nat) (s:Shared) (Q:Value->Shared->Prop) (E:Value->Shared->Prop),tn i s.heap->Q (.ref it) s->wpAny (model P w) A (pyIter (.ref it)) Q E s
abbrev TI:=St->Hp->(It->Hp->Prop)->Prop
def PIE (X:Cx) (pins:List (Addr×Obj)) (σ:St) (tg:Expr) (R:It->Hp->Prop) (itv:Value) (s2:Shared):Prop:=
 ∃(it:Addr) (fp:List Addr) (tn:Nat->Heap->Prop) (J:It) (H':Hp),itv = .ref it/\Inv X pins σ H' s2/\Turn X.prog X.w X.K tg J fp it tn/\tn 0 s2.heap/\(∀b∈fp,mV X pins H' b)/\R J H'
def PI (X:Cx) (tg iter:Expr) (wi:TI):Prop:=
 ∀(pins:List (Addr×Obj)) (s:Shared) (σ:St) (H:Hp) (R:It->Hp->Prop),Inv X pins σ H s->wi σ H R ->
  wpAny (model X.prog X.w) X.A (eval iter X.env) (fun v s1=>wpAny (model X.prog X.w) X.A (pyIter v) (PIE X pins σ tg R) X.xe s1) X.xe s
theorem Dw {M:Model} {A:Around} {E:Value->Shared->Prop} {s:Shared} {tg:Expr} {it:Addr} {u:Value} {o:Obj} {n:String} {vs:Array Value} {Q:Unit->Shared->Prop} (ho:s.heap.get? it=some o) (hc:o.cls = .type n) (hd:o.data = .fields vs)
 (hn:["enumerate","zip","dict_itemiterator","dict_reverseitemiterator","odict_iterator","itertools.zip_longest","itertools.pairwise"].contains n=false) (hQ:Q () s):wpAny M A (letOwnedTupleGo tg (.ref it) u) Q E s:=by
 unfold letOwnedTupleGo
 cases tg<;>first
  | exact wpAny_pure hQ
  | (cases u<;>first
      | exact wpAny_pure hQ
      | (refine wpAny_bind (wpAny_load ho ?_)
         rw [hc,hd];show wpAny M A (if (["enumerate","zip","dict_itemiterator","dict_reverseitemiterator","odict_iterator","itertools.zip_longest","itertools.pairwise"].contains n&&vs[0]? == some (rawInt _))=true then _ else _) Q E s;rw [if_neg (by intro h;rw [hn,Bool.false_and] at h;cases h)];exact wpAny_pure hQ))
def Uy (K:PySem.W.Frag) (a:Addr):It:=
 ⟨fun i H=>∃xs x,bA K H a xs/\xs[i]? = some x,fun i H x H'=>H'=H /\ ∀xs,bA K H a xs->xs[i]? = some x,fun i H=>∃xs,bA K H a xs/\xs.length<=i⟩
def Itt (K:PySem.W.Frag) (a:Addr):It:=
 ⟨fun i H=>∃xs x,gC K H a xs/\xs[i]? = some x,fun i H x H'=>H'=H /\ ∀xs,gC K H a xs->xs[i]? = some x,fun i H=>∃xs,gC K H a xs/\xs.length<=i⟩
def Tp (lo:Int) (n:Nat):It:=⟨fun i _=>i<n,fun i H x H'=>H'=H/\x = .int (lo+i),fun i _=>n<=i⟩
theorem JD {P:Program} {w:World} {K:PySem.W.Frag} {tg:Expr} (a it:Addr):Turn P w K tg (Uy K a) [it] it (fun i h=>h.IsListIter it a i) where
 mem:=by simp
 obj:=fun i h st b hb=>by
  have e:b=it:=by simpa using hb
  subst e;obtain ⟨o,e,c,d⟩:=st;exact ⟨o,e,fun v z=>by rw [d] at z;cases z⟩
 keep:=fun i h h' st k=>st.at fun o e=>k it (by simp) o e
 item:=by
  intro X hP hw hK hc i pins s σ H E I hf st hg;subst hP hw hK;obtain ⟨xs,x,hq,hx⟩:=hg;obtain ⟨its,rv,p,hz⟩:=I.list hq;obtain ⟨u,hu,ru⟩:=rv.get hx;obtain ⟨f0,f1,f2,f3,f4,f5⟩:=hf it (by simp);refine wpAny_pyNext_list_item st p.isList (x:=u) (by simpa using hu) fun h' st' sb=> ?_;have I1:Inv X pins σ H {s with heap:=h'}:=I.turned (t':=s.toks) (fun b o hb e=>(sb.2 b hb).trans e) f0 f1 f3 f4 f5;obtain ⟨o,e,c,d⟩:=id st';exact ⟨u,rfl,Dw (s:={s with heap:=h'}) e c d (by decide) ⟨x,H,I1,ru,⟨rfl,fun ys hy=>by rw [I.wX hy hq];exact hx⟩,st',fun b hb=>(hf b hb).1⟩⟩
 done:=by
  intro X hP hw hK hc i pins s σ H E I hf st hg;subst hP hw hK;obtain ⟨xs,hq,hx⟩:=hg;obtain ⟨its,rv,p,hz⟩:=I.list hq;obtain ⟨f0,f1,f2,f3,f4,f5⟩:=hf it (by simp);have hl:=rv.length;exact wpAny_pyNext_list_end (I.ok.hd hc) st p.isList (by simp;omega) fun h' eb=>⟨rfl,I.turned (t':=s.toks) (fun b o hb e=>eb b o hb e) f0 f1 f3 f4 f5⟩
 self:=fun _ _ _ _ _ st h=>wpAny_pyIter_listiter st h
theorem Fl {P:Program} {w:World} {K:PySem.W.Frag} {tg:Expr} (a it:Addr):Turn P w K tg (Itt K a) [it] it (fun i h=>h.IsTupleIter it a i) where
 mem:=by simp
 obj:=fun i h st b hb=>by
  have e:b=it:=by simpa using hb
  subst e;obtain ⟨o,e,c,d⟩:=st;exact ⟨o,e,fun v z=>by rw [d] at z;cases z⟩
 keep:=fun i h h' st k=>st.at fun o e=>k it (by simp) o e
 item:=by
  intro X hP hw hK hc i pins s σ H E I hf st hg;subst hP hw hK;obtain ⟨xs,x,hq,hx⟩:=hg;obtain ⟨its,rv,p,hz⟩:=I.tuple hq;obtain ⟨u,hu,ru⟩:=rv.get hx;obtain ⟨f0,f1,f2,f3,f4,f5⟩:=hf it (by simp);refine wpAny_pyNext_tuple_item st (show s.heap.IsTuple a its.toArray from p) (x:=u) (by simpa using hu) fun h' st' sb=> ?_;have I1:Inv X pins σ H {s with heap:=h'}:=I.turned (t':=s.toks) (fun b o hb e=>(sb.2 b hb).trans e) f0 f1 f3 f4 f5;obtain ⟨o,e,c,d⟩:=id st';exact ⟨u,rfl,Dw (s:={s with heap:=h'}) e c d (by decide) ⟨x,H,I1,ru,⟨rfl,fun ys hy=>by rw [I.JH hy hq];exact hx⟩,st',fun b hb=>(hf b hb).1⟩⟩
 done:=by
  intro X hP hw hK hc i pins s σ H E I hf st hg;subst hP hw hK;obtain ⟨xs,hq,hx⟩:=hg;obtain ⟨its,rv,p,hz⟩:=I.tuple hq;obtain ⟨f0,f1,f2,f3,f4,f5⟩:=hf it (by simp);have hl:=rv.length;exact wpAny_pyNext_tuple_end (I.ok.hd hc) st (show s.heap.IsTuple a its.toArray from p) (by simp;omega) fun h' eb=>⟨rfl,I.turned (t':=s.toks) (fun b o hb e=>eb b o hb e) f0 f1 f3 f4 f5⟩
 self:=fun _ _ _ _ _ st h=>wpAny_pyIter_tupleiter st h
theorem Fo {P:Program} {w:World} {K:PySem.W.Frag} {tg:Expr} (it:Addr) (lo:Int) (n:Nat):Turn P w K tg (Tp lo n) [it] it (fun i h=>IsRangeIter h it (lo+(i:Nat)*1) ((n:Int) - (i:Nat)) 1) where
 mem:=by simp
 obj:=fun i h st b hb=>by
  have e:b=it:=by simpa using hb
  subst e
  exact ⟨_,st,fun v z=>by
   have z':Data.fields _=Data.cell v:=z;cases z'⟩
 keep:=fun i h h' st k=>k it (by simp) _ st
 item:=by
  intro X hP hw hK hc i pins s σ H E I hf st hg;subst hP hw hK;obtain ⟨f0,f1,f2,f3,f4,f5⟩:=hf it (by simp);have W:=Walks.range (prog:=X.prog) (w:=X.w) (I.ok.hd hc) it lo 1 n;refine W.item i s _ _ hg st fun v h' tk hv st' kk=> ?_;obtain ⟨t,rfl⟩:=hv;have I1:Inv X pins σ H {s with heap:=h',toks:=tk}:=I.turned (fun b o hb e=>kk b o (by simpa using hb) e) f0 f1 f3 f4 f5;refine ⟨_,rfl,Dw (s:={s with heap:=h',toks:=tk}) (n:= "range_iterator") st' rfl rfl (by decide) ⟨.int (lo+i),H,I1,⟨t, ?_⟩,⟨rfl,rfl⟩,st',fun b hb=>(hf b hb).1⟩⟩;rw [Int.mul_one]
 done:=by
  intro X hP hw hK hc i pins s σ H E I hf st hg;subst hP hw hK;obtain ⟨f0,f1,f2,f3,f4,f5⟩:=hf it (by simp);exact wpAny_pyNext_range_end (I.ok.hd hc) st (by have:n<=i:=hg;omega) fun h' eb=>⟨rfl,I.turned (t':=s.toks) (fun b o hb e=>eb b o hb e) f0 f1 f3 f4 f5⟩
 self:=fun _ _ _ _ _ st h=>wpAny_pyIter_rangeiter st h
end L2
namespace L2
open PySem PySem.Spec PyProof.Rows
section
variable {X:Cx} {tg:Expr}
def Uj (K:PySem.W.Frag) (tl:TE):TI:=fun σ H R=>tl σ H fun x H1=>∃a,x = .ref a/\(∃xs,bA K H1 a xs)/\R (Uy K a) H1
def Yu (K:PySem.W.Frag) (tl:TE):TI:=fun σ H R=>tl σ H fun x H1=>∃a,x = .ref a/\(∃xs,gC K H1 a xs)/\R (Itt K a) H1
theorem Rf {l:Expr} {tl:TE} (hl:PE X l tl):PI X tg l (Uj X.K tl):=by
 intro pins s σ H R I h;refine cP (hl pins s σ H _ I h) fun v s1 ⟨x,H1,I1,r1,q1⟩=> ?_;obtain ⟨a,e,⟨xs,hq⟩,q⟩:=q1;subst e;cases r1;obtain ⟨its,rv,p,hz⟩:=I1.list hq;refine wpAny_pyIter_list p.isList ?_;refine ⟨s1.heap.objs.size,[s1.heap.objs.size],_,_,H1,rfl,I1.kept (t':=s1.toks) fun b o e=>Heap.get?_push_of_some _ e,JD a _,⟨_,Heap.get?_push_size _ rfl,rfl,rfl⟩,fun b hb=> ?_,q⟩;have e:b=s1.heap.objs.size:=by simpa using hb
 subst e;exact I1.Ar (Nat.le_refl _) (I1.hok.fresh (Nat.le_refl _))
theorem Vh {l:Expr} {tl:TE} (hl:PE X l tl):PI X tg l (Yu X.K tl):=by
 intro pins s σ H R I h;refine cP (hl pins s σ H _ I h) fun v s1 ⟨x,H1,I1,r1,q1⟩=> ?_;obtain ⟨a,e,⟨xs,hq⟩,q⟩:=q1;subst e;cases r1;obtain ⟨its,rv,p,hz⟩:=I1.tuple hq;refine wpAny_pyIter_tuple (show s1.heap.IsTuple a its.toArray from p) ?_;refine ⟨s1.heap.objs.size,[s1.heap.objs.size],_,_,H1,rfl,I1.kept (t':=s1.toks) fun b o e=>Heap.get?_push_of_some _ e,Fl a _,⟨_,Heap.get?_push_size _ rfl,rfl,rfl⟩,fun b hb=> ?_,q⟩;have e:b=s1.heap.objs.size:=by simpa using hb
 subst e;exact I1.Ar (Nat.le_refl _) (I1.hok.fresh (Nat.le_refl _))
theorem M8 {pins:List (Addr×Obj)} {σ:St} {H:Hp} {s:Shared} {R:It->Hp->Prop} {E:Value->Shared->Prop} {lo hi:Int} {t u v:Tok} {tk:Nat} (I:Inv X pins σ H s) (h1: -(2 ^ 62)<=lo) (h2:lo<2 ^ 62) (h3: -(2 ^ 62)<=hi) (h4:hi<2 ^ 62)
 (q:R (Tp lo (hi - lo).toNat) H):wpAny (model X.prog X.w) X.A (pyIter (.ref s.heap.objs.size)) (PIE X pins σ tg R) E {s with heap:=s.heap.push {cls:= .type "range",data:= .fields #[.int lo t,.int hi u,.int 1 v]},toks:=tk}:=by
 refine wpAny_pyIter_range (IsRange.new ..) (small_one h1 h2 h3 h4) ?_;have I1:Inv X pins σ H {s with heap:=s.heap.push {cls:= .type "range",data:= .fields #[.int lo t,.int hi u,.int 1 v]},toks:=tk}:=I.kept fun b o e=>Heap.get?_push_of_some _ e
 refine ⟨(s.heap.push {cls:= .type "range",data:= .fields #[.int lo t,.int hi u,.int 1 v]}).objs.size,[(s.heap.push {cls:= .type "range",data:= .fields #[.int lo t,.int hi u,.int 1 v]}).objs.size],_,_,H,rfl,
  I1.kept (t':=tk) fun b o e=>Heap.get?_push_of_some _ e,Fo _ lo (hi - lo).toNat, ?_,fun b hb=> ?_,q⟩
 ·have e1:lo+((0:Nat):Int)*1=lo:=by simp
  have e2:(((hi - lo).toNat:Nat):Int) - ((0:Nat):Int)=Builtin.Range.rangeSize lo hi 1:=by rw [rangeSize_one];split<;>omega
  show IsRangeIter _ _ (lo+((0:Nat):Int)*1) ((((hi - lo).toNat:Nat):Int) - ((0:Nat):Int)) 1;rw [e1,e2];exact Heap.get?_push_size _ rfl
 ·have e:b=(s.heap.push {cls:= .type "range",data:= .fields #[.int lo t,.int hi u,.int 1 v]}).objs.size:=by simpa using hb
  subst e;exact I1.Ar (Nat.le_refl _) (I1.hok.fresh (Nat.le_refl _))
def Ui (ta:TA):TI:=fun σ H R=>ta σ H fun vs H1=>∃j:Int,vs=[.int j] /\ -(2 ^ 62)<=j/\j<2 ^ 62/\R (Tp 0 j.toNat) H1
theorem dJ {a:Expr} {ta:TA} {p pos:Pos} (hg:Gl X "range") (hm:X.mg "range" = none) (ha:PA X [a] ta) (hs:starEach [a] X.env=[(false,eval a X.env)]:=by rfl):PI X tg (.Call (.Name "range" p) [a] [] pos) (Ui ta):=by
 intro pins s σ H R I h;refine Call_ (uh I hg hm boot_range (PyProof.Rows.callWith_type1 (cP (ha pos pins s σ H _ I h) fun us s1 ⟨vs,H1,I1,r1,q1⟩=> ?_) hs rfl));obtain ⟨j,e,q1,q2,q⟩:=q1;subst e;cases r1 with
 | cons r rr=>
   cases rr;obtain ⟨t,rfl⟩:=r;exact call_range_1 (M8 I1 (by omega) (by omega) q1 q2 (by simpa using q))
def abB (wi:TI) (g:TG) (tb:TS):TS:=fun D σ H=>wi σ H fun J H1=>∃W:Nat->Nat->St->Hp->Prop,(∃m,W 0 m σ H1) /\ ∀i m σ H,W i m σ H ->
 (J.stop i H/\D.nx σ H)\/(J.go i H /\ ∃N:St->Hp->Prop,(∀σ' H',N σ' H' -> ∃m',m'<m/\W (i+1) m' σ' H') /\ ∀x H',J.Uz i H x H'->g x σ H' fun σ2 H2=>tb {D with nx:=N,ct:=N,bk:=D.nx} σ2 H2)
def tZ (fp:List Addr) (h:Heap):List (Addr×Obj):=fp.filterMap fun b=>(h.get? b).map fun o=>(b,o)
theorem iU {fp:List Addr} {h:Heap} {b:Addr} {o:Obj} (hb:b∈fp) (e:h.get? b=some o):(b,o)∈tZ fp h:=List.mem_filterMap.mpr ⟨b,hb,by rw [e];rfl⟩
theorem Ka {fp:List Addr} {h:Heap} {p:Addr×Obj} (hp:p∈tZ fp h):p.1∈fp/\h.get? p.1=some p.2:=by
 obtain ⟨b,hb,e⟩:=List.mem_filterMap.mp hp;cases q:h.get? b with
 | none=>rw [q] at e;cases e
 | some o=>
   rw [q] at e;have e':(b,o)=p:=Option.some.inj e;subst e';exact ⟨hb,q⟩
theorem Inv.pinned {pins:List (Addr×Obj)} {σ:St} {H:Hp} {s:Shared} {fp:List Addr} (I:Inv X pins σ H s) (hf:∀b∈fp,mV X pins H b) (ho:∀b∈fp,∃o,s.heap.get? b=some o /\ ∀v,o.data ≠ .cell v):Inv X (pins++tZ fp s.heap) σ H s:=
 I.Iv fun p hp=>(List.mem_append.mp hp).elim (fun z=>I.pin p (List.mem_append_right _ z)) fun z=>by
  obtain ⟨hb,e⟩:=Ka z;obtain ⟨f0,f1,f2,_⟩:=hf p.1 hb;obtain ⟨o,e',d⟩:=ho p.1 hb;rw [e] at e';cases e';exact ⟨e,f0,f1,f2,d⟩
theorem Inv.nu {pins pl:List (Addr×Obj)} {σ:St} {H:Hp} {s:Shared} (I:Inv X (pins++pl) σ H s):Inv X pins σ H s:=I.Iv fun p hp=>I.pin p (List.mem_append_right _ (List.mem_append_left _ hp))
theorem mz {iter:Expr} {body:List Stmt} {wi:TI} {g:TG} {tb:TS} {pos:Pos} (hp:PassesOwn (model X.prog X.w) X.A X.env X.xe) (hc:X.calm=true) (hi:PI X tg iter wi) (hg:PG X tg g) (hb:Ht X body tb)
 (hs:∀x,foldedSetIterable iter X.env x=pure x:=by intro _;rfl):PS X (.For tg iter body [] pos) (abB wi g tb):=by
 intro pins s σ H D I h;refine wpAny_For (cP (hi pins s σ H _ I h) fun v s1 h1=>cP h1 fun itv s2 h2=> ?_) hs;obtain ⟨it,fp,tn,J,H2,e,I2,T,st2,f2,W,⟨m0,w0⟩,turn⟩:=h2;subst e;have stat:∀{H':Hp},(∀b∈fp,H' b=none) -> ∀b∈fp,mV X pins H' b:=fun hn b hb=>⟨hn b hb,(f2 b hb).2⟩;refine codeAny_forLoop_any (fun n s'=>∃i σ' H',Inv X pins σ' H' s'/\tn i s'.heap/\(∀b∈fp,H' b=none)/\W i n σ' H') ?_ m0 ⟨0,σ,H2,I2,st2,fun b hb=>(f2 b hb).1,w0⟩;rintro n s3 ⟨i,σ3,H3,I3,st3,Um,w3⟩;rcases turn i n σ3 H3 w3 with ⟨stop,qn⟩|⟨go,N,hN,step⟩
 ·refine wpAny_passesOwn hp (cP (T.done X rfl rfl rfl hc i pins s3 σ3 H3 X.xe I3 (stat Um) st3 stop) fun r s4 ⟨hr,I4⟩=> ?_)
  subst hr;exact wpAny_execs_nil ⟨σ3,H3,I4,qn⟩
 ·refine wpAny_passesOwn hp (cP (T.item X rfl rfl rfl hc i pins s3 σ3 H3 X.xe I3 (stat Um) st3 go) fun r s4 ⟨u,hr,h4⟩=> ?_)
  subst hr;refine wpAny_passesOwn hp (cP h4 fun _ s5 ⟨x,H5,I5,r5,y5,yE,YC⟩=> ?_);have Z_:=I5.pinned (stat YC) (T.obj _ _ yE);refine wpAny_passesOwn hp (cP (hg _ s5 σ3 H5 x u _ Z_ r5 (step x H5 y5)) fun _ s6 ⟨σ6,H6,I6,q6⟩=> ?_);refine wpAny_passesOwn hp (cP (hb _ s6 σ6 H6 _ I6 q6) fun f s7 q7=> ?_)
  have again:∀{σ7:St} {H7:Hp},Inv X (pins++tZ fp s5.heap) σ7 H7 s7->N σ7 H7 -> ∃m,m<n /\ ∃i σ' H',Inv X pins σ' H' s7/\tn i s7.heap/\(∀b∈fp,H' b=none)/\W i m σ' H':=fun {σ7 H7} I7 n7=>by
   obtain ⟨m',hm,w7⟩:=hN σ7 H7 n7;refine ⟨m',hm,i+1,σ7,H7,I7.nu,T.keep _ _ _ yE fun b hb o e=>(I7.pin (b,o) (List.mem_append_right _ (List.mem_append_right _ (iU hb e)))).1,fun b hb=> ?_,w7⟩;obtain ⟨o,e,d⟩:=T.obj _ _ yE b hb;exact (I7.pin (b,o) (List.mem_append_right _ (List.mem_append_right _ (iU hb e)))).2.1
  cases f with
  | next=>obtain ⟨σ7,H7,I7,n7⟩:=q7;exact again I7 n7
  | cont=>obtain ⟨σ7,H7,I7,n7⟩:=q7;exact again I7 n7
  | brk=>obtain ⟨σ7,H7,I7,q7⟩:=q7;exact ⟨σ7,H7,I7.nu,q7⟩
  | ret v=>obtain ⟨x7,σ7,H7,I7,r7,q7⟩:=q7;exact ⟨x7,σ7,H7,I7.nu,r7,q7⟩
end
theorem xJ {K:PySem.W.Frag} {a:Addr} {xs:List V} {g:TG} {tb:TS} {D:Ends} {σ:St} {H:Hp} (Pv:Nat->St->Hp->Prop) (h0:Pv 0 σ H) (hl:∀i σ H,i<=xs.length->Pv i σ H->bA K H a xs)
 (hs:∀i x σ H,xs[i]? = some x->Pv i σ H->g x σ H fun σ2 H2=>tb {D with nx:=Pv (i+1),ct:=Pv (i+1),bk:=D.nx} σ2 H2) (hd:∀σ H,Pv xs.length σ H->D.nx σ H):
 ∃W:Nat->Nat->St->Hp->Prop,(∃m,W 0 m σ H) /\ ∀i m σ H,W i m σ H ->
  ((Uy K a).stop i H/\D.nx σ H)\/((Uy K a).go i H /\ ∃N:St->Hp->Prop,(∀σ' H',N σ' H' -> ∃m',m'<m/\W (i+1) m' σ' H') /\ ∀x H',(Uy K a).Uz i H x H'->g x σ H' fun σ2 H2=>tb {D with nx:=N,ct:=N,bk:=D.nx} σ2 H2):=by
 refine ⟨fun i m σ H=>m=xs.length - i/\i<=xs.length/\Pv i σ H,⟨xs.length,by simp,Nat.zero_le _,h0⟩, ?_⟩;rintro i m σ H ⟨rfl,hi,p⟩;have q:=hl i σ H hi p
 by_cases hlt:i<xs.length
 ·refine .inr ⟨⟨xs,xs[i],q,by simp [hlt]⟩,Pv (i+1),fun σ' H' p'=>⟨xs.length - (i+1),by omega,rfl,hlt,p'⟩,fun x H' y=> ?_⟩
  obtain ⟨e,y⟩:=y;subst e;exact hs i x σ _ (y xs q) p
 ·have e:i=xs.length:=by omega
  subst e;exact .inl ⟨⟨xs,q,Nat.le_refl _⟩,hd σ H p⟩
theorem ux {lo:Int} {n:Nat} {g:TG} {tb:TS} {D:Ends} {σ:St} {H:Hp} (Pv:Nat->St->Hp->Prop) (h0:Pv 0 σ H)
 (hs:∀i σ H,i<n->Pv i σ H->g (.int (lo+i)) σ H fun σ2 H2=>tb {D with nx:=Pv (i+1),ct:=Pv (i+1),bk:=D.nx} σ2 H2) (hd:∀σ H,Pv n σ H->D.nx σ H):
 ∃W:Nat->Nat->St->Hp->Prop,(∃m,W 0 m σ H) /\ ∀i m σ H,W i m σ H ->
  ((Tp lo n).stop i H/\D.nx σ H)\/((Tp lo n).go i H /\ ∃N:St->Hp->Prop,(∀σ' H',N σ' H' -> ∃m',m'<m/\W (i+1) m' σ' H') /\ ∀x H',(Tp lo n).Uz i H x H'->g x σ H' fun σ2 H2=>tb {D with nx:=N,ct:=N,bk:=D.nx} σ2 H2):=by
 refine ⟨fun i m σ H=>m=n - i/\i<=n/\Pv i σ H,⟨n,by simp,Nat.zero_le _,h0⟩, ?_⟩;rintro i m σ H ⟨rfl,hi,p⟩
 by_cases hlt:i<n
 ·refine .inr ⟨hlt,Pv (i+1),fun σ' H' p'=>⟨n - (i+1),by omega,rfl,hlt,p'⟩,fun x H' y=> ?_⟩
  obtain ⟨e,y⟩:=y;subst e y;exact hs i σ _ hlt p
 ·have e:i=n:=by omega
  subst e;exact .inl ⟨Nat.le_refl _,hd σ H p⟩
end L2
namespace L2
open PySem PySem.Spec PyProof.Rows
abbrev R2:=V->V->Hp->VK->Prop
def pX (X:Cx) (f:Value->Value->Sem Value) (r:R2):Prop:=
 ∀(pins:List (Addr×Obj)) (s:Shared) (σ:St) (H:Hp) (x y:V) (v u:Value) (Q:VK),Inv X pins σ H s->RelV x v->RelV y u->r x y H Q ->
  wpAny (model X.prog X.w) X.A (f v u) (EP X pins σ Q) X.xe s
def UnR (X:Cx) (f:Value->Sem Value) (r:V->Hp->VK->Prop):Prop:=
 ∀(pins:List (Addr×Obj)) (s:Shared) (σ:St) (H:Hp) (x:V) (v:Value) (Q:VK),Inv X pins σ H s->RelV x v->r x H Q ->
  wpAny (model X.prog X.w) X.A (f v) (EP X pins σ Q) X.xe s
def iJ (X:Cx) (f:Value) (r:List V->Hp->VK->Prop):Prop:=
 ∀(pins:List (Addr×Obj)) (s:Shared) (σ:St) (H:Hp) (xs:List V) (us:List Value) (Q:VK),Inv X pins σ H s->Vals xs us->r xs H Q ->
  wpAny (model X.prog X.w) X.A (call f us) (EP X pins σ Q) X.xe s
def ahg (X:Cx) (r:V->Hp->(Bool->Hp->Prop)->Prop):Prop:=
 ∀(pins:List (Addr×Obj)) (s:Shared) (σ:St) (H:Hp) (x:V) (v:Value) (Q:Bool->Hp->Prop),Inv X pins σ H s->RelV x v->r x H Q ->
  wpAny (model X.prog X.w) X.A (truthy v) (TP X pins σ Q) X.xe s
def HX (r:R2) (ta tb:TE):TE:=fun σ H Q=>ta σ H fun x H1=>tb σ H1 fun y H2=>r x y H2 Q
def tUn (r:V->Hp->VK->Prop) (ta:TE):TE:=fun σ H Q=>ta σ H fun x H1=>r x H1 Q
def rI (C:Int->Int->Prop) (g:Int->Int->V):R2:=fun x y H Q=>∃i j,x = .int i/\y = .int j/\C i j/\Q (g i j) H
def TY (g:Int->Int->V):R2:=fun x y H Q=>∃i j,x = .int i/\y = .int j/\Q (g i j) H
def rU (g:Int->V):V->Hp->VK->Prop:=fun x H Q=>∃i,x = .int i/\Q (g i) H
section
variable {X:Cx} {a b c:Expr} {ta tb tc:TE} {pos:Pos}
theorem Wq (ha:PE X a ta) (hb:PE X b tb) {pins:List (Addr×Obj)} {s:Shared} {σ:St} {H:Hp} {R:V->V->Hp->Prop} (I:Inv X pins σ H s)
 (h:ta σ H fun x H1=>tb σ H1 fun y H2=>R x y H2) {Q:Value->Shared->Prop} {f:Value->Value->Sem Value}
 (hf:∀v u s2 x y H2,Inv X pins σ H2 s2->RelV x v->RelV y u->R x y H2->wpAny (model X.prog X.w) X.A (f v u) Q X.xe s2):
 wpAny (model X.prog X.w) X.A (eval a X.env) (fun v s₁=>wpAny (model X.prog X.w) X.A (eval b X.env) (fun u s₂=>wpAny (model X.prog X.w) X.A (f v u) Q X.xe s₂) X.xe s₁) X.xe s:=by
 refine cP (ha pins s σ H _ I h) fun v s1 ⟨x,H1,I1,r1,q1⟩=> ?_;refine cP (hb pins s1 σ H1 _ I1 q1) fun u s2 ⟨y,H2,I2,r2,q2⟩=> ?_;exact hf v u s2 x y H2 I2 r1 r2 q2
theorem bB {op:Operator} {r:R2} (ho:pX X (binaryOp op) r) (ha:PE X a ta) (hb:PE X b tb):PE X (.BinOp a op b pos) (HX r ta tb):=by
 intro pins s σ H Q I h;exact wpAny_BinOp (Wq ha hb I h fun v u s2 x y H2 I2 rx ry q=>ho pins s2 σ H2 x y v u Q I2 rx ry q)
theorem wK {op:UnaryOp} {r:V->Hp->VK->Prop} (ho:UnR X (unaryOp op) r) (ha:PE X a ta):PE X (.UnaryOp op a pos) (tUn r ta):=by
 intro pins s σ H Q I h;exact UnaryOp_ (cP (ha pins s σ H _ I h) fun v s1 ⟨x,H1,I1,r1,q1⟩=>ho pins s1 σ H1 x v Q I1 r1 q1)
theorem Yc {f:Value->Value->Sem Value} {C:Int->Int->Prop} {g:Int->Int->Int}
 (rule:∀(i j:Int) (t u:Tok) (s:Shared) (Q:Value->Shared->Prop) (E:Value->Shared->Prop),C i j->Q (.int (g i j) s.toks) {s with toks:=s.toks+1}->wpAny (model X.prog X.w) X.A (f (.int i t) (.int j u)) Q E s):
 pX X f (rI C fun i j=> .int (g i j)):=by
 intro pins s σ H x y v u Q I rx ry h;obtain ⟨i,j,rfl,rfl,hc,q⟩:=h;obtain ⟨t,rfl⟩:=rx;obtain ⟨t',rfl⟩:=ry;exact rule i j t t' s _ _ hc ⟨.int (g i j),H,I.tok _,⟨_,rfl⟩,q⟩
theorem Yb {f:Value->Value->Sem Value} {g:Int->Int->Int}
 (rule:∀(i j:Int) (t u:Tok) (s:Shared) (Q:Value->Shared->Prop) (E:Value->Shared->Prop),Q (.int (g i j) s.toks) {s with toks:=s.toks+1}->wpAny (model X.prog X.w) X.A (f (.int i t) (.int j u)) Q E s):
 pX X f (TY fun i j=> .int (g i j)):=by
 intro pins s σ H x y v u Q I rx ry h;obtain ⟨i,j,rfl,rfl,q⟩:=h;obtain ⟨t,rfl⟩:=rx;obtain ⟨t',rfl⟩:=ry;exact rule i j t t' s _ _ ⟨.int (g i j),H,I.tok _,⟨_,rfl⟩,q⟩
theorem Ro {f:Value->Value->Sem Value} {g:Int->Int->Bool}
 (rule:∀(i j:Int) (t u:Tok) (s:Shared) (Q:Value->Shared->Prop) (E:Value->Shared->Prop),Q (.bool (g i j)) s->wpAny (model X.prog X.w) X.A (f (.int i t) (.int j u)) Q E s):
 pX X f (TY fun i j=> .bl (g i j)):=by
 intro pins s σ H x y v u Q I rx ry h;obtain ⟨i,j,rfl,rfl,q⟩:=h;obtain ⟨t,rfl⟩:=rx;obtain ⟨t',rfl⟩:=ry;exact rule i j t t' s _ _ ⟨.bl (g i j),H,I,rfl,q⟩
def Qm (i j:Int):Prop:=0<j/\j<1073741824
def Tt (i j:Int):Prop:=0<=j/\j<=1000000/\i.natAbs<2 ^ 64
def Wz (i j:Int):Prop:=(-(2 ^ 64)<i/\i<2 ^ 64)\/(-(2 ^ 64)<j/\j<2 ^ 64)
theorem Wz.ok {i j:Int} (h:Wz i j):IntMulOk i j:=by
 rcases h with ⟨h1,h2⟩|⟨h1,h2⟩
 ·exact .of_left (intBits_le_64 h1 h2)
 ·exact .of_right (intBits_le_64 h1 h2)
theorem fu:pX X (binaryOp .Add) (TY fun i j=> .int (i+j)):=Yb fun _ _ _ _ _ _ _ q=>add_int q
theorem wM:pX X (binaryOp .Sub) (TY fun i j=> .int (i - j)):=Yb fun _ _ _ _ _ _ _ q=>sub_int q
theorem nW:pX X (binaryOp .Mult) (rI Wz fun i j=> .int (i*j)):=Yc fun _ _ _ _ _ _ _ hc q=>mul_int q hc.ok
theorem vL:pX X (binaryOp .FloorDiv) (rI Qm fun i j=> .int (i / j)):=Yc fun i j _ _ _ _ _ hc q=>by
 have h1:(0:Int)<j:=hc.1;have h2:j<1073741824:=hc.2;exact floordiv_int (by omega) (by rw [Int.fdiv_eq_ediv_of_nonneg i (by omega)];exact q) (.inl (PyProof.noPylong_small (by omega)))
theorem kW:pX X (binaryOp .Mod) (rI (fun _ j=>0<j) fun i j=> .int (i % j)):=Yc fun i j _ _ _ _ _ hc q=>by
 have h1:(0:Int)<j:=hc;exact mod_int' (by omega) (by rw [Int.fmod_eq_emod_of_nonneg i (by omega)];exact q)
theorem Gg:pX X (binaryOp .Pow) (rI Tt fun i j=> .int (i ^ j.toNat)):=Yc fun _ _ _ _ _ _ _ hc q=>pow_int_small hc.1 hc.2.1 hc.2.2 q
theorem unI {f:Value->Sem Value} {g:Int->Int}
 (rule:∀(i:Int) (t:Tok) (s:Shared) (Q:Value->Shared->Prop) (E:Value->Shared->Prop),Q (.int (g i) s.toks) {s with toks:=s.toks+1}->wpAny (model X.prog X.w) X.A (f (.int i t)) Q E s):
 UnR X f (rU fun i=> .int (g i)):=by
 intro pins s σ H x v Q I rx h;obtain ⟨i,rfl,q⟩:=h;obtain ⟨t,rfl⟩:=rx;exact rule i t s _ _ ⟨.int (g i),H,I.tok _,⟨_,rfl⟩,q⟩
theorem qC:UnR X (unaryOp .USub) (rU fun i=> .int (-i)):=unI fun _ _ _ _ _ q=>neg_int q
end
def Xp:V->V->Bool
 | .non,.non=>true | .non,.int _=>true | .int _,.non=>true | .non,.bl _=>true | .bl _,.non=>true | .non,.str _=>true | .str _,.non=>true
 | .int _,.int _=>true | .bl _,.bl _=>true | .str _,.str _=>true | .Ho _,.Ho _=>true
 | .int _,.str _=>true | .str _,.int _=>true | .bl _,.str _=>true | .str _,.bl _=>true
 | _,_=>false
def rEq:R2:=fun x y H Q=>Xp x y=true/\Q (.bl (decide (x=y))) H
def rNe:R2:=fun x y H Q=>Xp x y=true/\Q (.bl (!decide (x=y))) H
theorem Ji {i j:Int}:decide (V.int i=V.int j)=(i==j):=by
 rw [Bool.eq_iff_iff];simp
theorem Ph {i j:Bool}:decide (V.bl i=V.bl j)=(i==j):=by
 rw [Bool.eq_iff_iff];simp
theorem Jh {i j:Str}:decide (V.str i=V.str j)=(i==j):=by
 rw [Bool.eq_iff_iff];simp
theorem Jj {i j:Array UInt8}:decide (V.Ho i=V.Ho j)=(i.toList==j.toList):=by
 rw [Bool.eq_iff_iff];cases i;cases j;simp
section
variable {X:Cx} {a b c:Expr} {ta tb tc:TE} {pos:Pos}
theorem cD {pins:List (Addr×Obj)} {σ:St} {H:Hp} {s:Shared} {Q:VK} {k k':Bool} (I:Inv X pins σ H s) (q:Q (.bl k) H) (e:k=k'):EP X pins σ Q (.bool k') s:=by
 subst e;exact ⟨.bl k,H,I,rfl,q⟩
theorem mW:pX X (compareOp .Eq) rEq:=by
 intro pins s σ H x y v u Q I rx ry h;obtain ⟨hs,q⟩:=h;cases x with
 | non=>
   cases rx;cases y with
   | non=>cases ry;exact PySem.EqNone.eq_none_none (cD I q (by simp))
   | bl j=>cases ry;exact PySem.EqNone.eq_none_bool (cD I q (by simp))
   | int j=>obtain ⟨t',rfl⟩:=ry;exact PySem.EqNone.eq_none_int (cD I q (by simp))
   | str j=>obtain ⟨t',rfl⟩:=ry;exact PySem.EqNone.eq_none_str (cD I q (by simp))
   | _=>exact absurd (show false=true from hs) Bool.false_ne_true
 | bl i=>
   cases rx;cases y with
   | non=>cases ry;exact PySem.EqNone.eq_bool_none (cD I q (by simp))
   | bl j=>cases ry;exact eq_bool (cD I q Ph)
   | str j=>obtain ⟨t',rfl⟩:=ry;exact PySem.EqMixed.eq_bool_str (cD I q (by simp))
   | _=>exact absurd (show false=true from hs) Bool.false_ne_true
 | int i=>
   obtain ⟨t,rfl⟩:=rx;cases y with
   | non=>cases ry;exact PySem.EqNone.eq_int_none (cD I q (by simp))
   | int j=>obtain ⟨t',rfl⟩:=ry;exact eq_int (cD I q Ji)
   | str j=>obtain ⟨t',rfl⟩:=ry;exact PySem.EqMixed.eq_int_str (cD I q (by simp))
   | _=>exact absurd (show false=true from hs) Bool.false_ne_true
 | str i=>
   obtain ⟨t,rfl⟩:=rx;cases y with
   | non=>cases ry;exact PySem.EqNone.eq_str_none (cD I q (by simp))
   | bl j=>cases ry;exact PySem.EqMixed.eq_str_bool (cD I q (by simp))
   | int j=>obtain ⟨t',rfl⟩:=ry;exact PySem.EqMixed.eq_str_int (cD I q (by simp))
   | str j=>obtain ⟨t',rfl⟩:=ry;exact eq_str (cD I q Jh)
   | _=>exact absurd (show false=true from hs) Bool.false_ne_true
 | Ho i=>
   obtain ⟨t,rfl⟩:=rx;cases y with
   | Ho j=>obtain ⟨t',rfl⟩:=ry;exact PySem.W.eq_bytes (cD I q Jj)
   | _=>exact absurd (show false=true from hs) Bool.false_ne_true
 | _=>cases y<;>exact absurd (show false=true from hs) Bool.false_ne_true
theorem k_:pX X (compareOp .NotEq) rNe:=by
 intro pins s σ H x y v u Q I rx ry h;obtain ⟨hs,q⟩:=h;cases x with
 | non=>
   cases rx;cases y with
   | non=>cases ry;exact PySem.EqNone.ne_none_none (cD I q (by simp))
   | bl j=>cases ry;exact PySem.EqNone.ne_none_bool (cD I q (by simp))
   | int j=>obtain ⟨t',rfl⟩:=ry;exact PySem.EqNone.ne_none_int (cD I q (by simp))
   | str j=>obtain ⟨t',rfl⟩:=ry;exact PySem.EqNone.ne_none_str (cD I q (by simp))
   | _=>exact absurd (show false=true from hs) Bool.false_ne_true
 | bl i=>
   cases rx;cases y with
   | non=>cases ry;exact PySem.EqNone.ne_bool_none (cD I q (by simp))
   | bl j=>cases ry;exact ne_bool (cD I q (congrArg not Ph))
   | str j=>obtain ⟨t',rfl⟩:=ry;exact PySem.EqMixed.ne_bool_str (cD I q (by simp))
   | _=>exact absurd (show false=true from hs) Bool.false_ne_true
 | int i=>
   obtain ⟨t,rfl⟩:=rx;cases y with
   | non=>cases ry;exact PySem.EqNone.ne_int_none (cD I q (by simp))
   | int j=>obtain ⟨t',rfl⟩:=ry;exact ne_int (cD I q (congrArg not Ji))
   | str j=>obtain ⟨t',rfl⟩:=ry;exact PySem.EqMixed.ne_int_str (cD I q (by simp))
   | _=>exact absurd (show false=true from hs) Bool.false_ne_true
 | str i=>
   obtain ⟨t,rfl⟩:=rx;cases y with
   | non=>cases ry;exact PySem.EqNone.ne_str_none (cD I q (by simp))
   | bl j=>cases ry;exact PySem.EqMixed.ne_str_bool (cD I q (by simp))
   | int j=>obtain ⟨t',rfl⟩:=ry;exact PySem.EqMixed.ne_str_int (cD I q (by simp))
   | str j=>obtain ⟨t',rfl⟩:=ry;exact ne_str (cD I q (congrArg not Jh))
   | _=>exact absurd (show false=true from hs) Bool.false_ne_true
 | Ho i=>
   obtain ⟨t,rfl⟩:=rx;cases y with
   | Ho j=>obtain ⟨t',rfl⟩:=ry;exact PySem.W.ne_bytes (cD I q (congrArg not Jj))
   | _=>exact absurd (show false=true from hs) Bool.false_ne_true
 | _=>cases y<;>exact absurd (show false=true from hs) Bool.false_ne_true
theorem uM:pX X (compareOp .Lt) (TY fun i j=> .bl (decide (i<j))):=Ro fun _ _ _ _ _ _ _ q=>lt_int q
theorem Nv:pX X (compareOp .LtE) (TY fun i j=> .bl (decide (i<=j))):=Ro fun _ _ _ _ _ _ _ q=>le_int q
theorem X_:pX X (compareOp .Gt) (TY fun i j=> .bl (decide (j<i))):=Ro fun _ _ _ _ _ _ _ q=>gt_int q
theorem T_:pX X (compareOp .GtE) (TY fun i j=> .bl (decide (j<=i))):=Ro fun _ _ _ _ _ _ _ q=>ge_int q
def isObj:HO->Bool
 | .lst _=>true
 | .ins _ _ _=>true
 | _=>false
theorem bD (b:Expr) {op:CmpOp} (h:op ≠ .In:=by decide) (h2:op ≠ .NotIn:=by decide):behindInMarks op b=false:=by
 have e1:(op==CmpOp.In)=false:=by cases op<;>first |rfl|exact absurd rfl h
 have e2:(op==CmpOp.NotIn)=false:=by cases op<;>first |rfl|exact absurd rfl h2
 cases b<;>simp [behindInMarks,e1,e2]
theorem eO {op:CmpOp} {r:R2} (ho:pX X (compareOp op) r) (ha:PE X a ta) (hb:PE X b tb) (hm:behindInMarks op b=false):PE X (.Compare a [op] [b] pos) (HX r ta tb):=by
 intro pins s σ H Q I h;exact wpAny_Compare1 (Wq ha hb I h fun v u s2 x y H2 I2 rx ry q=>ho pins s2 σ H2 x y v u Q I2 rx ry q) hm
def HW (t:TE):TT:=fun σ H Q=>t σ H fun x H'=>∃k,x = .bl k/\Q k H'
theorem bY {op:CmpOp} {r:R2} (ho:pX X (compareOp op) r) (ha:PE X a ta) (hb:PE X b tb) (hm:behindInMarks op b=false):PT X (.Compare a [op] [b] pos) (HW (HX r ta tb)):=by
 intro pins s σ H Q I h
 refine wpAny_isTrue_Compare1 (cP (ha pins s σ H _ I h) fun v s1 ⟨x,H1,I1,r1,q1⟩=>cP (hb pins s1 σ H1 _ I1 q1) fun u s2 ⟨y,H2,I2,r2,q2⟩=>
  cP (ho pins s2 σ H2 x y v u _ I2 r1 r2 q2) fun c s3 ⟨z,H3,I3,r3,k,e,q3⟩=> ?_) hm
 subst e;cases r3;exact wpAny_truthy_bool ⟨H3,I3,q3⟩
def Mx (r r':R2) (ta tb tc:TE):TE:=fun σ H Q=>ta σ H fun x H1=>tb σ H1 fun y H2=>r x y H2 fun z H3=>∃k,z = .bl k /\
 (if k=true then tc σ H3 fun w' H4=>r' y w' H4 Q else Q (.bl false) H3)
theorem Nu {op op':CmpOp} {r r':R2} (ho:pX X (compareOp op) r) (ho':pX X (compareOp op') r') (ha:PE X a ta) (hb:PE X b tb) (hc:PE X c tc)
 (hm:lastMarks [op,op'] [b,c]=false:=by with_unfolding_all rfl):PE X (.Compare a [op,op'] [b,c] pos) (Mx r r' ta tb tc):=by
 intro pins s σ H Q I h
 refine Compare_chain (cP (ha pins s σ H _ I h) fun v s1 ⟨x,H1,I1,r1,q1⟩=>chain_link (cP (hb pins s1 σ H1 _ I1 q1) fun u s2 ⟨y,H2,I2,r2,q2⟩=>
  cP (ho pins s2 σ H2 x y v u _ I2 r1 r2 q2) fun d s3 ⟨z,H3,I3,r3,k,e,q3⟩=> ?_)) hm
 subst e;cases r3;refine wpAny_truthy_bool ?_;cases k with
 | false=>exact ite_ff ⟨.bl false,H3,I3,rfl,q3⟩
 | true=>exact ite_tt (chain_last (cP (hc pins s3 σ H3 _ I3 q3) fun w' s4 ⟨z',H4,I4,r4,q4⟩=>ho' pins s4 σ H4 y z' u w' Q I4 r2 r4 q4))
theorem Nf {op op':CmpOp} {r r':R2} (ho:pX X (compareOp op) r) (ho':pX X (compareOp op') r') (ha:PE X a ta) (hb:PE X b tb) (hc:PE X c tc)
 (hm:lastMarks [op,op'] [b,c]=false:=by with_unfolding_all rfl):PT X (.Compare a [op,op'] [b,c] pos) (HW (Mx r r' ta tb tc)):=by
 intro pins s σ H Q I h
 refine isTrue_chain (cP (ha pins s σ H _ I h) fun v s1 ⟨x,H1,I1,r1,q1⟩=>test_link (cP (hb pins s1 σ H1 _ I1 q1) fun u s2 ⟨y,H2,I2,r2,q2⟩=>
  cP (ho pins s2 σ H2 x y v u _ I2 r1 r2 q2) fun d s3 ⟨z,H3,I3,r3,k,e,q3⟩=> ?_)) hm
 subst e;cases r3;refine wpAny_truthy_bool ?_;cases k with
 | false=>
   obtain ⟨k',e',q'⟩:=q3;cases e';exact ite_ff ⟨H3,I3,q'⟩
 | true=>
   refine ite_tt (test_last (cP (hc pins s3 σ H3 _ I3 q3) fun w' s4 ⟨z',H4,I4,r4,q4⟩=>cP (ho' pins s4 σ H4 y z' u w' _ I4 r2 r4 q4) fun d' s5 ⟨z2,H5,I5,r5,k2,e2,q5⟩=> ?_));subst e2;cases r5;exact wpAny_truthy_bool ⟨H5,I5,q5⟩
def Ws (K:PySem.W.Frag) (x:V) (H:Hp) (k:Bool):Prop:=
 match x with
 | .non=>k=false
 | .bl b=>k=b
 | .int i=>k=(i != 0)
 | .str y=>y.length<=sizeLine/\k=((y.length:Int) != 0)
 | .Ho y=>y.size<=sizeLine/\k=((y.size:Int) != 0)
 | .ref p=>(∃xs,bA K H p xs/\k = !xs.isEmpty)\/(∃xs,gC K H p xs/\k = !xs.isEmpty) \/ ∃kvs,H p=some (.dK kvs)/\k = !kvs.isEmpty
 | _=>False
theorem GQ {κ:Type} {kvs:List (κ×V)} {vs:List (κ×Value)} (r:KV kvs vs):(!vs.isEmpty) = !kvs.isEmpty:=by
 cases r<;>rfl
theorem xg {xs:List V} {its:List Value} (r:Vals xs its):(!its.toArray.isEmpty) = !xs.isEmpty:=by
 cases r<;>simp
theorem ug:(sizeLine:Nat)<2 ^ 63:=by rw [sizeLine_eq];decide
theorem UJ:ahg X (fun x H Q=>∃k,Ws X.K x H k/\Q k H):=by
 intro pins s σ H x v Q I rx h;obtain ⟨k,e,q⟩:=h;have hl:=ug;have hs:sizeLine=16777216:=sizeLine_eq;cases x with
 | non=>
   cases rx;have e':k=false:=e;subst e';exact truthy_none ⟨H,I,q⟩
 | bl b=>
   cases rx;have e':k=b:=e;subst e';exact wpAny_truthy_bool ⟨H,I,q⟩
 | int i=>
   obtain ⟨t,rfl⟩:=rx;have e':k=(i != 0):=e;subst e';exact PySem.P.truthy_int ⟨H,I,q⟩
 | str y=>
   obtain ⟨t,rfl⟩:=rx;obtain ⟨hy,e'⟩:y.length<=sizeLine/\k=((y.length:Int) != 0):=e;subst e';exact PySem.P.truthy_str (by omega) ⟨H,I.tok _,q⟩
 | Ho y=>
   obtain ⟨t,rfl⟩:=rx;obtain ⟨hy,e'⟩:y.size<=sizeLine/\k=((y.size:Int) != 0):=e;subst e';exact PySem.W.truthy_bytes (by omega) ⟨H,I.tok _,q⟩
 | ref p=>
   cases rx;have e':(∃xs,bA X.K H p xs/\k = !xs.isEmpty)\/(∃xs,gC X.K H p xs/\k = !xs.isEmpty) \/ ∃kvs,H p=some (.dK kvs)/\k = !kvs.isEmpty:=e;rcases e' with ⟨xs,hx,e'⟩|⟨xs,hx,e'⟩|⟨kvs,hx,e'⟩
   ·subst e'
    obtain ⟨its,r,pl,hz⟩:=I.list hx;have hlen:=r.length;exact wpAny_truthy_list pl.isList (by simp only [List.size_toArray];omega) ⟨H,I.tok _,by rw [xg r];exact q⟩
   ·subst e'
    obtain ⟨its,r,pl,hz⟩:=I.tuple hx;have hlen:=r.length;exact truthy_tuple pl (by simp only [List.size_toArray];omega) ⟨H,I.tok _,by rw [xg r];exact q⟩
   ·subst e'
    obtain ⟨hz,hS,vs,r,m⟩:kvs.length<=sizeLine/\(p==sysModules)=false /\ ∃vs,KV kvs vs/\s.heap.DictOf (cJ X.prog X.w) p vs:=I.hok p _ hx;have hlen:kvs.length=vs.length:=Paired.length r;exact wpAny_truthy_dict hS m (by omega) ⟨H,I.tok _,by rw [GQ r];exact q⟩
 | _=>exact (show False from e).elim
theorem Nb (ha:PE X a ta) (he:∀whole,isTrue a X.env whole=(do let v ←whole;standAt a.pos;holding [v] (truthy v))):
 PT X a (fun σ H Q=>ta σ H fun x H'=>∃k,Ws X.K x H' k/\Q k H'):=by
 intro pins s σ H Q I h;exact isTrue_plain (cP (ha pins s σ H _ I h) fun v s1 ⟨x,H1,I1,r1,q1⟩=>UJ pins s1 σ H1 x v Q I1 r1 q1) (he _)
theorem vals1 {x:V} {us:List Value} (r:Vals [x] us):∃u,us=[u]/\RelV x u:=by
 cases r with
 | cons r1 r2=>cases r2;exact ⟨_,rfl,r1⟩
theorem vals2 {x y:V} {us:List Value} (r:Vals [x,y] us):∃u w',us=[u,w']/\RelV x u/\RelV y w':=by
 cases r with
 | cons r1 r2=>
   cases r2 with
   | cons r3 r4=>cases r4;exact ⟨_,_,rfl,r1,r3⟩
theorem zH (hc:X.calm=true):iJ X (.builtin "max") (fun xs H Q=>∃i j,xs=[.int i,.int j]/\Q (.int (if j>i then j else i)) H):=by
 intro pins s σ H xs us Q I r h;obtain ⟨i,j,rfl,q⟩:=h;obtain ⟨u,w',rfl,⟨t,rfl⟩,⟨t',rfl⟩⟩:=vals2 r;refine max_two_ints (I.ok.hd hc) fun h' tk k=>⟨_,H,I.kept k, ?_,q⟩
 by_cases hj:j>i
 ·rw [if_pos hj,if_pos hj];exact ⟨_,rfl⟩
 ·rw [if_neg hj,if_neg hj];exact ⟨_,rfl⟩
theorem mK:iJ X (.type "str") (fun xs H Q=>∃i,xs=[.int i]/\i.natAbs.log2<1920/\Q (.str (toString i)) H):=by
 intro pins s σ H xs us Q I r h;obtain ⟨i,rfl,hz,q⟩:=h;obtain ⟨u,rfl,t,rfl⟩:=vals1 r;exact PySem.P.str_of_int hz ⟨.str _,H,I.tok _,⟨_,rfl⟩,q⟩
end
end L2
namespace L2
open PySem PySem.Spec PyProof.Rows
structure Hu (h:Heap) (x dx C:Addr) (mA:Str->Option Value):Prop where
 obj:h.get? x=some (PySem.W.instObj C dx)
 ns:h.Ns1 dx mA
 ne:dx≠x
theorem Kh {h:Heap} {dx:Addr} {mA:Str->Option Value} (n:h.Ns1 dx mA):∃od,h.get? dx=some od /\ ∀name,PySem.W.lookIn name od=some (mA name):=by
 obtain ⟨o,es,ep,ho,hd,hk,_,hm⟩:=n;refine ⟨o,ho,fun name=> ?_⟩;have e:=hm name;unfold nsFind findBy at e;rw [←Array.find?_toList] at e;unfold PySem.W.lookIn;rw [hd];dsimp only;split
 ·rename_i y q
  rw [q] at e;exact congrArg some e
 ·rename_i q
  rw [q] at e
  have a:es.toList.any (·.refKey)=false:=by
   rw [List.any_eq_false];intro y hy;obtain ⟨z,t,hkey⟩:=hk y (Array.mem_toList_iff.mp hy);simp [DictEntry.refKey,hkey]
  have a':¬es.toList.any (·.refKey)=true:=by rw [a];exact Bool.false_ne_true
  rw [if_neg a'];exact congrArg some e
theorem Hu.look {h:Heap} {x dx C:Addr} {mA:Str->Option Value} (I:Hu h x dx C mA):∃od,PySem.W.InstAt h x (PySem.W.instObj C dx) C (some od) /\ ∀name,PySem.W.lookIn name od=some (mA name):=
 let ⟨od,ho,hl⟩:=Kh I.ns
 ⟨od,⟨I.obj,rfl,rfl,ho⟩,hl⟩
section
variable {prog:Program} {w:World} {A:Around} {E:Value->Shared->Prop} {s:Shared} {K:PySem.W.Frag} {x dx C f:Addr} {mA:Str->Option Value} {name:Str} {v:Value}
theorem get_map {expr:Bool} {Q:Value->Shared->Prop} (X:K.In s.heap) (I:Hu s.heap x dx C mA) (hg:PySem.W.plainGet K C name=true) (hh:PySem.W.hasDictIn K C=true)
 (ha:PySem.W.findIn K (.ref C) name=some none) (hv:mA name=some v) (hv':PySem.W.handedIn v=true) (h:Q v {s with toks:=s.toks+1}):
 wpAny (model prog w) A (getAttr (.ref x) name expr) Q E s:=by
 obtain ⟨od,J,hl⟩:=I.look;exact PySem.W.get_value X J (PySem.W.plainGet_of hg).1 (PySem.W.findObj_own hh ha rfl (by rw [hl,hv])) hv' h
theorem O4 {pl:Sem Bool} {Q:Value×List Value->Shared->Prop} (X:K.In s.heap) (I:Hu s.heap x dx C mA) (hg:PySem.W.plainGet K C name=true)
 (hf:PySem.W.findIn K (.ref C) name=some (some (.ref f))) (ht:PySem.W.isFn K (.ref f)=true) (hv:mA name=none) (h:Q (.ref f,[.ref x]) s):
 wpAny (model prog w) A (getMethod (.ref x) name pl) Q E s:=by
 obtain ⟨od,J,hl⟩:=I.look;exact PySem.W.method_fn X J (PySem.W.plainGet_of hg).1 (PySem.W.plainGet_of hg).2 hf (beq_iff_eq.mp ht) (by show (PySem.W.lookIn name od).map (·.isSome)=some false;rw [hl,hv];rfl) h
theorem QS {ns:List Str} {Q:Unit->Shared->Prop} (X:K.In s.heap) (I:Hu s.heap x dx C mA)
 (hs:PySem.W.findIn K (.ref C) "__setattr__" = some (some (.builtin "object.__setattr__"))) (hp:PySem.W.plainOver K C=true) (ht:PySem.W.takerIn K C name=some none) (hh:PySem.W.hasDictIn K C=true)
 (hw:PySem.Within mA ns) (hsz:ns.length<=sizeLine)
 (h:∀h',Hu h' x dx C (fun y=>if y=name then some v else mA y)->Heap.SameBut dx s.heap h'->Q () {s with heap:=h',toks:=s.toks+2}):
 wpAny (model prog w) A (setAttr (.ref x) name v) Q E s:=by
 obtain ⟨od,J,hl⟩:=I.look;refine PySem.W.set_plain X J hs (PySem.W.osa_open (s:={s with toks:=s.toks+1}) (r:=none) X J hp ht fun b=> ?_);obtain ⟨cd,hc,hd'⟩:=PySem.W.any_some hh;have hx:s.heap.get? x=some ⟨.ref C,some dx,.plain, #[]⟩:=I.obj;refine wpAny_bind (wpAny_pure (wpAny_bind (wpAny_bind (wpAny_loadPart hx (wpAny_bind (PySem.W.Looks.here (s:={s with toks:=s.toks+1}) (PySem.W.looks_clsIn X hc) ?_))))));rw [hd'];refine wpAny_pure (a:=some dx) (wpAny_bind (wpAny_pure (wpAny_bind ?_)));refine wpAny_nsSet1 (s:={s with toks:=s.toks+1}) I.ns fun h' hn2 hs2=> ?_;obtain ⟨oD,esD,epD,hoD,hdD,hcD⟩:=hn2.count (PySem.Within.cons name v hw);refine wpAny_bind (wpAny_lookBehind hoD (by rw [hdD];exact pastItsLine_dict (Nat.le_trans hcD (by rw [List.length_cons];omega))) ?_);exact wpAny_pure (h _ ⟨(hs2.2 _ (Ne.symm I.ne)).trans I.obj,hn2,I.ne⟩ hs2)
theorem Dg {R:Result->Shared->Prop} {vs:List Value} {kw:List (Str×Value)} (X:K.In s.heap) (hm:PySem.W.makesIn K C=true)
 (hi:PySem.W.findIn K (.ref C) "__init__" = some (some (.ref f))) (hf:PySem.W.typeIn K (.ref f)=some (.type "function"))
 (h:codeAny (model prog w) (A.under (.builtin "type.__call__" ⟨.ref C::vs,kw⟩)) (.call (.ref f) ⟨.ref (s.heap.objs.size+1)::vs,kw⟩) (PySem.W.InitBack (s.heap.objs.size+1) R)
   {s with heap:=(s.heap.push PySem.W.emptyDict).push (PySem.W.instObj C s.heap.objs.size)}):
 codeAny (model prog w) A (.call (.ref C) ⟨vs,kw⟩) R s:=by
 obtain ⟨hh,g,d,t,os⟩:=s;exact PySem.W.make_core (PySem.W.makes_of X hm) (PySem.W.looks_findIn X hi) (fun self=>PySem.W.bind_fn X self hf) (.inl rfl) h
end
def eG (f:Str) (v:V):List (Str×V)->List (Str×V)
 | []=>[(f,v)]
 | (g,x)::r=>if g=f then (g,v)::r else (g,x)::eG f v r
theorem uP (f g:Str) (v:V):∀fs:List (Str×V),(eG f v fs).lookup g=if g=f then some v else fs.lookup g
 | []=>by
   show List.lookup g [(f,v)]=_
   by_cases h:g=f
   ·have hb:(g==f)=true:=beq_iff_eq.mpr h
    simp only [List.lookup,hb,if_pos h]
   ·have hb:(g==f)=false:=beq_eq_false_iff_ne.mpr h
    simp only [List.lookup,hb,if_neg h]
 | (k,x)::r=>by
   have ih:=uP f g v r;rw [show eG f v ((k,x)::r)=(if k=f then (k,v)::r else (k,x)::eG f v r) from rfl]
   by_cases hk:k=f
   ·rw [if_pos hk]
    by_cases h:g=k
    ·have hb:(g==k)=true:=beq_iff_eq.mpr h
     simp only [List.lookup,hb,if_pos (h.trans hk)]
    ·have hb:(g==k)=false:=beq_eq_false_iff_ne.mpr h
     simp only [List.lookup,hb,if_neg (fun e:g=f=>h (e.trans hk.symm))]
   ·rw [if_neg hk]
    by_cases h:g=k
    ·have hb:(g==k)=true:=beq_iff_eq.mpr h
     simp only [List.lookup,hb,if_neg (fun e:g=f=>hk (h.symm.trans e))]
    ·have hb:(g==k)=false:=beq_eq_false_iff_ne.mpr h
     simp only [List.lookup,hb];exact ih
theorem uo (f:Str) (v:V):∀fs:List (Str×V),f∈(eG f v fs).map (·.1) /\ ∀g,g∈fs.map (·.1)->g∈(eG f v fs).map (·.1)
 | []=>⟨by simp [eG],fun g h=>by simp at h⟩
 | (k,x)::r=>by
   obtain ⟨i1,i2⟩:=uo f v r;rw [show eG f v ((k,x)::r)=(if k=f then (k,v)::r else (k,x)::eG f v r) from rfl]
   by_cases hk:k=f
   ·rw [if_pos hk]
    subst hk;exact ⟨by simp,fun g h=>by simpa using h⟩
   ·rw [if_neg hk]
    refine ⟨?_,fun g h=> ?_⟩
    ·rw [List.map_cons]
     exact List.mem_cons_of_mem _ i1
    ·rw [List.map_cons] at h ⊢
     rcases List.mem_cons.mp h with e|e
     ·exact List.mem_cons.mpr (.inl e)
     ·exact List.mem_cons_of_mem _ (i2 g e)
theorem uQ (f:Str) (v:V):∀fs:List (Str×V),(eG f v fs).length<=fs.length+1
 | []=>by simp [eG]
 | (k,x)::r=>by
   have ih:=uQ f v r;rw [show eG f v ((k,x)::r)=(if k=f then (k,v)::r else (k,x)::eG f v r) from rfl]
   by_cases hk:k=f
   ·rw [if_pos hk,List.length_cons,List.length_cons];omega
   ·rw [if_neg hk,List.length_cons,List.length_cons];omega
theorem m8.some_of {v:V} {o:Option Value} (r:m8 (some v) o):∃u,o=some u/\RelV v u:=by
 cases o with
 | none=>exact (show False from r).elim
 | some u=>exact ⟨u,rfl,r⟩
theorem m8.none_of {o:Option Value} (r:m8 none o):o=none:=by
 cases o with
 | none=>rfl
 | some u=>exact (show False from r).elim
theorem Kz {v:V} {u:Value} (r:RelV v u):PySem.W.handedIn u=true:=by
 cases v with
 | non=>cases (show u=Value.none from r);rfl
 | bl b=>cases (show u=Value.bool b from r);rfl
 | int i=>obtain ⟨t,e⟩:=(show ∃t,u=Value.int i t from r);cases e;rfl
 | str x=>obtain ⟨t,e⟩:=(show ∃t,u=Value.str x t from r);cases e;rfl
 | Ho b=>obtain ⟨t,e⟩:=(show ∃t,u=Value.bytes b t from r);cases e;rfl
 | flt b=>obtain ⟨t,e⟩:=(show ∃t,u=Value.float b t from r);cases e;rfl
 | ref a=>cases (show u=Value.ref a from r);rfl
 | ty n=>cases (show u=Value.type n from r);rfl
section
variable {P:Program} {w:World} {H H':Hp} {h h':Heap} {a C dx:Addr} {fs fs':List (Str×V)}
theorem j9 (hok:qU P w H h) (e:H a=some (.ins C dx fs)):∃mA,Hu h a dx C mA/\(∀f,m8 (fs.lookup f) (mA f))/\PySem.Within mA (fs.map (·.1))/\fs.length<=1000/\H dx=some (.own a):=by
 obtain ⟨d,z,ne,ob,mA,n,r,q⟩:=(show cM P w H h a (.ins C dx fs) from hok a _ e);exact ⟨mA,⟨ob,n,ne⟩,r,q,z,d⟩
end
structure Cls (K:PySem.W.Frag) (C:Addr):Prop where
 pg:PySem.W.plainGet K C Str.empty=true
 hd:PySem.W.hasDictIn K C=true
 po:PySem.W.plainOver K C=true
 sa:PySem.W.findIn K (.ref C) "__setattr__" = some (some (.builtin "object.__setattr__"))
theorem Cls.get {K:PySem.W.Frag} {C:Addr} (c:Cls K C) (f:Str):PySem.W.plainGet K C f=true:=c.pg
def jT (K:PySem.W.Frag) (C:Addr) (f:Str):Prop:=PySem.W.findIn K (.ref C) f=some none
theorem jT.taker {K:PySem.W.Frag} {C:Addr} {f:Str} (n:jT K C f):PySem.W.takerIn K C f=some none:=by
 unfold PySem.W.takerIn;rw [show PySem.W.findIn K (.ref C) f=some none from n];rfl
structure Meth (K:PySem.W.Frag) (C:Addr) (m:Str) (f:Addr):Prop where
 at_:PySem.W.findIn K (.ref C) m=some (some (.ref f))
 fn:PySem.W.isFn K (.ref f)=true
 kp:PySem.W.keepIn K (.ref f)=true
section
variable {X:Cx} {pins:List (Addr×Obj)} {σ:St} {H:Hp} {s:Shared} {a C dx:Addr} {fs:List (Str×V)} {f:Str} {v:V} {A:Around} {E:Value->Shared->Prop}
theorem G4 {b:Bool} {Q:Value->Shared->Prop} (I:Inv X pins σ H s) (e:H a=some (.ins C dx fs)) (c:Cls X.K C) (n:jT X.K C f) (l:fs.lookup f=some v)
 (h:∀u s',Inv X pins σ H s'->RelV v u->Q u s'):wpAny (model X.prog X.w) A (getAttr (.ref a) f b) Q E s:=by
 obtain ⟨mA,O,r,_,_,_⟩:=j9 I.hok e;obtain ⟨u,hu,ru⟩:=m8.some_of (v:=v) (o:=mA f) (by rw [←l];exact r f);exact get_map I.lF O (c.get f) c.hd n hu (Kz ru) (h u _ (I.tok _) ru)
theorem qM {m:Str} {g:Addr} {pl:Sem Bool} {Q:Value×List Value->Shared->Prop} (I:Inv X pins σ H s) (e:H a=some (.ins C dx fs)) (c:Cls X.K C) (k:Meth X.K C m g) (l:fs.lookup m=none)
 (h:Q (.ref g,[.ref a]) s):wpAny (model X.prog X.w) A (getMethod (.ref a) m pl) Q E s:=by
 obtain ⟨mA,O,r,_,_,_⟩:=j9 I.hok e;have hn:mA m=none:=m8.none_of (by rw [←l];exact r m);exact O4 I.lF O (c.get m) k.at_ k.fn hn h
theorem FT {y:V} {u:Value} {Q:Unit->Shared->Prop} (I:Inv X pins σ H s) (e:H a=some (.ins C dx fs)) (c:Cls X.K C) (n:jT X.K C f) (hl:fs.length<1000) (ry:RelV y u)
 (h:∀s',Inv X pins σ (upd H a (.ins C dx (eG f y fs))) s'->Q () s'):wpAny (model X.prog X.w) A (setAttr (.ref a) f u) Q E s:=by
 obtain ⟨mA,O,r,wi,_,ho⟩:=j9 I.hok e;have hz:(fs.map (·.1)).length<=sizeLine:=by rw [List.length_map,sizeLine_eq];omega
 refine QS I.lF O c.sa c.po n.taker c.hd wi hz fun h' O' sb=>h _ ?_;have hd:∃o,h'.get? dx=some o:=let ⟨o,_,_,e',_⟩:=O'.ns;⟨o,e'⟩
 refine I.write (x:=a) (e:=dx) (by rw [e];exact True.intro) (.inr ho) (fun b q hb z=>(sb.2 b hb).trans z) hd ?_;refine ⟨by rw [aN O.ne];exact ho, ?_,O.ne,O'.obj,_,O'.ns,fun g=> ?_,fun g hg=> ?_⟩
 ·have:=uQ f y fs;omega
 ·show m8 ((eG f y fs).lookup g) (if g=f then some u else mA g)
  rw [uP]
  by_cases q:g=f
  ·rw [if_pos q,if_pos q];exact ry
  ·rw [if_neg q,if_neg q];exact r g
 ·by_cases q:g=f
  ·rw [q];exact (uo f y fs).1
  ·refine (uo f y fs).2 g (wi g fun z=>hg ?_)
   show (if g=f then some u else mA g)=none;rw [if_neg q];exact z
theorem Inv.made (I:Inv X pins σ H s):Inv X pins σ (upd (upd H s.heap.objs.size (.own (s.heap.objs.size+1))) (s.heap.objs.size+1) (.ins C s.heap.objs.size []))
 {s with heap:=(s.heap.push PySem.W.emptyDict).push (PySem.W.instObj C s.heap.objs.size)}:=by
 have e1:(s.heap.push PySem.W.emptyDict).get? s.heap.objs.size=some PySem.W.emptyDict:=Heap.get?_push_size s.heap rfl
 have e2:((s.heap.push PySem.W.emptyDict).push (PySem.W.instObj C s.heap.objs.size)).get? (s.heap.objs.size+1)=some (PySem.W.instObj C s.heap.objs.size):=by
  have:=Heap.get?_push_size (s.heap.push PySem.W.emptyDict) (o:=PySem.W.instObj C s.heap.objs.size) rfl;rwa [Heap.size_push] at this
 have e3:(s.heap.push PySem.W.emptyDict).Ns s.heap.objs.size (fun _=>none):=⟨PySem.W.emptyDict, #[],_,e1,rfl,(fun e he=>absurd he (by simp)),fun _=>rfl⟩;have I1:=I.laid (a:=s.heap.objs.size) (o:= .own (s.heap.objs.size+1)) (h':=s.heap.push PySem.W.emptyDict) (t':=s.toks) (fun b u q=>Heap.get?_push_of_some _ q) (Nat.le_refl _) ⟨_,e1⟩;refine I1.laid (a:=s.heap.objs.size+1) (o:= .ins C s.heap.objs.size []) (t':=s.toks) (fun b u q=>Heap.get?_push_of_some _ q) (Nat.le_of_eq (Heap.size_push _ _)) ?_;have ne:s.heap.objs.size≠s.heap.objs.size+1:=Nat.ne_of_lt (Nat.lt_succ_self _);refine ⟨by rw [aN ne,aq],Nat.zero_le _,ne,e2,fun _=>none,(Heap.Ns1.of_empty e3).at fun o q=>Heap.get?_push_of_some _ q,fun _=>True.intro,fun y hy=>absurd rfl hy⟩
theorem Td {prog:Program} {w:World} {env:Env} {e:Expr} {f:Str} {pos:Pos} {s:Shared} {Q:Value->Shared->Prop} (hb:attributeBase e f env (eval e env)=eval e env)
 (h:wpAny (model prog w) A (eval e env) (fun o s₁=>wpAny (model prog w) A (getAttr o f true) Q E s₁) E s):wpAny (model prog w) A (eval (.Attribute e f pos) env) Q E s:=
 Attribute_any_ h (by rw [arm_eval_Attribute,hb])
end
def U4 (K:PySem.W.Frag) (ta:TE) (f:Str):TE:=fun σ H Q=>ta σ H fun x H1=>∃a C dx fs v,x = .ref a/\H1 a=some (.ins C dx fs)/\Cls K C/\jT K C f/\fs.lookup f=some v/\Q v H1
def Xu (K:PySem.W.Frag) (ta tv:TE) (f:Str):TS:=fun D σ H=>tv σ H fun y H1=>ta σ H1 fun x H2=>∃a C dx fs,x = .ref a/\H2 a=some (.ins C dx fs)/\Cls K C/\jT K C f/\fs.length<1000 /\
 D.nx σ (upd H2 a (.ins C dx (eG f y fs)))
section
variable {X:Cx} {o e value:Expr} {f:Str} {pos pos' tpos:Pos} {ta tv:TE}
theorem Vk (he:PE X e ta) (hb:attributeBase e f X.env (eval e X.env)=eval e X.env):PE X (.Attribute e f pos) (U4 X.K ta f):=by
 intro pins s σ H Q I h;refine Td hb (cP (he pins s σ H _ I h) fun u s1 ⟨x,H1,I1,rx,a,C,dx,fs,v,ex,ea,c,n,l,q⟩=> ?_);subst ex;obtain rfl:u=Value.ref a:=rx;exact G4 I1 ea c n l fun u' s2 I2 ru=>⟨v,H1,I2,ru,q⟩
theorem Vg (ha:PE X o ta) (hv:PE X value tv) (hs:swapsWith value (some (.Attribute o f pos')) pos.line X.env=pure false):PS X (.Assign [.Attribute o f pos'] value pos) (Xu X.K ta tv f):=by
 intro pins s σ H D I h;refine plainObj_wpAny_Assign_Attribute (cP (hv pins s σ H _ I h) fun u s1 ⟨y,H1,I1,ry,q⟩=>cP (ha pins s1 σ H1 _ I1 q) fun ov s2 ⟨x,H2,I2,rx,a,C,dx,fs,ex,ea,c,n,l,q2⟩=> ?_) hs;subst ex;obtain rfl:ov=Value.ref a:=rx;exact FT I2 ea c n l ry fun s3 I3=>⟨σ,_,I3,q2⟩
end
section
variable {X:Cx} {pins:List (Addr×Obj)} {σ:St} {H:Hp} {s:Shared} {A:Around} {E:Value->Shared->Prop} {Q:Value->Shared->Prop} {c:Value} {b:Bool}
inductive qQ (K:PySem.W.Frag) (H:Hp):V->Value->Prop where
 | non:qQ K H .non (.type "NoneType")
 | bl (x:Bool):qQ K H (.bl x) (.type "bool")
 | int (i:Int):qQ K H (.int i) (.type "int")
 | str (x:Str):qQ K H (.str x) (.type "str")
 | flt (x:UInt64):qQ K H (.flt x) (.type "float")
 | lst {a:Addr} {xs:List V} (e:H a=some (.lst xs)):qQ K H (.ref a) (.type "list")
 | m6 {a:Addr} {o:Obj} {xs:List V} (e:H a=some (.m6 o (.lst xs))):qQ K H (.ref a) (.type "list")
 | tup {a:Addr} {xs:List V} (e:H a=some (.tup xs)):qQ K H (.ref a) (.type "tuple")
 | dK {a:Addr} {kvs:List (Key×V)} (e:H a=some (.dK kvs)):qQ K H (.ref a) (.type "dict")
 | dT {a:Addr} {kvs:List (List Key×V)} (e:H a=some (.dT kvs)):qQ K H (.ref a) (.type "dict")
 | ins {a C dx:Addr} {fs:List (Str×V)} (e:H a=some (.ins C dx fs)) (cl:Cls K C) (ha:PySem.W.findIn K (.ref C) "__class__" = some (some (.builtin "object.__class__")))
    (hn:PySem.W.specialIn K (.builtin "object.__class__") "__get__" = some (some (.builtin "getset_descriptor.__get__"))) (htk:PySem.W.takesIn K (.builtin "object.__class__")=some true)
    (hm:PySem.W.mroIn K C (.type "object")=some true):qQ K H (.ref a) (.ref C)
theorem Ko {x:V} {u t:Value} (I:Inv X pins σ H s) (rx:RelV x u) (ty:qQ X.K H x t) (e:PySem.W.kitOne X.K t c=some b) (h:∀tk,Q (.bool b) {s with toks:=tk}):
 wpAny (model X.prog X.w) A (call (.builtin "isinstance") [u,c]) Q E s:=by
 cases ty with
 | non=>cases (show u=Value.none from rx);exact PySem.W.kia_one PySem.W.kitx_none I.lF True.intro e (fun z=>nomatch z) h
 | bl y=>cases (show u=Value.bool y from rx);exact PySem.W.kia_one PySem.W.kitx_bool I.lF True.intro e (fun z=>nomatch z) h
 | int i=>obtain ⟨t,q⟩:=(show ∃t,u=Value.int i t from rx);cases q;exact PySem.W.kia_one PySem.W.kitx_int I.lF True.intro e (fun z=>nomatch z) h
 | str y=>obtain ⟨t,q⟩:=(show ∃t,u=Value.str y t from rx);cases q;exact PySem.W.kia_one PySem.W.kitx_str I.lF True.intro e (fun z=>nomatch z) h
 | flt y=>obtain ⟨t,q⟩:=(show ∃t,u=Value.float y t from rx);cases q;exact PySem.W.kia_one PySem.W.kitx_float I.lF True.intro e (fun z=>nomatch z) h
 | @lst a xs ea=>
   cases (show u=Value.ref a from rx);obtain ⟨_,_,n,_,h1⟩:=(show cM X.prog X.w H s.heap a (.lst xs) from I.hok a _ ea);exact PySem.W.kia_one PySem.W.kitx_list I.lF ⟨_,h1,rfl⟩ e (fun z=>nomatch z) h
 | @m6 a ob xs ea=>
   cases (show u=Value.ref a from rx);obtain ⟨_,_,_,n,_,h1⟩:=(show cM X.prog X.w H s.heap a (.m6 ob (.lst xs)) from I.hok a _ ea);exact PySem.W.kia_one PySem.W.kitx_list I.lF ⟨_,h1,rfl⟩ e (fun z=>nomatch z) h
 | @tup a xs ea=>
   cases (show u=Value.ref a from rx);obtain ⟨_,_,_,p⟩:=(show cM X.prog X.w H s.heap a (.tup xs) from I.hok a _ ea);obtain ⟨o,h1,h2,_⟩:=p;exact PySem.W.kia_one PySem.W.kitx_tuple I.lF ⟨o,h1,h2⟩ e (fun z=>nomatch z) h
 | @dK a kvs ea=>
   cases (show u=Value.ref a from rx);obtain ⟨_,_,vs,_,p⟩:=(show cM X.prog X.w H s.heap a (.dK kvs) from I.hok a _ ea);obtain ⟨o,es,ep,h1,h2,_⟩:=p;exact PySem.W.kia_one PySem.W.kitx_dict I.lF ⟨o,h1,h2.1⟩ e (fun z=>nomatch z) h
 | @dT a kvs ea=>
   cases (show u=Value.ref a from rx);obtain ⟨_,_,xs,_,o,es,ep,h1,h2,_⟩:=(show cM X.prog X.w H s.heap a (.dT kvs) from I.hok a _ ea);exact PySem.W.kia_one PySem.W.kitx_dict I.lF ⟨o,h1,h2.1⟩ e (fun z=>nomatch z) h
 | @ins a C dx fs ea cl ha hn htk hm=>
   cases (show u=Value.ref a from rx);obtain ⟨mA,O,_⟩:=j9 I.hok ea;obtain ⟨od,J,_⟩:=O.look;exact PySem.W.kia_one (PySem.W.kitx_own (cl.get _) cl.hd ha hn htk hm) I.lF J e (fun z=>nomatch z) h
end
end L2
namespace L2
open PySem PySem.Spec PyProof.Rows
structure dg (k:Nat) (A:Around):Prop where
 hd:A.handled=none
 dp:A.depth+3*k+5<recursionLimit
 un:A.units+16*k+200<cLine
theorem dg.mono {j k:Nat} {A:Around} (r:dg k A) (h:j<=k):dg j A:=⟨r.hd,by have:=r.dp;omega,by have:=r.un;omega⟩
theorem dg.deeper {k:Nat} {A:Around} (r:dg (k+1) A) (env:Env):dg k (A.deeper env):=
 ⟨r.hd,by have:=r.dp;show A.depth+1+3*k+5<_;omega,by have:=r.un;show A.units+3+16*k+200<_;omega⟩
theorem dg.in1 {k:Nat} {A:Around} (r:dg (k+1) A):dg k A.in1:=
 ⟨r.hd,by have:=r.dp;show A.depth+3*k+5<_;omega,by have:=r.un;show A.units+1+16*k+200<_;omega⟩
theorem GK {A:Around} {C:Addr} {us:List Value} {kw:List (Str×Value)}:(A.under (.builtin "type.__call__" ⟨.ref C::us,kw⟩)).depth=A.depth+1:=by
 first |rfl|simp [Around.under,Code.weight,Code.isCreation,Code.isGuard,Code.isCaller,Code.frames,Code.isFrame,guardIds]
theorem GJ {A:Around} {C:Addr} {us:List Value} {kw:List (Str×Value)}:(A.under (.builtin "type.__call__" ⟨.ref C::us,kw⟩)).units=A.units+1:=by
 first |rfl|simp [Around.under,Code.cUnits,Code.frames,Code.isFrame]
theorem dg.make {k:Nat} {A:Around} (r:dg (k+1) A) (C:Addr) (us:List Value) (kw:List (Str×Value)):dg k (A.under (.builtin "type.__call__" ⟨.ref C::us,kw⟩)):=
 ⟨r.hd,by have:=r.dp;rw [GK];omega,by have:=r.un;rw [GJ];omega⟩
theorem dg.depth {k:Nat} {A:Around} (r:dg k A):A.depth<recursionLimit:=by have:=r.dp;omega
theorem dg.units {k:Nat} {A:Around} (r:dg k A):A.units+64<cLine:=by have:=r.un;omega
theorem dg.Ml {k:Nat} {A:Around} (r:dg k A):A.units<cLine:=by have:=r.un;omega
def zT:TA:=fun _ H Q=>Q [] H
def Mw (ta:TE) (tr:TA):TA:=fun σ H Q=>ta σ H fun x H1=>tr σ H1 fun xs H2=>Q (x::xs) H2
section
variable {X:Cx} {e:Expr} {es:List Expr} {te:TE} {t:TA} {pos:Pos}
theorem au:PA X [] zT:=fun _ _ _ _ H Q I h=>Calls.spliced_nil ⟨[],H,I,.nil,h⟩
theorem ak (ha:PE X e te) (hr:PA X es t) (hs:starEach (e::es) X.env=(false,eval e X.env)::starEach es X.env:=by rfl):PA X (e::es) (Mw te t):=by
 intro pos pins s σ H Q I h;rw [hs];show wpAny _ _ (spliced ((false,eval e X.env)::backTo pos (starEach es X.env))) _ _ s;refine Calls.spliced_cons (cP (ha pins s σ H _ I h) fun u s1 ⟨x,H1,I1,r1,q1⟩=> ?_);exact cP (hr pos pins s1 σ H1 _ I1 q1) fun us s2 ⟨xs,H2,I2,r2,q2⟩=>⟨x::xs,H2,I2,.cons r1 r2,q2⟩
def abw (t:TA):TE:=fun σ H Q=>t σ H fun xs H1=>xs.length<=sizeLine /\ ∀p,H1 p=none->Q (.ref p) (upd H1 p (.tup xs))
def abA (t:TA):TE:=fun σ H Q=>t σ H fun xs H1=>xs.length<=sizeLine /\ ∀p,H1 p=none->Q (.ref p) (upd H1 p (.lst xs))
theorem nR {x1} (h:PA X es t):PE X (.Tuple es x1 pos) (abw t):=by
 intro pins s σ H Q I hq;refine wpAny_Tuple_spliced (cP (h pos pins s σ H _ I hq) fun us s1 ⟨xs,H1,I1,r,z,q⟩=>⟨by rw [←r.length];exact z, ?_⟩);have hf:H1 s1.heap.objs.size=none:=I1.hok.fresh (Nat.le_refl _);refine ⟨.ref s1.heap.objs.size,upd H1 s1.heap.objs.size (.tup xs),I1.laid (t':=s1.toks) (fun b u e=>Heap.get?_push_of_some _ e) (Nat.le_refl _) ?_,rfl,q _ hf⟩;exact ⟨z,us,r,⟨_,Heap.get?_push_size _ rfl,rfl,_,rfl⟩⟩
theorem bO (h:PA X es t):PE X (.List es pos) (abA t):=by
 intro pins s σ H Q I hq;refine wpAny_List_spliced (cP (h pos pins s σ H _ I hq) fun us s1 ⟨xs,H1,I1,r,z,q⟩=>⟨by rw [←r.length];exact z, ?_⟩);have hf:H1 s1.heap.objs.size=none:=I1.hok.fresh (Nat.le_refl _);refine ⟨.ref s1.heap.objs.size,upd H1 s1.heap.objs.size (.lst xs),I1.laid (t':=s1.toks) (fun b u e=>Heap.get?_push_of_some _ e) (Nat.le_refl _) ?_,rfl,q _ hf⟩;exact ⟨z,us,0,r,Heap.get?_push_size _ rfl⟩
end
abbrev Sp:=List V->Hp->VK->XK->Prop
abbrev Ly:=List Env->Hp->Shared->XK->Value->Shared->Prop
structure za (P:Program) (w:World) (K:PySem.W.Frag) (mg:Str->Option Value) (base:Heap) (A:Around) (outer:List Env) (s:Shared) (H:Hp):Prop where
 frames:A.frames=some outer
 mod:Mod K mg base
 bs:∀b o,base.get? b=some o->s.heap.get? b=some o/\H b=none
 Eb:base.objs.size<=s.heap.objs.size
 m5:s.heap.FunFrames base outer
 Lr:∀b∈frs outer,H b=none
 hok:qU P w H s.heap
 bare:AllBare s.gens
def CE (outer:List Env) (P:Program) (w:World) (H:Hp) (s:Shared) (Q:VK) (u:Value) (s':Shared):Prop:=
 ∃v H',s'.os=s.os/\AllBare s'.gens/\Un (frs outer) [] H H' s.heap s'.heap/\qU P w H' s'.heap/\RelV v u/\Q v H'
def CR (CX:Ly) (outer:List Env) (P:Program) (w:World) (H:Hp) (s:Shared) (Q:VK) (E:XK) (r:Result) (s':Shared):Prop:=
 match r with
 | .ok (.ret u)=>CE outer P w H s Q u s'
 | .ok _=>False
 | .error e=>CX outer H s E e s'
structure cu (P:Program) (w:World) (K:PySem.W.Frag) (mg:Str->Option Value) (base:Heap) (CX:Ly) (k:Nat) (f:Addr) (fd:FuncData) (ps:List Str) (sp:Sp):Prop where
 len:∀vs H Q E,sp vs H Q E->vs.length=ps.length
 run:∀(A:Around) (outer:List Env) (s:Shared) (H:Hp) (args:Args) (us:List Value) (vs:List V) (Q:VK) (E:XK),dg k A->za P w K mg base A outer s H->BindsTo s fd args (ps.zip us)->Vals vs us->sp vs H Q E ->
  codeAny (model P w) A (.call (.ref f) args) (CR CX outer P w H s Q E) s
theorem za.make {P:Program} {w:World} {K:PySem.W.Frag} {mg:Str->Option Value} {base:Heap} {A:Around} {outer:List Env} {s:Shared} {H:Hp} (e:za P w K mg base A outer s H) (C:Addr) (us:List Value) (kw:List (Str×Value)):
 za P w K mg base (A.under (.builtin "type.__call__" ⟨.ref C::us,kw⟩)) outer s H:=⟨by first |exact e.frames|(simpa [Around.under,Code.envs,Code.isFrame,pushEnvs] using e.frames),e.mod,e.bs,e.Eb,e.m5,e.Lr,e.hok,e.bare⟩
theorem za.in1 {P:Program} {w:World} {K:PySem.W.Frag} {mg:Str->Option Value} {base:Heap} {A:Around} {outer:List Env} {s:Shared} {H:Hp} (e:za P w K mg base A outer s H):
 za P w K mg base A.in1 outer s H:=⟨e.frames,e.mod,e.bs,e.Eb,e.m5,e.Lr,e.hok,e.bare⟩
section
variable {X:Cx} {pins:List (Addr×Obj)} {σ:St} {H:Hp} {s s':Shared}
theorem Inv.env0 (I:Inv X pins σ H s):za X.prog X.w X.K X.mg X.base X.A X.stack s H:=
 ⟨I.ok.frames,I.ok.mod,I.bs,Nat.le_trans I.ok.Eb I.sz,I.stack,I.vA,I.hok,I.bare⟩
theorem Inv.after {Q:VK} {u:Value} (I:Inv X pins σ H s) (h:CE X.stack X.prog X.w H s Q u s'):EP X pins σ Q u s':=by
 obtain ⟨v,H',os,bare,un,hok,r,q⟩:=h;obtain ⟨hh,g,d,t,os'⟩:=s';obtain rfl:os'=s.os:=os;exact ⟨v,H',I.call (h':=hh) (g':=g) (d':=d) (t':=t) (ch:=[]) un hok bare (fun b z=>absurd z (by simp)),r,q⟩
end
def TJ (sp:Sp) (m7:List V) (E:XK) (t:TA):TE:=fun σ H Q=>t σ H fun vs H1=>sp (vs++m7) H1 Q E
def H_ (C:Addr) (m:Str) (sp:Sp) (m7:List V) (E:XK) (ta:TE) (t:TA):TE:=fun σ H Q=>ta σ H fun x H1=>∃a dx fs,x = .ref a/\H1 a=some (.ins C dx fs)/\fs.lookup m=none /\
 t σ H1 fun vs H2=>sp (x::(vs++m7)) H2 Q E
def TF (C:Addr) (sp:Sp) (m7:List V) (E:XK) (t:TA):TE:=fun σ H Q=>t σ H fun vs H1=>∀x dx,H1 x=none->H1 dx=none->dx≠x ->
 sp (.ref x::(vs++m7)) (upd (upd H1 dx (.own x)) x (.ins C dx [])) (fun v H2=>v = .non/\Q (.ref x) H2) E
def Binds (K:PySem.W.Frag) (fd:FuncData) (ps:List Str) (ds:List Value):Prop:=
 ∀(s:Shared) (us:List Value),K.In s.heap->(us++ds).length=ps.length->BindsTo s fd ⟨us,[]⟩ (ps.zip (us++ds))
theorem Binds.all {K:PySem.W.Frag} {fd:FuncData} {ps:List Str} (h:∀us:List Value,us.length=ps.length->bindArgs fd ⟨us,[]⟩=pure (ps.zip us)):Binds K fd ps []:=fun s us _ hl=>by
 rw [List.append_nil] at hl ⊢;exact .of_eq (h us hl)
def Passes (CX:Ly) (X:Cx) (E:XK):Prop:=∀(pins:List (Addr×Obj)) (σ:St) (H:Hp) (s:Shared) (e:Value) (s':Shared),Inv X pins σ H s->CX X.stack H s E e s'->X.xe e s'
section
variable {X:Cx} {CX:Ly} {k:Nat} {f C:Addr} {fd:FuncData} {ps:List Str} {sp:Sp} {m7:List V} {ds:List Value} {E:XK} {x m:Str} {p pos apos:Pos} {e o:Expr} {es:List Expr} {ta:TE} {t:TA}
theorem z8 {pins:List (Addr×Obj)} {σ:St} {H:Hp} {s:Shared} {Q:VK} {us:List Value} {vs:List V} (F:cu X.prog X.w X.K X.mg X.base CX k f fd ps sp) (hr:dg k X.A) (hb:Binds X.K fd ps ds) (hd:Vals m7 ds) (hx:Passes CX X E)
 (I:Inv X pins σ H s) (r:Vals vs us) (h:sp (vs++m7) H Q E):wpAny (model X.prog X.w) X.A (call (.ref f) us) (EP X pins σ Q) X.xe s:=by
 have r2:Vals (vs++m7) (us++ds):=r.append hd;have hl:(us++ds).length=ps.length:=by rw [←r2.length];exact F.len _ _ _ _ h
 refine wpAny_call (codeAny_mono (F.run X.A X.stack s H ⟨us,[]⟩ (us++ds) (vs++m7) Q E hr I.env0 (hb s us I.lF hl) r2 h) fun r s' hq=> ?_);cases r with
 | error e=>exact hx pins σ H s e s' I hq
 | ok fl=>
   cases fl with
   | ret u=>exact I.after hq
   | next=>exact False.elim hq
   | brk=>exact False.elim hq
   | cont=>exact False.elim hq
theorem Rm (F:cu X.prog X.w X.K X.mg X.base CX k f fd ps sp) (hr:dg k X.A) (hg:Gl X x) (hm:X.mg x=some (.ref f)) (hk:PySem.W.keepIn X.K (.ref f)=true) (hb:Binds X.K fd ps ds) (hd:Vals m7 ds) (hx:Passes CX X E)
 (ha:PA X (e::es) t) (hdb:(x==("__debug__" :Str))=false:=by decide) (he:starEach (e::es) X.env=(false,eval e X.env)::starEach es X.env:=by rfl) (hpl:(backTo pos (starEach es X.env)).any (·.1)=false:=by rfl):
 PE X (.Call (.Name x p) (e::es) [] pos) (TJ sp m7 E t):=by
 intro pins s σ H Q I h;refine wpAny_Call_Name_kw (mH I hg hm ?_ hdb);refine PySem.W.callWith_K (h₀:=X.base) I.ok.mod.Ol hk (cP (ha pos pins s σ H _ I h) fun us s1 ⟨vs,H1,I1,r,q⟩=>⟨I1.lF, ?_⟩) he hpl;exact z8 F hr hb hd hx I1 r q
theorem Rh {pl:Sem Bool} (he:PE X o ta) (c:Cls X.K C) (hm:Meth X.K C m f) (F:cu X.prog X.w X.K X.mg X.base CX k f fd ps sp) (hr:dg k X.A) (hb:Binds X.K fd ps ds) (hd:Vals m7 ds) (hx:Passes CX X E) (ha:PA X (e::es) t)
 (hst:starEach (e::es) X.env=(false,eval e X.env)::starEach es X.env:=by rfl) (hpl:(backTo pos (starEach es X.env)).any (·.1)=false:=by rfl)
 (ht:eval (.Call (.Attribute o m apos) (e::es) [] pos) X.env=(do
   let ov ←eval o X.env
   standAt apos.atName
   let (f,first) ←holding [ov] (getMethod ov m pl)
   callWith pos f first (backTo pos (starEach (e::es) X.env)) (backToKw pos (keywordEach [] X.env))):=by rfl):
 PE X (.Call (.Attribute o m apos) (e::es) [] pos) (H_ C m sp m7 E ta t):=by
 intro pins s σ H Q I h;refine PySem.W.methodCall_KW (pl:=pl) (cP (he pins s σ H _ I h) fun u s1 ⟨x,H1,I1,rx,a,dx,fs,ex,ea,l,q⟩=> ?_) ht;subst ex;obtain rfl:u=Value.ref a:=rx;refine qM I1 ea c hm l ?_;refine PySem.W.callWith_K (first:=[.ref a]) (h₀:=X.base) I.ok.mod.Ol hm.kp (cP (ha pos pins s1 σ H1 _ I1 q) fun us s2 ⟨vs,H2,I2,r,q2⟩=>⟨I2.lF, ?_⟩) hst hpl;exact z8 (us:= .ref a::us) (vs:= .ref a::vs) F hr hb hd hx I2 (.cons rfl r) q2
theorem Nq {pl:Sem Bool} (he:PE X o ta) (c:Cls X.K C) (hm:Meth X.K C m f) (F:cu X.prog X.w X.K X.mg X.base CX k f fd ps sp) (hr:dg k X.A) (hb:Binds X.K fd ps ds) (hd:Vals m7 ds) (hx:Passes CX X E)
 (ht:eval (.Call (.Attribute o m apos) [] [] pos) X.env=(do
   let ov ←eval o X.env
   standAt apos.atName
   let (f,first) ←holding [ov] (getMethod ov m pl)
   callWith pos f first (backTo pos (starEach [] X.env)) (backToKw pos (keywordEach [] X.env))):=by rfl):
 PE X (.Call (.Attribute o m apos) [] [] pos) (H_ C m sp m7 E ta zT):=by
 intro pins s σ H Q I h;refine PySem.W.methodCall_KW (pl:=pl) (cP (he pins s σ H _ I h) fun u s1 ⟨x,H1,I1,rx,a,dx,fs,ex,ea,l,q⟩=> ?_) ht;subst ex;obtain rfl:u=Value.ref a:=rx;refine qM I1 ea c hm l ?_;exact PySem.W.callWith_K0 (first:=[.ref a]) I1.lF hm.kp (z8 (us:=[.ref a]) (vs:=[.ref a]) F hr hb hd hx I1 (.cons rfl .nil) q)
structure Mk (K:PySem.W.Frag) (C f:Addr):Prop where
 makes:PySem.W.makesIn K C=true
 init:PySem.W.findIn K (.ref C) "__init__" = some (some (.ref f))
 fn:PySem.W.isFn K (.ref f)=true
 kp:PySem.W.keepIn K (.ref C)=true
theorem MN {pins:List (Addr×Obj)} {σ:St} {H:Hp} {s:Shared} {Q:VK} {us:List Value} {vs:List V} (M:Mk X.K C f) (F:cu X.prog X.w X.K X.mg X.base CX k f fd ps sp) (hr:dg (k+1) X.A) (hb:Binds X.K fd ps ds) (hd:Vals m7 ds)
 (hx:Passes CX X E) (I:Inv X pins σ H s) (r:Vals vs us)
 (h:∀x dx,H x=none->H dx=none->dx≠x->sp (.ref x::(vs++m7)) (upd (upd H dx (.own x)) x (.ins C dx [])) (fun v H2=>v = .non/\Q (.ref x) H2) E):
 wpAny (model X.prog X.w) X.A (call (.ref C) us) (EP X pins σ Q) X.xe s:=by
 have hq:=h (s.heap.objs.size+1) s.heap.objs.size (I.hok.fresh (Nat.le_succ _)) (I.hok.fresh (Nat.le_refl _)) (Nat.ne_of_lt (Nat.lt_succ_self _));have I2:=Inv.made (C:=C) I;have r2:Vals (V.ref (s.heap.objs.size+1)::(vs++m7)) (Value.ref (s.heap.objs.size+1)::(us++ds)):= .cons rfl (r.append hd)
 have hl:(Value.ref (s.heap.objs.size+1)::us++ds).length=ps.length:=by
  have e:=r2.length;rw [F.len _ _ _ _ hq] at e;exact e.symm
 refine wpAny_call (Dg (f:=f) I.lF M.makes M.init (beq_iff_eq.mp M.fn) (codeAny_mono (F.run _ X.stack _ _ ⟨Value.ref (s.heap.objs.size+1)::us,[]⟩ (Value.ref (s.heap.objs.size+1)::(us++ds)) _ _ E (hr.make C us [])
  (I2.env0.make C us []) (hb _ (Value.ref (s.heap.objs.size+1)::us) I2.lF hl) r2 hq) fun r s' hq'=> ?_))
 cases r with
 | error e=>exact hx pins σ _ _ e s' I2 hq'
 | ok fl=>
   cases fl with
   | ret u=>
     obtain ⟨v,H',I3,rv,ev,q3⟩:=I2.after hq';subst ev;exact ⟨rv,⟨V.ref (s.heap.objs.size+1),H',I3,rfl,q3⟩⟩
   | next=>exact False.elim hq'
   | brk=>exact False.elim hq'
   | cont=>exact False.elim hq'
theorem Ri (M:Mk X.K C f) (F:cu X.prog X.w X.K X.mg X.base CX k f fd ps sp) (hr:dg (k+1) X.A) (hg:Gl X x) (hm:X.mg x=some (.ref C)) (hb:Binds X.K fd ps ds) (hd:Vals m7 ds) (hx:Passes CX X E)
 (ha:PA X (e::es) t) (hdb:(x==("__debug__" :Str))=false:=by decide) (he:starEach (e::es) X.env=(false,eval e X.env)::starEach es X.env:=by rfl) (hpl:(backTo pos (starEach es X.env)).any (·.1)=false:=by rfl):
 PE X (.Call (.Name x p) (e::es) [] pos) (TF C sp m7 E t):=by
 intro pins s σ H Q I h;refine wpAny_Call_Name_kw (mH I hg hm ?_ hdb);refine PySem.W.callWith_K (h₀:=X.base) I.ok.mod.Ol M.kp (cP (ha pos pins s σ H _ I h) fun us s1 ⟨vs,H1,I1,r,q⟩=>⟨I1.lF, ?_⟩) he hpl;exact MN M F hr hb hd hx I1 r q
end
section
variable {X:Cx} {CX:Ly} {k:Nat} {f C:Addr} {fd:FuncData} {ps ks:List Str} {sp:Sp} {E:XK} {x m:Str} {p pos apos kpos:Pos} {e o:Expr} {es:List Expr} {kws:List Keyword} {te ta:TE} {t tk:TA} {nm:Option Str}
variable {g:List Value->List Value->List Value} {gV:List V->List V->List V}
end
structure aY (N P:List Str) (sc:Scope):Prop where
 kind:sc.kind = .function
 co:sc.isCoroutine=false
 gen:sc.isGenerator=false
 nd:N.Nodup
 pre:N.take P.length=P
 par:∀x∈P,sc.names.lookup x=some .local\/sc.names.lookup x=some .cell
 Vu:∀y∈sc.names,y.2 ≠ .free
theorem zJ {kindOf:Str->Option NameKind} {x:Str}:∀{binds:List (Str×Value)} {m:Str->Option Value},(∀v,(x,v)∉binds)->bindL kindOf binds m x=m x
 | [],_,_=>rfl
 | (n,v)::r,m,h=>by
   unfold bindL;rw [zJ fun w hw=>h w (List.mem_cons_of_mem _ hw)];split
   ·have:x≠n:=by rintro rfl;exact h v List.mem_cons_self
    simp [this]
   ·rfl
theorem zL {kindOf:Str->Option NameKind} {x:Str}:∀{binds:List (Str×Value)} {m:Str->Option Value},(∀v,(x,v)∉binds)->bindC kindOf binds m x=m x
 | [],_,_=>rfl
 | (n,v)::r,m,h=>by
   unfold bindC;rw [zL fun w hw=>h w (List.mem_cons_of_mem _ hw)];split
   ·rfl
   ·have:x≠n:=by rintro rfl;exact h v List.mem_cons_self
    simp [this]
theorem zK {kindOf:Str->Option NameKind} {x:Str} {v:Value}:∀{P:List Str} {vs:List Value} {i:Nat} {m:Str->Option Value},P.Nodup->P[i]? = some x->vs[i]? = some v->kindOf x=some .local ->
 bindL kindOf (P.zip vs) m x=some v
 | [],_,_,_,_,h,_,_=>by simp at h
 | _::_,[],_,_,_,_,h,_=>by simp at h
 | p::P,w::vs,0,m,nd,h1,h2,hk=>by
   simp at h1 h2;subst h1;subst h2;show bindL kindOf ((p,w)::P.zip vs) m p=_;unfold bindL;rw [zJ fun v hv=>(List.nodup_cons.mp nd).1 (List.of_mem_zip hv).1,if_pos hk];simp
 | p::P,w::vs,i+1,m,nd,h1,h2,hk=>by
   show bindL kindOf ((p,w)::P.zip vs) m x=_;unfold bindL;exact zK (i:=i) (List.nodup_cons.mp nd).2 (by simpa using h1) (by simpa using h2) hk
theorem zM {kindOf:Str->Option NameKind} {x:Str} {v:Value}:∀{P:List Str} {vs:List Value} {i:Nat} {m:Str->Option Value},P.Nodup->P[i]? = some x->vs[i]? = some v->kindOf x≠some .local ->
 bindC kindOf (P.zip vs) m x=some v
 | [],_,_,_,_,h,_,_=>by simp at h
 | _::_,[],_,_,_,_,h,_=>by simp at h
 | p::P,w::vs,0,m,nd,h1,h2,hk=>by
   simp at h1 h2;subst h1;subst h2;show bindC kindOf ((p,w)::P.zip vs) m p=_;unfold bindC;rw [zL fun v hv=>(List.nodup_cons.mp nd).1 (List.of_mem_zip hv).1,if_neg hk];simp
 | p::P,w::vs,i+1,m,nd,h1,h2,hk=>by
   show bindC kindOf ((p,w)::P.zip vs) m x=_;unfold bindC;exact zM (i:=i) (List.nodup_cons.mp nd).2 (by simpa using h1) (by simpa using h2) hk
def start (N:List Str) (vs:List V):St:=vs.map some++List.replicate (N.length - vs.length) none
def pI (CX:Ly) (P:Program) (w:World) (K:PySem.W.Frag) (mg:Str->Option Value) (base:Heap) (N:List Str) (qual:Str) (scope:Scope) (f:Addr) (cd:Value) (A:Around) (outer:List Env) (s:Shared) (H:Hp) (E:XK):Cx where
 prog:=P
 w:=w
 K:=K
 mg:=mg
 base:=base
 A:=A.deeper (envOfC qual scope s.heap.objs.size f cd)
 N:=N
 s₀:=s
 H₀:=H
 env:=envOfC qual scope s.heap.objs.size f cd
 outer:=outer
 stack:=envOfC qual scope s.heap.objs.size f cd::outer
 ex:=[]
 calm:=true
 fn:=fun _=>true
 pn:=[]
 xe:=fun e s'=>wpAny (model P w) (A.deeper (envOfC qual scope s.heap.objs.size f cd)) (leaving (envOfC qual scope s.heap.objs.size f cd) e) (fun _ s''=>CX outer H s E e s'') (fun e' s''=>CX outer H s E e' s'') s'
theorem Ea {sc:Scope} {n:Nat} {x:Str} (h:sc.names.lookup x=some .cell):∃c,(cellsFrom n sc.names []).lookup x=some c:=by
 have q:=PySem.W.cellsFrom_some sc.names n [] (.inl h);exact Option.isSome_iff_exists.mp q
theorem Kr {CX:Ly} {P:Program} {w:World} {K:PySem.W.Frag} {mg:Str->Option Value} {base:Heap} {N ps:List Str} {qual:Str} {scope:Scope} {f:Addr} {cd:Value} {A:Around} {outer:List Env} {s s1:Shared} {H:Hp} {E:XK} {us:List Value} {vs:List V}
 (S:aY N ps scope) (hd:A.handled=none) (e0:za P w K mg base A outer s H) (hl:vs.length=ps.length) (r:Vals vs us)
 (x:InCallC s s.heap.objs.size (bindL (envOfC qual scope s.heap.objs.size f cd).kindOf (ps.zip us) fun _=>none) (cellsFrom (s.heap.objs.size+1) scope.names []) (bindC (envOfC qual scope s.heap.objs.size f cd).kindOf (ps.zip us) fun _=>none) s1):
 Inv (pI CX P w K mg base N qual scope f cd A outer s H E) [] (start N vs) H s1:=by
 have hpl:ps.length<=N.length:=by have:=congrArg List.length S.pre;rw [List.length_take] at this;omega
 obtain ⟨h1,tk,rfl,hk⟩:=x.done;have Yh:∀b:Addr,b∉(pI CX P w K mg base N qual scope f cd A outer s H E).ex:=fun b z=>absurd (show b∈([]:List Addr) from z) (by simp)
 refine ⟨⟨e0.mod,S.kind,rfl,rfl,Nat.le_refl _,fun y z c h1 h2=> ?_,fun y hy=> ?_,fun y c _ h=> ?_,fun _=>hd,Around.frames_deeper e0.frames,.inr ⟨rfl,rfl⟩,fun b z=>absurd z (Yh b),e0.bs,e0.Eb,fun b _ _=>Yh b,fun b z=>absurd z (Yh b),e0.m5,e0.Lr⟩,
  rfl,e0.bare,Un.kept hk,⟨_,x.toInCall.ns,fun i y v h1 h2 h3=> ?_⟩,fun y c h=>⟨_,x.cell y c h⟩,e0.hok.fresh (Nat.le_refl _),fun y c h=> ?_,fun p hp=>absurd (show p∈([]:List (Addr×Obj)) from hp) (by simp),e0.hok.kept hk, ?_⟩
 ·exact name_of_addr x.apart (PySem.mem_of_lookup h1) (PySem.mem_of_lookup h2)
 ·have hy:scope.names.lookup y=some .cell\/scope.names.lookup y=some .free:=hy
  rcases hy with hy|hy
  ·exact Ea hy
  ·exact absurd rfl (S.Vu _ (PySem.mem_of_lookup hy))
 ·exact Nat.le_of_lt (x.above y c (PySem.mem_of_lookup h))
 ·have hi:i<vs.length:=by
   unfold start at h2
   by_cases hi:i<vs.length
   ·exact hi
   ·rw [List.getElem?_append_right (by simpa using hi)] at h2
    rw [List.getElem?_replicate] at h2;split at h2<;>cases h2
  have ha:vs[i]? = some v:=by
   unfold start at h2;rw [List.getElem?_append_left (by simpa using hi),List.getElem?_map] at h2;cases e:vs[i]? with
   | none=>rw [e] at h2;cases h2
   | some a=>rw [e] at h2;cases h2;rfl
  obtain ⟨u,hu,rv⟩:=r.get ha
  have hp:ps[i]? = some y:=by
   rw [←S.pre,List.getElem?_take_of_lt (by omega)];exact h1
  have ndP:ps.Nodup:=by rw [←S.pre];exact S.nd.sublist (List.take_sublist _ _)
  refine ⟨u,rv, ?_⟩;rcases S.par y (List.mem_of_getElem? hp) with k|k
  ·exact .inl ⟨k,zK ndP hp hu k⟩
  ·obtain ⟨c,e⟩:=Ea (n:=s.heap.objs.size+1) k
   refine .inr ⟨.inl k,c,e, ?_⟩;have q:=x.cell y c e;rw [zM ndP hp hu (by show scope.names.lookup y≠_;rw [k];decide)] at q;exact q
 ·exact e0.hok.fresh (Nat.le_of_lt (x.above y c (PySem.mem_of_lookup h)))
 ·unfold start
  show _=N.length;rw [List.length_append,List.length_map,List.length_replicate];omega
theorem Uo {CX:Ly} {P:Program} {w:World} {K:PySem.W.Frag} {mg:Str->Option Value} {base:Heap} {k:Nat} {f:Addr} {name qual:Str} {params:Arguments} {body:List Stmt} {scope:Scope} {dV kV doc pm cdv ct oc:Value} {an od:Option Addr}
 {osl:Array (Option Value)} {N ps:List Str} {sp:Sp} (lk:K.lookup f=some ⟨oc,od,.func (PySem.W.fnOf name qual params body scope dV kV doc pm an cdv ct),osl⟩) (hcd:PySem.W.codeIn K cdv qual=true) (S:aY N ps scope)
 (len:∀vs H Q E,sp vs H Q E->vs.length=ps.length)
 (hbody:∀(A:Around) (outer:List Env) (s:Shared) (H:Hp) (vs:List V) (Q:VK) (E:XK),dg k (A.deeper (envOfC qual scope s.heap.objs.size f cdv))->sp vs H Q E ->
   ∃t,Ht (pI CX P w K mg base N qual scope f cdv A outer s H E) body t/\t {nx:=fun _ H'=>Q .non H',rt:=Q} (start N vs) H):
 cu P w K mg base CX (k+1) f (PySem.W.fnOf name qual params body scope dV kV doc pm an cdv ct) ps sp:=by
 refine ⟨len,fun A outer s H args us vs Q E hr e0 hb r hsp=> ?_⟩;have hl:=len _ _ _ _ hsp;have KX:K.In s.heap:=e0.mod.Ol.keeps fun b o e=>(e0.bs b o e).1;have lim:s.heap.NoLimit:=e0.mod.nolimit.keeps fun b o e=>(e0.bs b o e).1
 have hkind:∀y∈ps.zip us,scope.names.lookup y.1=some .local\/(scope.names.lookup y.1=some .cell/\((cellsFrom (s.heap.objs.size+1) scope.names []).lookup y.1).isSome=true):=fun ⟨n,v⟩ hy=>by
  rcases S.par n (List.of_mem_zip hy).1 with q|q
  ·exact .inl q
  ·exact .inr ⟨q,PySem.W.cellsFrom_some _ _ _ (.inl q)⟩
 refine codeAny_call_function hr.depth (KX _ _ lk) rfl S.co S.gen rfl (PySem.W.codeRec_of KX hcd) (hb _ _ _ _ ?_);refine wpAny_newFunctionEnv_cells S.kind hkind fun env he s1 x=> ?_;subst he;refine ⟨lim.keeps x.toInCall.keep,codeAny_func ?_⟩;obtain ⟨t,ht,hq⟩:=hbody A outer s H vs Q E (hr.deeper _) hsp;have I:Inv (pI CX P w K mg base N qual scope f cdv A outer s H E) [] (start N vs) H s1:=Kr S hr.hd e0 hl r x;refine wpAny_mono (ht [] s1 (start N vs) H _ I hq) (fun fl s' hs=> ?_) fun e s' hs=>hs
 have fin:∀{σ':St} {H':Hp} {v:V} {u:Value},Inv (pI CX P w K mg base N qual scope f cdv A outer s H E) [] σ' H' s'->RelV v u->Q v H'->CE outer P w H s Q u s':=
  fun {σ' H' v u} J rv q=>⟨v,H',J.os,J.bare,J.base,J.hok,rv,q⟩
 cases fl with
 | ret u=>
   obtain ⟨v,σ',H',J,rv,q⟩:=hs;exact fin J rv q
 | next=>
   obtain ⟨σ',H',J,q⟩:=hs;exact fin (v:=V.non) (u:=Value.none) J rfl q
 | brk=>
   obtain ⟨_,_,_,q⟩:=hs;exact False.elim q
 | cont=>
   obtain ⟨_,_,_,q⟩:=hs;exact False.elim q
end L2
namespace L2
open PySem PySem.Spec PyProof.Rows
section
variable {X:Cx} {x:Str} {p pos:Pos} {e:Expr} {es:List Expr} {t:TA} {id T:String} {r:List V->Hp->VK->Prop}
def tCB (r:List V->Hp->VK->Prop) (t:TA):TE:=fun σ H Q=>t σ H fun vs H1=>r vs H1 Q
theorem aO (hc:iJ X (.builtin id) r) (hg:Gl X x) (hm:X.mg x=none) (hv:bootBuiltins x=some (.builtin id)) (ha:PA X (e::es) t) (hn:x ≠ "__name__" :=by decide) (hdb:(x==("__debug__" :Str))=false:=by decide)
 (he:starEach (e::es) X.env=(false,eval e X.env)::starEach es X.env:=by rfl) (hpl:(backTo pos (starEach es X.env)).any (·.1)=false:=by rfl):PE X (.Call (.Name x p) (e::es) [] pos) (tCB r t):=by
 intro pins s σ H Q I h;refine wpAny_Call_Name_kw (uh I hg hm hv ?_ hn hdb);exact PyProof.Rows.callWith_builtin1 (cP (ha pos pins s σ H _ I h) fun us s1 ⟨vs,H1,I1,r1,q1⟩=>hc pins s1 σ H1 vs us Q I1 r1 q1) he hpl
theorem dW (hc:iJ X (.type T) r) (hg:Gl X x) (hm:X.mg x=none) (hv:bootBuiltins x=some (.type T)) (ha:PA X (e::es) t) (hn:x ≠ "__name__" :=by decide) (hdb:(x==("__debug__" :Str))=false:=by decide)
 (he:starEach (e::es) X.env=(false,eval e X.env)::starEach es X.env:=by rfl) (hpl:(backTo pos (starEach es X.env)).any (·.1)=false:=by rfl):PE X (.Call (.Name x p) (e::es) [] pos) (tCB r t):=by
 intro pins s σ H Q I h;refine wpAny_Call_Name_kw (uh I hg hm hv ?_ hn hdb);exact PyProof.Rows.callWith_type1 (cP (ha pos pins s σ H _ I h) fun us s1 ⟨vs,H1,I1,r1,q1⟩=>hc pins s1 σ H1 vs us Q I1 r1 q1) he hpl
end
end L2
namespace HT
open PySem PyProof.Rows
section
open PySem.SeqAt
open PySem.AutoSeq1 (wpAny_loadPart')
open PySem.MeetsSeq PySem.MeetsSeq2 PySem.MeetsSeq3
end
section
variable {prog:Program} {w:World} {A:Around} {E:Value->Shared->Prop} {s:Shared}
theorem S_ {t b:Addr} {vs ws:List Value} {Q:Value->Shared->Prop} (ht:IsTup s.heap t vs.toArray) (hb:IsTup s.heap b ws.toArray) (hv:vs≠[])
 (h1:ws=[]->Q (.ref t) s) (h2:ws≠[]->Q (.ref s.heap.objs.size) {s with heap:=s.heap.push {cls:= .type "tuple",data:= .seq (vs++ws).toArray}})
 (hsz:vs.length+ws.length<=sizeLine):wpAny (model prog w) A (binaryOp .Add (.ref t) (.ref b)) Q E s:=by
 obtain ⟨⟨cls,dd,data,sl⟩,ho,hc,n,hd⟩:=id ht;obtain ⟨⟨cls2,dd2,data2,sl2⟩,ho2,hc2,n2,hd2⟩:=id hb;simp only at hc hd hc2 hd2;subst hc hd hc2 hd2;have e:vs.toArray++ws.toArray=(vs++ws).toArray:=by simp
 by_cases hw:ws=[]
 ·exact concat_meets ⟨_,ho,rfl⟩ ⟨_,ho2,rfl⟩ noFill_tuple_add seq_tuple_add PySem.F.slot_tuple_add PySem.F.entry_tuple_add (PySem.F.args_tuple_add_2 _ _)
   (tuple_addW1 t b vs.toArray ws.toArray n n2 dd dd2 sl sl2 (by simpa using hv) (by simp [hw])) ⟨ho,ho2,h1 hw⟩
 ·refine concat_meets ⟨_,ho,rfl⟩ ⟨_,ho2,rfl⟩ noFill_tuple_add seq_tuple_add PySem.F.slot_tuple_add PySem.F.entry_tuple_add (PySem.F.args_tuple_add_2 _ _)
   (tuple_addW2 t b vs.toArray ws.toArray n n2 dd dd2 sl sl2 (by simpa using hv) (by simpa using hw) (by rw [List.size_toArray,List.size_toArray];exact hsz)) ⟨ho,ho2, ?_⟩
  rw [e];exact h2 hw
def iK (n d:Nat):Option Int->Nat
 | none=>d
 | some v=>if v<0 then (v+(n:Int)).toNat else min v.toNat n
theorem Ca (n d:Nat):iK n d none=d:=rfl
theorem Ii (n d k:Nat):iK n d (some (k:Int))=min k n:=by
 show (if (k:Int)<0 then ((k:Int)+(n:Int)).toNat else min (k:Int).toNat n)=min k n;rw [if_neg (by omega),Int.toNat_natCast]
theorem Va (n d:Nat) (hd:d<=n) (o:Option Int):iK n d o<=n:=by
 cases o with
 | none=>exact hd
 | some v=>
   show (if v<0 then (v+(n:Int)).toNat else min v.toNat n)<=n
   by_cases hv:v<0
   ·rw [if_pos hv];omega
   ·rw [if_neg hv];exact Nat.min_le_right _ _
theorem Jp (v:Int) (n d:Nat):(if v<0 then max (v+(n:Int)) 0 else min v (n:Int))=((iK n d (some v):Nat):Int):=by
 show (if v<0 then max (v+(n:Int)) 0 else min v (n:Int))=(((if v<0 then (v+(n:Int)).toNat else min v.toNat n):Nat):Int)
 by_cases hv:v<0
 ·simp only [if_pos hv];omega
 ·simp only [if_neg hv];omega
theorem Hs (lo hi:Option Int) (n:Nat):Builtin.Slice.sliceAdjust lo hi 1 (n:Int)=(((iK n 0 lo:Nat):Int),((iK n n hi:Nat):Int)):=by
 have h1:¬((1:Int)<0):=by omega
 unfold Builtin.Slice.sliceAdjust;simp only [h1,if_false];refine Prod.ext ?_ ?_
 ·cases lo with
  | none=>rfl
  | some v=>exact Jp v n 0
 ·cases hi with
  | none=>rfl
  | some v=>exact Jp v n n
theorem Gd (i j:Nat):Builtin.Slice.slicePlaces (i:Int) (j:Int) 1=j - i:=by
 unfold Builtin.Slice.slicePlaces;have h1:(1:Int)>0:=by omega
 simp only [h1,if_true,Int.ediv_one];split<;>omega
theorem wz {v:Value} {o:Option Int} {Q:Option Int->Shared->Prop} (p:IsPart v o) (h:Q o s):wpAny (model prog w) A (Builtin.Slice.slicePartIndex v) Q E s:=by
 cases p with
 | none=>exact slicePart_none h
 | int i t=>exact slicePart_int h
theorem tV {sl:Addr} {vl vu:Value} {lo hi:Option Int} {n:Nat} {Q:Int×Int×Nat->Shared->Prop} (hs:s.heap.IsSliceOf sl vl vu .none) (pl:IsPart vl lo) (pu:IsPart vu hi)
 (h:Q (((iK n 0 lo:Nat):Int),1,iK n n hi - iK n 0 lo) s):wpAny (model prog w) A (Builtin.Slice.sliceApplied (.ref sl) (pure (n:Int))) Q E s:=by
 obtain ⟨os,hos,hcs,hds⟩:=id hs;unfold Builtin.Slice.sliceApplied Builtin.Slice.sliceFields;refine wpAny_bind (wpAny_bind (wpAny_field hos hds (x:=vl) rfl (wpAny_bind (wpAny_field hos hds (x:=vu) rfl (wpAny_bind (wpAny_field hos hds (x:= .none) rfl (wpAny_pure ?_)))))));refine wpAny_bind (slicePart_none ?_);show wpAny _ _ (if ((1:Int)==0)=true then _ else _) _ _ s;rw [if_neg (by decide)];refine wpAny_bind (wz pl (wpAny_bind (wz pu (wpAny_bind (wpAny_pure ?_)))));show wpAny _ _ (match Builtin.Slice.sliceAdjust lo hi 1 (n:Int) with |(lo,hi)=>pure (lo,(1:Int),Builtin.Slice.slicePlaces lo hi 1)) _ _ s;rw [Hs lo hi n];show wpAny _ _ (pure (((iK n 0 lo:Nat):Int),(1:Int),Builtin.Slice.slicePlaces ((iK n 0 lo:Nat):Int) ((iK n n hi:Nat):Int) 1)) _ _ s;rw [Gd];exact wpAny_pure h
theorem Nk (xs:Array Value) (i k:Nat):((List.range k).filterMap fun (m:Nat)=>xs[((i:Int)+(m:Int)*1).toNat]?).toArray=((xs.toList.drop i).take k).toArray:=by
 have e:(fun (m:Nat)=>xs[((i:Int)+(m:Int)*1).toNat]?)=fun m=>xs[i+m]? :=by
  funext m;have:((i:Int)+(m:Int)*1).toNat=i+m:=by omega
  rw [this]
 rw [e];have:=pick_run xs i k;rw [List.filterMap_map] at this;have e2:((fun x=>xs[x]?)∘fun x=>i+x)=fun m=>xs[i+m]? :=rfl;rw [e2] at this;rw [this]
theorem rZ {t sl:Addr} {items:Array Value} {vl vu:Value} {lo hi:Option Int} {Q:Value->Shared->Prop} (ht:IsTup s.heap t items) (hs:s.heap.IsSliceOf sl vl vu .none) (pl:IsPart vl lo) (pu:IsPart vu hi)
 (hw:¬(iK items.size 0 lo=0/\iK items.size items.size hi=items.size))
 (h:Q (.ref s.heap.objs.size) {s with heap:=s.heap.push {cls:= .type "tuple",data:= .seq ((items.toList.drop (iK items.size 0 lo)).take (iK items.size items.size hi - iK items.size 0 lo)).toArray}})
 (hsz:items.size<=sizeLine):wpAny (model prog w) A (getItem (.ref t) (.ref sl)) Q E s:=by
 have Je:sizeOk (.seq ((items.toList.drop (iK items.size 0 lo)).take (iK items.size items.size hi - iK items.size 0 lo)).toArray):=by
  show ((items.toList.drop (iK items.size 0 lo)).take (iK items.size items.size hi - iK items.size 0 lo)).toArray.size<=sizeLine;rw [List.size_toArray,List.length_take,List.length_drop,Array.length_toList];omega
 have hj:iK items.size items.size hi<=items.size:=Va _ _ (Nat.le_refl _) hi;obtain ⟨os,hos,hcs,hds⟩:=id hs;have hTs:s.TypeIs (.ref sl) "slice" :=⟨os,hos,hcs⟩;unfold getItem
 try with_reducible refine wpAny_holding ?_
 first |refine wpAny_bind (wpAny_pure ?_)|skip
 refine wpAny_bind (wpAny_sequenceKey ht.typeIs (by decide) ?_)
 refine wpAny_bind (wpAny_callSpecial?_slot (name:=Str.ofString "__getitem__") ht.typeIs PyProof.Rows.slot_tuple_getitem
  (wpAny_call_entry PyProof.Rows.slot_tuple_getitem ht.typeIs entry_tuple_getitem ?_ (args_tuple_getitem _ _)))
 show wpAny _ _ (Builtin.Tuple.tupleItemsOf (.ref t) >>= _) _ _ s;refine wpAny_bind (tupleItemsOf_ ht ?_);refine wpAny_bind (wpAny_typeOf hTs ?_);rw [if_pos (by decide)];refine wpAny_bind (tV hs pl pu ?_)
 have hno:¬((((iK items.size 0 lo:Nat):Int)==0&&(1:Int)==1&&(iK items.size items.size hi - iK items.size 0 lo)==items.size)=true):=by
  intro q;rw [Bool.and_eq_true,Bool.and_eq_true] at q;have q1:((iK items.size 0 lo:Nat):Int)=0:=eq_of_beq q.1.1;have q2:iK items.size items.size hi - iK items.size 0 lo=items.size:=eq_of_beq q.2;exact hw ⟨by omega,by omega⟩
 show wpAny _ _ (if (((iK items.size 0 lo:Nat):Int)==0&&(1:Int)==1&&(iK items.size items.size hi - iK items.size 0 lo)==items.size)=true then _ else _) _ _ s;rw [if_neg hno,Nk]
 first
  | exact wpAny_bind (m:=Builtin.Tuple.tupleExact _) (wpAny_newObj_type (wpAny_pure ⟨_,rfl,wpAny_pure h⟩) Je)
  | exact wpAny_bind (m:=Builtin.Tuple.tupleExact _) (wpAny_newObj_type (wpAny_bind (wpAny_pure (wpAny_pure ⟨_,rfl,wpAny_pure h⟩))) Je)
  | exact wpAny_bind (wpAny_bind (m:=Builtin.Tuple.tupleExact _) (wpAny_newObj_type (wpAny_pure (wpAny_pure ⟨_,rfl,wpAny_pure h⟩)) Je))
  | exact wpAny_bind (wpAny_bind (m:=Builtin.Tuple.tupleExact _) (wpAny_newObj_type (wpAny_pure ⟨_,rfl,wpAny_pure h⟩) Je))
end
end HT
namespace L2
open PySem PySem.Spec PyProof.Rows
abbrev TO:=St->Hp->(Option Int->Hp->Prop)->Prop
def PO (X:Cx) (e:Option Expr) (t:TO):Prop:=
 ∀(pins:List (Addr×Obj)) (s:Shared) (σ:St) (H:Hp) (Q:Option Int->Hp->Prop),Inv X pins σ H s->t σ H Q ->
  wpAny (model X.prog X.w) X.A (evalPart e X.env) (fun u s'=>∃o H',Inv X pins σ H' s'/\IsPart u o/\Q o H') X.xe s
def QH:TO:=fun _ H Q=>Q none H
def Xg (t:TE):TO:=fun σ H Q=>t σ H fun x H1=>∃i,x = .int i/\Q (some i) H1
section
variable {X:Cx} {e:Expr} {te:TE} {lo hi:Option Expr} {tl th:TO} {pos p2:Pos}
theorem vI:PO X none QH:=by
 intro pins s σ H Q I h;rw [evalPart_none];exact wpAny_pure ⟨none,H,I,.none,h⟩
theorem vH (h:PE X e te):PO X (some e) (Xg te):=by
 intro pins s σ H Q I hw;rw [evalPart_some];refine cP (h pins s σ H _ I hw) fun u s1 ⟨x,H1,I1,r1,q1⟩=> ?_;obtain ⟨i,rfl,q⟩:=q1;obtain ⟨t,rfl⟩:=r1;exact ⟨some i,H1,I1,.int i t,q⟩
def ZV (X:Cx) (r:V->Option Int->Option Int->Hp->VK->Prop):Prop:=
 ∀(pins:List (Addr×Obj)) (s:Shared) (σ:St) (H:Hp) (x:V) (v vl vu:Value) (lo hi:Option Int) (sl:Addr) (Q:VK),Inv X pins σ H s->RelV x v->s.heap.IsSliceOf sl vl vu .none->IsPart vl lo->IsPart vu hi->r x lo hi H Q ->
  ∃T id,typeLookup (.type T) "__getitem__" = pure (some (.builtin id))/\s.TypeIs v T/\wpAny (model X.prog X.w) X.A (getItem v (.ref sl)) (EP X pins σ Q) X.xe s
def tSl (r:V->Option Int->Option Int->Hp->VK->Prop) (te:TE) (tl th:TO):TE:=fun σ H Q=>te σ H fun x H1=>tl σ H1 fun l H2=>th σ H2 fun u H3=>r x l u H3 Q
theorem rO {r:V->Option Int->Option Int->Hp->VK->Prop} (hr:ZV X r) (he:PE X e te) (hl:PO X lo tl) (hu:PO X hi th):PE X (.Subscript e (.Slice lo hi none p2) pos) (tSl r te tl th):=by
 intro pins s σ H Q I h;refine Subscript_ (cP (he pins s σ H _ I h) fun v s1 ⟨x,H1,I1,r1,q1⟩=> ?_);refine wpAny_Slice (cP (hl pins s1 σ H1 _ I1 q1) fun vl s2 ⟨l,H2,I2,pl,q2⟩=>cP (hu pins s2 σ H2 _ I2 q2) fun vu s3 ⟨u,H3,I3,pu,q3⟩=> ?_);rw [evalPart_none];refine wpAny_pure ?_;have I4:Inv X pins σ H3 {s3 with heap:=s3.heap.push {cls:= .type "slice",data:= .fields #[vl,vu,.none]}}:=I3.kept (t':=s3.toks) fun b ob q=>Heap.get?_push_of_some _ q;obtain ⟨T,id,hT,ht,hg⟩:=hr pins {s3 with heap:=s3.heap.push {cls:= .type "slice",data:= .fields #[vl,vu,.none]}} σ H3 x v vl vu l u s3.heap.objs.size Q I4 r1 (Heap.IsSliceOf.new ..) pl pu q3;show wpAny (model X.prog X.w) X.A (subscriptTail e (.Slice lo hi none p2) v (.ref s3.heap.objs.size)) (EP X pins σ Q) X.xe {s3 with heap:=s3.heap.push {cls:= .type "slice",data:= .fields #[vl,vu,.none]}};exact tail_any (ops:=[.ref s3.heap.objs.size,v]) ht hT hg (by with_unfolding_all rfl)
def j4 (xs:List V) (lo hi:Option Int):List V:=(xs.drop (HT.iK xs.length 0 lo)).take (HT.iK xs.length xs.length hi - HT.iK xs.length 0 lo)
theorem uV (xs:List V) (lo hi:Option Int):(j4 xs lo hi).length<=xs.length:=by
 unfold j4;rw [List.length_take,List.length_drop];omega
def XC (K:PySem.W.Frag):V->Option Int->Option Int->Hp->VK->Prop:=fun x lo hi H Q=>∃a xs,x = .ref a/\gC K H a xs /\
 ¬(HT.iK xs.length 0 lo=0/\HT.iK xs.length xs.length hi=xs.length) /\ ∀p,H p=none->Q (.ref p) (upd H p (.tup (j4 xs lo hi)))
theorem U_:ZV X (XC X.K):=by
 intro pins s σ H x v vl vu lo hi sl Q I rx hs pl pu h;obtain ⟨a,xs,rfl,hx,hw,q⟩:=h;cases rx;obtain ⟨its,r,ht,hz⟩:=I.tuple hx;have hlen:its.toArray.size=xs.length:=by rw [List.size_toArray];exact r.length.symm
 refine ⟨"tuple",_,PyProof.Rows.slot_tuple_getitem.lookup,ht.typeIs, ?_⟩;refine HT.rZ ht hs pl pu (by rw [hlen];exact hw) ?_ (by rw [hlen];exact hz);rw [hlen];refine ⟨.ref s.heap.objs.size,_,I.laid (t':=s.toks) (o:= .tup (j4 xs lo hi)) (fun b ob q=>Heap.get?_push_of_some _ q) (Nat.le_refl _) ?_,rfl,q _ (I.hok.fresh (Nat.le_refl _))⟩;exact ⟨Nat.le_trans (uV xs lo hi) hz,_,(r.drop (HT.iK xs.length 0 lo)).take (HT.iK xs.length xs.length hi - HT.iK xs.length 0 lo),IsTup.new _ _⟩
def T4 (K:PySem.W.Frag):R2:=fun x y H Q=>∃a b xs ys,x = .ref a/\y = .ref b/\gC K H a xs/\gC K H b ys/\xs≠[]/\xs.length+ys.length<=sizeLine /\
 (ys=[]->Q (.ref a) H)/\(ys≠[] -> ∀p,H p=none->Q (.ref p) (upd H p (.tup (xs++ys))))
theorem Vals.Af {xs:List V} {us:List Value} (r:Vals xs us):us=[]↔xs=[]:=by
 cases r with
 | nil=>simp
 | cons _ _=>simp
theorem Rn:pX X (binaryOp .Add) (T4 X.K):=by
 intro pins s σ H x y v u Q I rx ry h;obtain ⟨a,b,xs,ys,rfl,rfl,ha,hb,hx,hz,q1,q2⟩:=h;cases rx;cases ry;obtain ⟨its,r1,p1,_⟩:=I.tuple ha;obtain ⟨its2,r2,p2,_⟩:=I.tuple hb;refine HT.S_ p1 p2 (fun z=>hx (r1.Af.mp z)) (fun z=>⟨.ref a,H,I,rfl,q1 (r2.Af.mp z)⟩) (fun z=> ?_) (by rw [←r1.length,←r2.length];exact hz);refine ⟨.ref s.heap.objs.size,_,I.laid (t':=s.toks) (o:= .tup (xs++ys)) (fun b ob q=>Heap.get?_push_of_some _ q) (Nat.le_refl _) ?_,rfl,q2 (fun w=>z (r2.Af.mpr w)) _ (I.hok.fresh (Nat.le_refl _))⟩;exact ⟨by rw [List.length_append];exact hz,_,r1.append r2,IsTup.new _ _⟩
end
end L2
namespace L2
open PySem PySem.Spec PyProof.Rows
def Oq (n:Nat) (i:Int):Option Nat:=if 0<=i then (if i<n then some i.toNat else none) else if -(n:Int)<=i then some (i+n).toNat else none
def uX {α:Type} (xs:List α) (i:Int):Option α:=(Oq xs.length i).bind fun j=>xs[j]?
theorem Jc {n:Nat} {i:Int} {j:Nat} (h:Oq n i=some j):seqIndex? i n=some j/\j<n /\ -(n:Int)<=i/\i<n:=by
 unfold Oq at h
 by_cases h0:0<=i
 ·rw [if_pos h0] at h
  by_cases h1:i<n
  ·rw [if_pos h1] at h
   have e:i.toNat=j:=Option.some.inj h;exact ⟨by rw [seqIndex_of h0 h1,e],by omega,by omega,h1⟩
  ·rw [if_neg h1] at h;cases h
 ·rw [if_neg h0] at h
  by_cases h1: -(n:Int)<=i
  ·rw [if_pos h1] at h
   have e:(i+n).toNat=j:=Option.some.inj h;exact ⟨by rw [seqIndex_neg (by omega) h1,e],by omega,h1,by omega⟩
  ·rw [if_neg h1] at h;cases h
theorem Bb {α:Type} {xs:List α} {i:Int} {v:α} (h:uX xs i=some v):∃j,seqIndex? i xs.length=some j/\xs[j]? = some v/\j<xs.length /\ -(xs.length:Int)<=i/\i<xs.length:=by
 unfold uX at h;cases e:Oq xs.length i with
 | none=>rw [e] at h;cases h
 | some j=>
   rw [e] at h;obtain ⟨h1,h2,h3,h4⟩:=Jc e;exact ⟨j,h1,h,h2,h3,h4⟩
theorem bZ {α:Type} {xs:List α} {j:Nat} {v:α} (h:xs[j]? = some v):uX xs (j:Int)=some v:=by
 have hj:j<xs.length:=(List.getElem?_eq_some_iff.mp h).1
 have e:Oq xs.length (j:Int)=some j:=by
  unfold Oq;rw [if_pos (by omega),if_pos (by omega)];simp
 unfold uX;rw [e];exact h
theorem P_ {α:Type} (xs:List α) (v:α):uX (xs++[v]) (-1)=some v:=by
 have hl:(xs++[v]).length=xs.length+1:=by simp
 have e:Oq (xs++[v]).length (-1)=some xs.length:=by
  unfold Oq;rw [hl,if_neg (by decide),if_pos (by omega)];congr 1;omega
 unfold uX;rw [e];show (xs++[v])[xs.length]? = some v;simp
def Tj (b:Expr):Prop:=∀o i,subscripted b false o i=operate [o,i] (getItem o i)
def Lw (X:Cx) (r:R2):Prop:=
 ∀(value slice:Expr) (pins:List (Addr×Obj)) (s:Shared) (σ:St) (H:Hp) (x y:V) (v u:Value) (Q:VK),Inv X pins σ H s->RelV x v->RelV y u->r x y H Q ->
  subscripted slice false v u=operate [v,u] (getItem v u)->wpAny (model X.prog X.w) X.A (subscriptTail value slice v u) (EP X pins σ Q) X.xe s
def MtR (X:Cx) (id:String) (r:V->List V->Hp->VK->Prop):Prop:=
 ∀(pins:List (Addr×Obj)) (s:Shared) (σ:St) (H:Hp) (x:V) (xs:List V) (v:Value) (us:List Value) (Q:VK),Inv X pins σ H s->RelV x v->Vals xs us->r x xs H Q ->
  wpAny (model X.prog X.w) X.A (call (.builtin id) (v::us)) (EP X pins σ Q) X.xe s
section
variable {X:Cx} {a b:Expr} {ta tb:TE} {pos:Pos}
theorem Lw.or {r r':R2} (h:Lw X r) (h':Lw X r'):Lw X (fun x y H Q=>r x y H Q\/r' x y H Q):=by
 intro value slice pins s σ H x y v u Q I rx ry q hs;rcases q with q|q
 ·exact h value slice pins s σ H x y v u Q I rx ry q hs
 ·exact h' value slice pins s σ H x y v u Q I rx ry q hs
theorem aR {r:R2} (hr:Lw X r) (ha:PE X a ta) (hb:PE X b tb) (hs:Tj b):PE X (.Subscript a b pos) (HX r ta tb):=by
 intro pins s σ H Q I h;exact Subscript_ (Wq ha hb I h fun v u s2 x y H2 I2 rx ry q=>hr a b pins s2 σ H2 x y v u Q I2 rx ry q (hs _ _))
def Vf (K:PySem.W.Frag):R2:=fun x y H Q=>∃p xs i v,x = .ref p/\y = .int i/\bA K H p xs/\uX xs i=some v/\Q v H
def z9 (K:PySem.W.Frag):R2:=fun x y H Q=>∃p xs i v,x = .ref p/\y = .int i/\gC K H p xs/\uX xs i=some v/\Q v H
def XM:R2:=fun x y H Q=>∃z i c,x = .str z/\y = .int i/\z.length<=sizeLine/\uX z.cps.toList i=some c/\Q (.str ⟨#[c]⟩) H
theorem Jb:Lw X (Vf X.K):=by
 intro value slice pins s σ H x y v u Q I rx ry h hs;obtain ⟨p,xs,i,z,rfl,rfl,hq,he,q⟩:=h;cases rx;obtain ⟨t,rfl⟩:=ry;obtain ⟨its,r,pl,hz⟩:=I.list hq;obtain ⟨j,h1,h2,h3,h4,h5⟩:=Bb he;obtain ⟨w,ew,rw'⟩:=r.get h2;have hl:=r.length;have hn:=ug;have fin:EP X pins σ Q w s:=⟨z,H,I,rw',q⟩
 by_cases h0:0<=i
 ·have hj:i.toNat=j:=by
   rw [seqIndex_of h0 h5] at h1;exact Option.some.inj h1
  exact item_listR pl.isList h0 (by omega) (by rw [hj];simpa using ew) fin hs
 ·have hj:(i+(its.toArray.size:Int)).toNat=j:=by
   rw [seqIndex_neg (by omega) h4] at h1;rw [List.size_toArray,←hl];exact Option.some.inj h1
  exact subscriptTail_builtinR (x:=w) pl.isList.typeIs slot_list_getitem.lookup
   (wpAny_getItem_list_neg (Q:=fun r s'=>r=w/\EP X pins σ Q r s') pl.isList (by omega) (by rw [List.size_toArray]<;>omega) (by omega) (by rw [hj];simpa using ew) ⟨rfl,fin⟩) hs
theorem Oo:Lw X (z9 X.K):=by
 intro value slice pins s σ H x y v u Q I rx ry h hs;obtain ⟨p,xs,i,z,rfl,rfl,hq,he,q⟩:=h;cases rx;obtain ⟨t,rfl⟩:=ry;obtain ⟨its,r,pl,hz⟩:=I.tuple hq;obtain ⟨j,h1,h2,h3,h4,h5⟩:=Bb he;obtain ⟨w,ew,rw'⟩:=r.get h2;have hl:=r.length;have hn:=ug;have fin:EP X pins σ Q w s:=⟨z,H,I,rw',q⟩
 exact subscriptTail_builtinR (x:=w) pl.typeIs slot_tuple_getitem.lookup
  (getItem_tuple (j:=j) (Q:=fun r s'=>r=w/\EP X pins σ Q r s') pl (by omega) (by omega) (by rw [List.size_toArray,←hl];exact h1) (by simpa using ew) ⟨rfl,fin⟩) hs
theorem V1:Lw X XM:=by
 intro value slice pins s σ H x y v u Q I rx ry h hs;obtain ⟨z,i,c,rfl,rfl,hz,he,q⟩:=h;obtain ⟨t,rfl⟩:=rx;obtain ⟨t',rfl⟩:=ry;obtain ⟨j,h1,h2,h3,h4,h5⟩:=Bb he;have hl:z.cps.toList.length=z.length:=by simp [Str.length]
 rw [hl] at h1 h4 h5;have hn:=ug
 exact tail_any (typeIs_str s z t) slot_str_getitem.lookup (getItem_str (c:=c) (by
  have e1:decide (i < -(2 ^ 63:Int))=false:=decide_eq_false (by omega);have e2:decide (i≥2 ^ 63)=false:=decide_eq_false (by omega);rw [e1,e2,Bool.or_false]) (by rw [h1];simpa using h2) ⟨.str ⟨#[c]⟩,H,I.tok _,⟨_,rfl⟩,q⟩) hs
def rIx (K:PySem.W.Frag):R2:=fun x y H Q=>Vf K x y H Q\/z9 K x y H Q\/XM x y H Q
theorem V2:Lw X (rIx X.K):=Jb.or (Oo.or V1)
theorem GF (its:List Value) (n j:Nat) (u:Value):Obj.mapSeq (·.setIfInBounds j u) {cls:= .type "list",data:= .seq its.toArray n}={cls:= .type "list",data:= .seq (its.set j u).toArray n}:=by
 simp [Obj.mapSeq]
theorem Inv.lst {pins:List (Addr×Obj)} {σ:St} {H:Hp} {s:Shared} {p:Addr} {xs:List V} (I:Inv X pins σ H s) (h:H p=some (.lst xs)):
 ∃(its:List Value) (n:Nat),Vals xs its/\s.heap.get? p=some {cls:= .type "list",data:= .seq its.toArray n}/\xs.length<=sizeLine:=by
 obtain ⟨z,its,n,r,e⟩:=I.hok p _ h;exact ⟨its,n,r,e,z⟩
theorem Inv.VG {pins:List (Addr×Obj)} {σ:St} {H:Hp} {s:Shared} {p:Addr} {xs ys:List V} {its its':List Value} {n n':Nat} {f:Obj->Obj} (I:Inv X pins σ H s) (h:H p=some (.lst xs))
 (ho:s.heap.get? p=some {cls:= .type "list",data:= .seq its.toArray n}) (hf:f {cls:= .type "list",data:= .seq its.toArray n}={cls:= .type "list",data:= .seq its'.toArray n'}) (r:Vals ys its') (hz:ys.length<=sizeLine) (t:Nat):
 Inv X pins σ (upd H p (.lst ys)) {s with heap:=s.heap.update p f,toks:=t}:=by
 have e:(s.heap.update p f).get? p=some {cls:= .type "list",data:= .seq its'.toArray n'}:=by
  rw [Heap.get?_update_self f ho (by rw [hf]<;>rfl),hf]
 refine I.write (x:=p) (e:=p) (by rw [h];trivial) (.inl rfl) (fun b u hb q=>(Heap.get?_update_other _ _ (Ne.symm hb)).trans q) ⟨_,e⟩ ?_;exact ⟨hz,its',n',r,e⟩
def XF:V->V->V->Hp->(Hp->Prop)->Prop:=fun o i v H Q=>∃p xs k j,o = .ref p/\i = .int k/\H p=some (.lst xs)/\Oq xs.length k=some j/\Q (upd H p (.lst (xs.set j v)))
theorem set_list:Z4 X XF:=by
 intro pins s σ H o i v ov iv u Q I ro ri rv h;obtain ⟨p,xs,k,j,rfl,rfl,hp,hj,q⟩:=h;cases ro;obtain ⟨t,rfl⟩:=ri;obtain ⟨its,n,r,ho,hz⟩:=I.lst hp;obtain ⟨h1,h2,h3,h4⟩:=Jc hj;have hl:=r.length;have hn:=ug
 have I':Inv X pins σ (upd H p (.lst (xs.set j v))) {s with heap:=s.heap.update p (Obj.mapSeq (·.setIfInBounds j u))}:=
  I.VG hp ho (GF its n j u) (r.set rv j) (by rw [List.length_set];exact hz) s.toks
 by_cases h0:0<=k
 ·have hk:k.toNat=j:=by
   rw [seqIndex_of h0 h4] at h1;exact Option.some.inj h1
  exact PySem.W.ki_setAt ho h0 (by omega) (by rw [List.size_toArray,←hl];exact h4) (by rw [hk];exact ⟨_,I',q⟩)
 ·have hk:(k+(its.toArray.size:Int)).toNat=j:=by
   rw [seqIndex_neg (by omega) h3] at h1;rw [List.size_toArray,←hl];exact Option.some.inj h1
  exact PySem.W.ki_setBack ho (by omega) (by rw [List.size_toArray,←hl];exact h3) (by omega) (by rw [hk];exact ⟨_,I',q⟩)
theorem z6 (lo hi:Option Int) (n:Nat):(sliceBounds lo hi none n).1=((HT.iK n 0 lo:Nat):Int)/\(sliceBounds lo hi none n).2.1=((HT.iK n n hi:Nat):Int)/\(sliceBounds lo hi none n).2.2=1:=by
 refine ⟨?_, ?_,rfl⟩
 ·cases lo with
  | none=>simp [sliceBounds,HT.iK]
  | some i=>
    simp only [sliceBounds,HT.iK,Option.getD_none,show (1:Int)>0 by decide,if_true]
    by_cases h:i<0
    ·simp only [h,if_true]<;>omega
    ·simp only [h,if_false]<;>omega
 ·cases hi with
  | none=>simp [sliceBounds,HT.iK]
  | some i=>
    simp only [sliceBounds,HT.iK,Option.getD_none,show (1:Int)>0 by decide,if_true]
    by_cases h:i<0
    ·simp only [h,if_true]<;>omega
    ·simp only [h,if_false]<;>omega
theorem yI (its:List Value) (lo hi:Option Int):slicePick its.toArray lo hi none=((its.drop (HT.iK its.length 0 lo)).take (HT.iK its.length its.length hi - HT.iK its.length 0 lo)).toArray:=by
 obtain ⟨h1,h2,h3⟩:=z6 lo hi its.toArray.size;unfold slicePick;rw [h1,h2,h3];simp only [sliceRange_one,pick_run,List.size_toArray]<;>rfl
def XD (K:PySem.W.Frag):V->Option Int->Option Int->Hp->VK->Prop:=fun x lo hi H Q=>∃a xs,x = .ref a/\bA K H a xs /\ ∀p,H p=none->Q (.ref p) (upd H p (.lst (j4 xs lo hi)))
theorem QM:ZV X (XD X.K):=by
 intro pins s σ H x v vl vu lo hi sl Q I rx hs pl pu h;obtain ⟨a,xs,rfl,hx,q⟩:=h;cases rx;obtain ⟨its,r,ht,hz⟩:=I.list hx;have hlen:=r.length;refine ⟨"list",_,slot_list_getitem.lookup,ht.isList.typeIs, ?_⟩;refine wpAny_getItem_list_slice ht.isList hs pl pu .none (by simp) ?_ (by rw [List.size_toArray]<;>omega);rw [yI,←hlen];refine ⟨.ref s.heap.objs.size,_,I.laid (t':=s.toks) (o:= .lst (j4 xs lo hi)) (fun b ob q=>Heap.get?_push_of_some _ q) (Nat.le_refl _) ?_,rfl,q _ (I.hok.fresh (Nat.le_refl _))⟩;exact ⟨Nat.le_trans (uV xs lo hi) hz,_,0,(r.drop (HT.iK xs.length 0 lo)).take (HT.iK xs.length xs.length hi - HT.iK xs.length 0 lo),Heap.get?_push_size _ rfl⟩
def uU:V->Bool
 | .non=>true
 | .bl _=>true
 | .int _=>true
 | .str _=>true
 | _=>false
def Ur:V->V->Bool
 | .non,.non=>true
 | .bl a,.bl b=>a==b
 | .bl a,.int b=>(if a then 1 else 0)==b
 | .int a,.bl b=>a==(if b then 1 else 0)
 | .int a,.int b=>a==b
 | .str a,.str b=>a==b
 | _,_=>false
theorem Wf {A:Around} {s:Shared} {y x:V} {u v:Value} (ry:RelV y u) (rx:RelV x v) (fy:uU y=true) (fx:uU x=true):SeqAt.EqAt A s u v (Ur y x):=by
 cases y with
 | non=>
   cases ry;cases x with
   | non=>cases rx;exact SeqAt.EqAt.same _
   | bl b=>cases rx;exact SeqAt.EqAt.none_bool b
   | int b=>obtain ⟨t,rfl⟩:=rx;exact SeqAt.EqAt.none_int b t
   | str b=>obtain ⟨t,rfl⟩:=rx;exact SeqAt.EqAt.none_str b t
   | _=>exact absurd (show false=true from fx) Bool.false_ne_true
 | bl a=>
   cases ry;cases x with
   | non=>cases rx;exact SeqAt.EqAt.bool_none a
   | bl b=>cases rx;exact SeqAt.EqAt.bool_bool a b
   | int b=>obtain ⟨t,rfl⟩:=rx;exact SeqAt.EqAt.bool_int a b t
   | str b=>obtain ⟨t,rfl⟩:=rx;exact SeqAt.EqAt.bool_str a b t
   | _=>exact absurd (show false=true from fx) Bool.false_ne_true
 | int a=>
   obtain ⟨t',rfl⟩:=ry;cases x with
   | non=>cases rx;exact SeqAt.EqAt.int_none a t'
   | bl b=>cases rx;exact SeqAt.EqAt.int_bool a t' b
   | int b=>obtain ⟨t,rfl⟩:=rx;exact SeqAt.EqAt.int_int a t' b t
   | str b=>obtain ⟨t,rfl⟩:=rx;exact SeqAt.EqAt.int_str a t' b t
   | _=>exact absurd (show false=true from fx) Bool.false_ne_true
 | str a=>
   obtain ⟨t',rfl⟩:=ry;cases x with
   | non=>cases rx;exact SeqAt.EqAt.str_none a t'
   | bl b=>cases rx;exact SeqAt.EqAt.str_bool a t' b
   | int b=>obtain ⟨t,rfl⟩:=rx;exact SeqAt.EqAt.str_int a t' b t
   | str b=>obtain ⟨t,rfl⟩:=rx;exact SeqAt.EqAt.str_str a t' b t
   | _=>exact absurd (show false=true from fx) Bool.false_ne_true
 | _=>exact absurd (show false=true from fy) Bool.false_ne_true
def Sx (x:V) (u:Value):Bool:=match u with
 | .none=>Ur .non x
 | .bool b=>Ur (.bl b) x
 | .int i _=>Ur (.int i) x
 | .str z _=>Ur (.str z) x
 | _=>false
theorem Pa {x y:V} {u:Value} (r:RelV y u) (f:uU y=true):Sx x u=Ur y x:=by
 cases y with
 | non=>cases r;rfl
 | bl b=>cases r;rfl
 | int i=>obtain ⟨t,rfl⟩:=r;rfl
 | str z=>obtain ⟨t,rfl⟩:=r;rfl
 | _=>exact absurd (show false=true from f) Bool.false_ne_true
theorem Bd {x:V}:∀{xs:List V} {us:List Value},Vals xs us->xs.all uU=true->us.any (Sx x)=xs.any fun y=>Ur y x
 | _,_,.nil,_=>rfl
 | y::xs,u::us,.cons r t,f=>by
   rw [List.all_cons,Bool.and_eq_true] at f;rw [List.any_cons,List.any_cons,Pa r f.1,Bd t f.2]
theorem wV {A:Around} {s:Shared} {x:V} {v:Value} (rx:RelV x v) (fx:uU x=true):∀{xs:List V} {us:List Value},Vals xs us->xs.all uU=true -> ∀u∈us,SeqAt.EqAt A s u v (Sx x u)
 | _,_,.nil,_=>fun u hu=>by cases hu
 | y::xs,u::us,.cons r t,f=>fun u' hu=>by
   rw [List.all_cons,Bool.and_eq_true] at f;rcases List.mem_cons.mp hu with rfl|hu
   ·rw [Pa r f.1];exact Wf r rx f.1 fx
   ·exact wV rx fx t f.2 u' hu
def inV (x:V) (xs:List V):Bool:=xs.any fun y=>Ur y x
def rIn (K:PySem.W.Frag) (neg:Bool):R2:=fun x y H Q=>∃p xs,y = .ref p/\(bA K H p xs\/gC K H p xs)/\uU x=true/\xs.all uU=true/\Q (.bl (if neg then !inV x xs else inV x xs)) H
theorem JW:pX X (compareOp .In) (rIn X.K false):=by
 intro pins s σ H x y v u Q I rx ry h;obtain ⟨p,xs,rfl,hq,fx,fs,q⟩:=h;cases ry;rcases hq with hq|hq
 ·obtain ⟨its,r,pl,hz⟩:=I.list hq
  refine SeqAt.in_listAt (Sx x) pl.isList (fun w hw=>wV rx fx r fs w (by simpa using hw)) ⟨.bl _,H,I,rfl, ?_⟩;rw [show its.toArray.any (Sx x)=its.any (Sx x) by simp,Bd r fs];exact q
 ·obtain ⟨its,r,pl,hz⟩:=I.tuple hq
  refine SeqAt.in_tupleAt (Sx x) pl (fun w hw=>wV rx fx r fs w (by simpa using hw)) ⟨.bl _,H,I,rfl, ?_⟩;rw [show its.toArray.any (Sx x)=its.any (Sx x) by simp,Bd r fs];exact q
theorem Ay:iJ X (.builtin "len") (fun xs H Q=>∃p ys,xs=[.ref p]/\(bA X.K H p ys\/gC X.K H p ys)/\Q (.int ys.length) H):=by
 intro pins s σ H xs us Q I r h;obtain ⟨p,ys,rfl,hq,q⟩:=h;obtain ⟨u,rfl,rx⟩:=vals1 r;cases rx;have hn:=ug;rcases hq with hq|hq
 ·obtain ⟨its,r',pl,hz⟩:=I.list hq
  have hlen:=r'.length;exact Calls.call_len_list pl.isList (by simp only [List.size_toArray]<;>omega) ⟨.int ys.length,H,I.tok _,⟨s.toks+1,by rw [List.size_toArray,hlen]⟩,q⟩
 ·obtain ⟨its,r',pl,hz⟩:=I.tuple hq
  have hlen:=r'.length;exact len_tuple pl (by simp only [List.size_toArray]<;>omega) ⟨.int ys.length,H,I.tok _,⟨s.toks+1,by rw [List.size_toArray,hlen]⟩,q⟩
theorem Ax:iJ X (.type "list") (fun xs H Q=>∃p ys,xs=[.ref p]/\(bA X.K H p ys\/gC X.K H p ys) /\ ∀l,H l=none->Q (.ref l) (upd H l (.lst ys))):=by
 intro pins s σ H xs us Q I r h;obtain ⟨p,ys,rfl,hq,q⟩:=h;obtain ⟨u,rfl,rx⟩:=vals1 r;cases rx
 have fin:∀(its:List Value),Vals ys its->ys.length<=sizeLine -> ∀(h':Heap) (c':Nat),(∀b o',s.heap.get? b=some o'->h'.get? b=some o') ->
  h'.get? s.heap.objs.size=some {cls:= .type "list",dict:=none,data:= .seq its.toArray c',slots:= #[]}->EP X pins σ Q (.ref s.heap.objs.size) {s with heap:=h'}:=fun its r' hz h' c' kp e=>
  ⟨.ref s.heap.objs.size,_,I.laid (t':=s.toks) kp (Nat.le_refl _) (show cM X.prog X.w _ h' _ (.lst ys) from ⟨hz,its,c',r',e⟩),rfl,q _ (I.hok.fresh (Nat.le_refl _))⟩
 rcases hq with hq|hq
 ·obtain ⟨its,r',pl,hz⟩:=I.list hq
  have hlen:=r'.length;obtain ⟨o,ho,hc,n,hd⟩:=pl.isList;exact call_list_seq p (.inl rfl) ho hc hd (fun h' c' kp e=>fin its r' hz h' c' kp e) (by simp only [List.size_toArray]<;>omega)
 ·obtain ⟨its,r',pl,hz⟩:=I.tuple hq
  have hlen:=r'.length;obtain ⟨o,ho,hc,n,hd⟩:=pl;exact call_list_seq p (.inr rfl) ho hc hd (fun h' c' kp e=>fin its r' hz h' c' kp e) (by simp only [List.size_toArray]<;>omega)
def tyV (K:PySem.W.Frag) (T:String) (x:V) (H:Hp):Prop:=match x with
 | .str _=>T = "str"
 | .int _=>T = "int"
 | .ref p=>(T = "list" /\ ∃xs,bA K H p xs)\/(T = "tuple" /\ ∃o,K.lookup p=some o/\o.cls = .type "tuple" /\ o.dict=none) \/
    (T = "dict" /\ ((∃kvs,H p=some (.dK kvs)) \/ ∃kvs,H p=some (.dT kvs)))\/(T = "set" /\ ∃S n,H p=some (.set S n))
 | _=>False
theorem UG {pins:List (Addr×Obj)} {σ:St} {H:Hp} {s:Shared} {T:String} {x:V} {v:Value} (I:Inv X pins σ H s) (r:RelV x v) (ty:tyV X.K T x H):
 s.TypeIs v T /\ ∀a,v = .ref a -> ∃ob,s.heap.get? a=some ob/\ob.dict=none:=by
 cases x with
 | str z=>
   obtain ⟨t,rfl⟩:=r;cases (show T = "str" from ty);exact ⟨typeIs_str s z t,fun _ e=>nomatch e⟩
 | int i=>
   obtain ⟨t,rfl⟩:=r;cases (show T = "int" from ty);exact ⟨typeIs_int s i t,fun _ e=>nomatch e⟩
 | ref p=>
   cases r;rcases ty with ⟨rfl,xs,hq⟩|⟨rfl,o,hk,hc,hd⟩|⟨rfl,hk⟩|⟨rfl,S,n,hk⟩
   ·obtain ⟨its,_,pl,_⟩:=I.list hq
    refine ⟨pl.isList.typeIs,fun a e=> ?_⟩;cases e;obtain ⟨o,n,e,c,hd,_⟩:=pl;exact ⟨o,e,hd⟩
   ·refine ⟨⟨o,I.lF p o hk,hc⟩,fun a e=> ?_⟩
    cases e;exact ⟨o,I.lF _ o hk,hd⟩
   ·have z:∃o,s.heap.get? p=some o/\o.ExactDict:=by
     rcases hk with ⟨kvs,hk⟩|⟨kvs,hk⟩
     ·obtain ⟨_,_,_,_,o,_,_,e,ex,_⟩:=I.hok p _ hk
      exact ⟨o,e,ex⟩
     ·obtain ⟨_,_,_,_,o,_,_,e,ex,_⟩:=I.hok p _ hk
      exact ⟨o,e,ex⟩
    obtain ⟨o,e,ex⟩:=z;refine ⟨⟨o,e,ex.1⟩,fun a e2=> ?_⟩;cases e2;exact ⟨o,e,ex.2.1⟩
   ·obtain ⟨o,_,_,_,e,ex,_⟩:=I.hok p _ hk
    refine ⟨⟨o,e,ex.1⟩,fun a e2=> ?_⟩;cases e2;exact ⟨o,e,ex.2.1⟩
 | _=>exact False.elim ty
def tBM (K:PySem.W.Frag) (T:String) (r:V->List V->Hp->VK->Prop) (to:TE) (t:TA):TE:=fun σ H Q=>to σ H fun x H1=>tyV K T x H1/\t σ H1 fun xs H2=>r x xs H2 Q
variable {o e:Expr} {es:List Expr} {to:TE} {t:TA} {name:Str} {apos cpos:Pos} {T id:String} {r:V->List V->Hp->VK->Prop}
theorem T8 (pa:PlainAttrs T) (slot:Slot T name id) (hty:typeOf (.builtin id)=pure (.type "method_descriptor")) (hm:MtR X id r) (ho:PE X o to) (ha:PA X (e::es) t)
 (hbase:attributeBase o name X.env (eval o X.env)=eval o X.env:=by rfl)
 (hfew:((backTo cpos (starEach (e::es) X.env)).all (fun x=> !x.1)&&(backToKw cpos (keywordEach [] X.env)).all (fun x=>x.1.isSome)
   && decide ((e::es).length+([]:List Keyword).length+(if ([]:List Keyword).isEmpty then 0 else 1)<30))=true:=by rfl)
 (hline:(apos.endLine==cpos.line)=true:=by rfl) (hs:starEach (e::es) X.env=(false,eval e X.env)::starEach es X.env:=by rfl) (hplain:(backTo cpos (starEach es X.env)).any (·.1)=false:=by rfl):
 PE X (.Call (.Attribute o name apos) (e::es) [] cpos) (tBM X.K T r to t):=by
 intro pins s σ H Q I h;refine wpAny_Call_method_late hbase hfew hline rfl (cP (ho pins s σ H _ I h) fun v s1 ⟨x,H1,I1,r1,ty,q1⟩=> ?_);obtain ⟨h1,h2⟩:=UG I1 r1 ty;refine ⟨T,id,pa,slot,hty,h1,h2, ?_⟩;have hA:=ha cpos pins s1 σ H1 _ I1 q1;rw [hs] at hA ⊢;refine Calls.callWith_builtin (by show (false||(backTo cpos (starEach es X.env)).any (·.1))=false;rw [hplain]<;>rfl) (Calls.evalArgs_plain ?_);exact cP hA fun us s2 ⟨vs,H2,I2,r2,q2⟩=>hm pins s2 σ H2 x vs v us Q I2 r1 r2 q2
end
end L2
namespace L2
open PySem PySem.Spec PyProof.Rows
def MtM (X:Cx) (id:String) (r:V->List V->Hp->VK->Prop):Prop:=
 ∀(pins:List (Addr×Obj)) (s:Shared) (σ:St) (H:Hp) (x:V) (xs:List V) (v:Value) (us:List Value) (Q:VK),Inv X pins σ H s->RelV x v->Vals xs us->r x xs H Q ->
  wpAny (model X.prog X.w) X.A (call (.builtin id) (v::us)) (EP X pins σ Q) X.xe s
theorem Vals.one {x:V} {us:List Value} (h:Vals [x] us):∃u,us=[u]/\RelV x u:=by
 cases h with
 | cons r t=>cases t;exact ⟨_,rfl,r⟩
theorem Vals.rep {xs:List V} {us:List Value} (h:Vals xs us):∀k:Nat,Vals (List.replicate k xs).flatten (List.replicate k us).flatten
 | 0=> .nil
 | k+1=>by
   rw [List.replicate_succ,List.replicate_succ,List.flatten_cons,List.flatten_cons];exact Vals.append h (Vals.rep h k)
theorem foldl_rep (its:List Value):∀(k:Nat) (acc:List Value),
 List.foldl (fun x1 x2=>x1++x2) acc.toArray (List.replicate k its.toArray)=(acc++(List.replicate k its).flatten).toArray
 | 0,acc=>by simp
 | k+1,acc=>by
   have e:acc.toArray++its.toArray=(acc++its).toArray:=by simp
   have e2:(acc++its)++(List.replicate k its).flatten=acc++(List.replicate (k+1) its).flatten:=by
    rw [List.replicate_succ,List.flatten_cons,List.append_assoc]
   rw [←e2,←foldl_rep its k (acc++its),←e,List.replicate_succ,List.foldl_cons]
section
variable {X:Cx} {pins:List (Addr×Obj)} {σ:St} {H:Hp} {s:Shared} {l b:Addr} {xs ys zs:List V}
theorem Inv.Yn {its its':List Value} {n:Nat} {f:Array Value->Array Value} {t':Nat} (I:Inv X pins σ H s) (hH:H l=some (.lst xs))
 (e:s.heap.get? l=some {cls:= .type "list",data:= .seq its.toArray n}) (hf:f its.toArray=its'.toArray) (hv:Vals ys its') (hz:ys.length<=sizeLine):
 Inv X pins σ (upd H l (.lst ys)) {s with heap:=s.heap.update l (Obj.mapSeq f),toks:=t'}:=by
 have q:=PySem.IsL.update e f;rw [hf] at q;refine I.write (x:=l) (e:=l) (by rw [hH];exact trivial) (.inl rfl) (fun b' u hb hu=>(Heap.get?_update_other s.heap (Obj.mapSeq f) (Ne.symm hb)).trans hu) ⟨_,q⟩ ?_;exact ⟨hz,its',_,hv,q⟩
theorem Inv.Yo {its:List Value} {t':Nat} (I:Inv X pins σ H s) (hv:Vals ys its) (hz:ys.length<=sizeLine):
 Inv X pins σ (upd H s.heap.objs.size (.lst ys)) {s with heap:=s.heap.push {cls:= .type "list",data:= .seq its.toArray},toks:=t'}:=
 I.laid (fun _ _ q=>Heap.get?_push_of_some _ q) (Nat.le_refl _) ⟨hz,its,0,hv,Heap.get?_push_size _ rfl⟩
theorem Inv.fresh (I:Inv X pins σ H s):H s.heap.objs.size=none:=I.hok.fresh (Nat.le_refl _)
theorem Inv.Kg (I:Inv X pins σ H s) (hH:H l=some (.lst xs)):xs.length<=sizeLine /\ ∃(its:List Value) (n:Nat),Vals xs its/\xs.length=its.length/\s.heap.get? l=some {cls:= .type "list",data:= .seq its.toArray n}:=by
 obtain ⟨z,its,n,r,e⟩:=I.hok l _ hH;exact ⟨z,its,n,r,r.length,e⟩
theorem CK {n:Nat} (h:n<=sizeLine):Builtin.List.listTooLong n=false:=by
 unfold Builtin.List.listTooLong;exact decide_eq_false (by omega)
end
section
variable {X:Cx}
def Il:V->List V->Hp->VK->Prop:=fun x vs H Q=>∃l xs y,x = .ref l/\vs=[y]/\H l=some (.lst xs)/\xs.length<sizeLine/\Q .non (upd H l (.lst (xs++[y])))
theorem ud:MtM X "list.append" Il:=by
 intro pins s σ H x vs v us Q I rx rv h;obtain ⟨l,xs,y,rfl,rfl,hH,hz,q⟩:=h;cases rx;obtain ⟨u,rfl,ru⟩:=rv.one;obtain ⟨z,its,n,r,hl,e⟩:=I.Kg hH;refine call_meets F.slot_list_append ⟨_,e,rfl⟩ F.entry_list_append (F.args_list_append_2 _ _) (PySem.list_append l its.toArray n u (by rw [List.size_toArray];omega)) ⟨e, ?_⟩;refine ⟨.non,_,I.Yn (its':=its++[u]) hH e (by simp) (r.append (.cons ru .nil)) ?_,rfl,q⟩;rw [List.length_append,List.length_singleton];omega
def Q7:V->List V->Hp->VK->Prop:=fun x vs H Q=>∃l b xs zs,x = .ref l/\vs=[.ref b]/\H l=some (.lst xs)/\H b=some (.lst zs)/\xs.length+zs.length<=sizeLine/\Q .non (upd H l (.lst (xs++zs)))
theorem uc:MtM X "list.extend" Q7:=by
 intro pins s σ H x vs v us Q I rx rv h;obtain ⟨l,b,xs,zs,rfl,rfl,hH,hB,hz,q⟩:=h;cases rx;obtain ⟨u,rfl,ru⟩:=rv.one;cases ru;obtain ⟨z,its,n,r,hl,e⟩:=I.Kg hH;obtain ⟨z2,its2,n2,r2,hl2,e2⟩:=I.Kg hB;have hsz:its.toArray.size+its2.toArray.size<=sizeLine:=by rw [List.size_toArray,List.size_toArray];omega
 have Ov:¬(!its.toArray.isEmpty&&Builtin.List.listTooLong (its.toArray.size+its2.toArray.size))=true:=by
  rw [CK hsz,Bool.and_false];exact Bool.false_ne_true
 refine call_meets F.slot_list_extend ⟨_,e,rfl⟩ F.entry_list_extend (F.args_list_extend_2 _ _)
  (AutoSeq1.list_extend_list_list_0 l its.toArray n b its2.toArray n2 Ov (by rw [List.size_toArray];omega) (by omega)) ⟨e,e2, ?_⟩
 refine ⟨.non,_,I.Yn (its':=its++its2) hH e (by simp) (r.append r2) ?_,rfl,q⟩;rw [List.length_append];omega
def acj:R2:=fun x y H Q=>∃l b xs zs,x = .ref l/\y = .ref b/\H l=some (.lst xs)/\H b=some (.lst zs)/\xs.length+zs.length<=sizeLine /\ ∀p,H p=none->Q (.ref p) (upd H p (.lst (xs++zs)))
theorem Gi:pX X (binaryOp .Add) acj:=by
 intro pins s σ H x y v u Q I rx ry h;obtain ⟨l,b,xs,zs,rfl,rfl,hH,hB,hz,q⟩:=h;cases rx;cases ry;obtain ⟨z,its,n,r,hl,e⟩:=I.Kg hH;obtain ⟨z2,its2,n2,r2,hl2,e2⟩:=I.Kg hB;refine PySem.P.add_list e e2 ?_ (by rw [List.size_toArray,List.size_toArray];omega);have ea:its.toArray++its2.toArray=(its++its2).toArray:=by simp
 rw [ea];exact ⟨.ref _,_,I.Yo (t':=s.toks) (r.append r2) (by rw [List.length_append];omega),rfl,q _ I.fresh⟩
def acg:R2:=fun x y H Q=>∃l k xs,x = .ref l/\y = .int k/\H l=some (.lst xs) /\ -(2 ^ 63)<=k/\k<2 ^ 63/\xs.length*k.toNat<=sizeLine /\
 ∀p,H p=none->Q (.ref p) (upd H p (.lst (List.replicate k.toNat xs).flatten))
theorem len_rep {α:Type} (xs:List α) (k:Nat):(List.replicate k xs).flatten.length=k*xs.length:=by
 induction k with
 | zero=>simp
 | succ k ih=>rw [List.replicate_succ,List.flatten_cons,List.length_append,ih,Nat.succ_mul,Nat.add_comm]
theorem Gf:pX X (binaryOp .Mult) acg:=by
 intro pins s σ H x y v u Q I rx ry h;obtain ⟨l,k,xs,rfl,rfl,hH,h1,h2,hz,q⟩:=h;cases rx;obtain ⟨t,rfl⟩:=ry;obtain ⟨z,its,n,r,hl,e⟩:=I.Kg hH;have hlen:its.toArray.size*k.toNat<=sizeLine:=by rw [List.size_toArray,←hl];exact hz
 have hcap:¬its.toArray.size*k.toNat>(2 ^ 63 - 1) / 8:=by
  have:(sizeLine:Nat)<=(2 ^ 63 - 1) / 8:=by decide
  omega
 have hfit:¬(!Builtin.List.listFitsIndex k)=true:=by
  rw [fitsIndex_both h1 h2];exact Bool.false_ne_true
 have Ov:¬Builtin.List.listTooLong (its.toArray.size*k.toNat)=true:=by
  rw [CK hlen];exact Bool.false_ne_true
 have hnew:List.foldl (fun x1 x2=>x1++x2) #[] (List.replicate (if its.toArray.isEmpty=true then 0 else k.toNat) its.toArray)=(List.replicate k.toNat its).flatten.toArray:=by
  have f0:∀m:Nat,List.foldl (fun x1 x2=>x1++x2) #[] (List.replicate m its.toArray)=(List.replicate m its).flatten.toArray:=fun m=>by
   have:=foldl_rep its m [];rw [List.nil_append] at this;exact this
  rw [f0];cases its with
  | nil=>simp
  | cons a r'=>rw [if_neg (by simp)]
 refine wpAny_binaryOp_repeat_ref (T:= "list") (U:= "int") (by decide) ⟨_,e,rfl⟩ (fun s'=>typeIs_int s' k t) noFill_list_mul F.fills_int_mul F.slot_int_rmul repeat_list F.slot_int_index.lookup
  (call_meets F.slot_int_rmul (typeIs_int s k t) F.entry_int_rmul (F.args_int_rmul_2 _ _) (int___rmul___int_list k t l its.toArray n)
    ⟨e,rfl,⟨_,e,rfl⟩,call_meets F.slot_list_mul ⟨_,e,rfl⟩ F.entry_list_mul (F.args_list_mul_2 _ _) (AutoListH.list___mul___list_int_3 l its.toArray n k t hfit hcap Ov) ⟨e, ?_⟩⟩)
 rw [hnew];exact ⟨.ref _,_,I.Yo (t':=s.toks) (r.rep k.toNat) (by rw [len_rep,Nat.mul_comm];exact hz),rfl,q _ I.fresh⟩
end
section
variable {prog:Program} {w:World} {A:Around} {E:Value->Shared->Prop} {s:Shared}
end
section
variable {X:Cx}
end
end L2
namespace L2
open PySem PySem.Spec PyProof.Rows
section
variable {κ:Type} [DecidableEq κ]
def rA (kvs:List (κ×V)) (k:κ):Option V:=(kvs.find? fun kv=>decide (kv.1=k)).map (·.2)
def putK (kvs:List (κ×V)) (k:κ) (v:V):List (κ×V):=
 if (kvs.any fun kv=>decide (kv.1=k))=true then kvs.map (fun kv=>if kv.1=k then (kv.1,v) else kv) else kvs++[(k,v)]
theorem q_ {p:κ×V} {r:List (κ×V)} {k:κ} (e:p.1=k):rA (p::r) k=some p.2:=by simp [rA,List.find?_cons,e]
theorem rm {p:κ×V} {r:List (κ×V)} {k:κ} (e:¬p.1=k):rA (p::r) k=rA r k:=by simp [rA,List.find?_cons,e]
theorem vZ (k:κ):∀kvs:List (κ×V),(kvs.any fun kv=>decide (kv.1=k))=(rA kvs k).isSome
 | []=>rfl
 | p::r=>by
   rw [List.any_cons]
   by_cases e:p.1=k
   ·simp only [q_ e,decide_eq_true e,Bool.true_or,Option.isSome_some]
   ·rw [rm e,decide_eq_false e,Bool.false_or];exact vZ k r
theorem nY (kvs:List (κ×V)) (k:κ) (v:V):(putK kvs k v).length<=kvs.length+1:=by
 unfold putK;split
 ·rw [List.length_map];omega
 ·rw [List.length_append,List.length_cons,List.length_nil];omega
theorem m8.Kq {o:Option V} {u:Option Value} (r:m8 o u):o.isSome=u.isSome:=by
 cases o with
 | none=>cases u with
   | none=>rfl
   | some _=>exact (show False from r).elim
 | some _=>cases u with
   | none=>exact (show False from r).elim
   | some _=>rfl
theorem m8.getD {o:Option V} {u:Option Value} {d:V} {d':Value} (r:m8 o u) (rd:RelV d d'):RelV (o.getD d) (u.getD d'):=by
 cases o with
 | none=>cases u with
   | none=>exact rd
   | some _=>exact (show False from r).elim
 | some _=>cases u with
   | none=>exact (show False from r).elim
   | some _=>exact r
theorem KV.val {kvs:List (κ×V)} {vs:List (κ×Value)} (r:KV kvs vs) (k:κ):m8 (rA kvs k) (valueAt vs k):=by
 unfold KV at r
 induction r with
 | nil=>exact True.intro
 | @cons p q ps qs h t ih=>
   obtain ⟨h1,h2⟩:=h
   by_cases e:p.1=k
   ·have e':q.1=k:=h1.symm.trans e
    have b:valueAt (q::qs) k=some q.2:=by simp [valueAt,List.find?_cons,e']
    rw [q_ e,b];exact h2
   ·have e':¬q.1=k:=fun z=>e (h1.trans z)
    have b:valueAt (q::qs) k=valueAt qs k:=by simp [valueAt,List.find?_cons,e']
    rw [rm e,b];exact ih
theorem KV.any {kvs:List (κ×V)} {vs:List (κ×Value)} (r:KV kvs vs) (k:κ):(kvs.any fun kv=>decide (kv.1=k))=vs.any fun kv=>decide (kv.1=k):=by
 unfold KV at r
 induction r with
 | nil=>rfl
 | cons h t ih=>rw [List.any_cons,List.any_cons,ih,h.1]
theorem KV.repl {kvs:List (κ×V)} {vs:List (κ×Value)} (r:KV kvs vs) (k:κ) {y:V} {u:Value} (ry:RelV y u):
 KV (kvs.map fun kv=>if kv.1=k then (kv.1,y) else kv) (vs.map fun kv=>if kv.1=k then (kv.1,u) else kv):=by
 unfold KV at r ⊢
 induction r with
 | nil=>exact .nil
 | @cons p q ps qs h t ih=>
   rw [List.map_cons,List.map_cons];refine .cons ?_ ih;obtain ⟨h1,h2⟩:=h
   by_cases e:p.1=k
   ·rw [if_pos e,if_pos (h1.symm.trans e)];exact ⟨h1,ry⟩
   ·rw [if_neg e,if_neg (fun z=>e (h1.trans z))];exact ⟨h1,h2⟩
theorem KV.put {kvs:List (κ×V)} {vs:List (κ×Value)} (r:KV kvs vs) (k:κ) {y:V} {u:Value} (ry:RelV y u):KV (putK kvs k y) (stored vs k u):=by
 unfold putK stored;rw [r.any k]
 by_cases e:(vs.any fun kv=>decide (kv.1=k))=true
 ·rw [if_pos e,if_pos e];exact r.repl k ry
 ·rw [if_neg e,if_neg e];exact Paired.snoc r ⟨rfl,ry⟩
theorem KV.length {kvs:List (κ×V)} {vs:List (κ×Value)} (r:KV kvs vs):kvs.length=vs.length:=Paired.length r
end
theorem Dm {P:Program} {w:World} {k:Key} {u:Value} (r:RelV (kV k) u):(cJ P w).is k u=true:=by
 cases k with
 | inl i=>obtain ⟨t,e⟩:=(show ∃t,u=Value.int i t from r);subst e;exact CW P w i t
 | inr x=>obtain ⟨t,e⟩:=(show ∃t,u=Value.str x t from r);subst e;exact CV P w x t
theorem zA {P:Program} {w:World}:∀{ks:List Key} {us:List Value},Vals (ks.map kV) us->ItemsAre (cJ P w) ks us
 | [],_,r=>by rw [List.map_nil] at r;cases r;exact .nil
 | k::ks,_,r=>by
   rw [List.map_cons] at r;cases r with
   | cons h t=>exact .cons (Dm h) (zA t)
abbrev KT (H:Hp):List (List Key×V)->List (List Key×Addr×Value)->Prop:=Paired fun p q=>p.1=q.1/\H q.2.1=some (.tup (p.1.map kV))/\RelV p.2 q.2.2
theorem KT.val {H:Hp} {kvs:List (List Key×V)} {xs:List (List Key×Addr×Value)} (r:KT H kvs xs) (k:List Key):m8 (rA kvs k) ((atKey xs k).map (·.2)):=by
 induction r with
 | nil=>exact True.intro
 | @cons p q ps qs h t ih=>
   obtain ⟨h1,_,h2⟩:=h
   by_cases e:p.1=k
   ·have e':q.1=k:=h1.symm.trans e
    have b:atKey (q::qs) k=some q.2:=by simp [atKey,List.find?_cons,e']
    rw [q_ e,b];exact h2
   ·have e':¬q.1=k:=fun z=>e (h1.trans z)
    have b:atKey (q::qs) k=atKey qs k:=by simp [atKey,List.find?_cons,e']
    rw [rm e,b];exact ih
theorem KT.repl {H:Hp} {kvs:List (List Key×V)} {xs:List (List Key×Addr×Value)} (r:KT H kvs xs) (k:List Key) {y:V} {u:Value} (ry:RelV y u):
 KT H (kvs.map fun kv=>if kv.1=k then (kv.1,y) else kv) (xs.map (putAt k u)):=by
 induction r with
 | nil=>exact .nil
 | @cons p q ps qs h t ih=>
   rw [List.map_cons,List.map_cons];refine .cons ?_ ih;obtain ⟨h1,h2,h3⟩:=h;unfold putAt
   by_cases e:p.1=k
   ·rw [if_pos e,if_pos (h1.symm.trans e)];exact ⟨h1,h2,ry⟩
   ·rw [if_neg e,if_neg (fun z=>e (h1.trans z))];exact ⟨h1,h2,h3⟩
theorem KT.put {H:Hp} {kvs:List (List Key×V)} {xs:List (List Key×Addr×Value)} (r:KT H kvs xs) (k:List Key) {b:Addr} {y:V} {u:Value} (hb:H b=some (.tup (k.map kV))) (ry:RelV y u):
 KT H (putK kvs k y) (storedH xs k b u):=by
 have e:(kvs.any fun kv=>decide (kv.1=k))=(atKey xs k).isSome:=by
  rw [vZ,(r.val k).Kq,Option.isSome_map]
 unfold putK storedH;rw [e]
 by_cases q:(atKey xs k).isSome=true
 ·rw [if_pos q,if_pos q];exact r.repl k ry
 ·rw [if_neg q,if_neg q];exact Paired.snoc r ⟨rfl,hb,ry⟩
theorem KT.keeps {H H':Hp} {kvs:List (List Key×V)} {xs:List (List Key×Addr×Value)} (r:KT H kvs xs) (ht:∀b ys,H b=some (.tup ys)->H' b=some (.tup ys)):KT H' kvs xs:=
 Paired.Ym r fun _ _ z=>⟨z.1,ht _ _ z.2.1,z.2.2⟩
section
variable {P:Program} {w:World} {H:Hp} {h:Heap} {a:Addr}
theorem TX {u:HO} (ok:qU P w H h) (e:Rd H a u):cM P w H h a u:=e.ok ok
theorem DN {kvs:List (Key×V)} (ok:qU P w H h) (e:Rd H a (.dK kvs)):kvs.length<=sizeLine/\(a==sysModules)=false /\ ∃vs,KV kvs vs/\h.DictOf (cJ P w) a vs:=
 show cM P w H h a (.dK kvs) from TX ok e
theorem Pb {kvs:List (Key×V)} (ok:qU P w H h) (e:H a=some (.dK kvs)):kvs.length<=sizeLine/\(a==sysModules)=false /\ ∃vs,KV kvs vs/\h.DictOf (cJ P w) a vs:=DN ok (.inl e)
theorem Aj {ks:List Key} (ok:qU P w H h) (e:H a=some (.tup (ks.map kV))):(tupleKind (cJ P w)).is h ks a:=by
 obtain ⟨_,its,r,o,h1,h2,n,h3⟩:=(show cM P w H h a (.tup (ks.map kV)) from ok a _ e);exact ⟨o,its.toArray,n,h1,h2,h3,by simpa using zA r⟩
theorem DK {kvs:List (List Key×V)} (ok:qU P w H h) (e:Rd H a (.dT kvs)):kvs.length<=sizeLine/\(a==sysModules)=false /\
 ∃xs,KT H kvs xs/\h.DictOfH (tupleKind (cJ P w)) a xs:=by
 obtain ⟨z,y,xs,r,o,es,ep,h1,h2,h3,h4,h5⟩:=(show cM P w H h a (.dT kvs) from TX ok e);refine ⟨z,y,xs,r,o,es,ep,h1,h2,h3,h4,fun x hx=> ?_,h5⟩
 have all:∀{l:List (List Key×V)} {m:List (List Key×Addr×Value)},KT H l m -> ∀x∈m,(tupleKind (cJ P w)).is h x.1 x.2.1:=by
  intro l m q
  induction q with
  | nil=>intro x hx;exact nomatch hx
  | @cons p q ps qs hq t ih=>
    intro x hx;rcases List.mem_cons.mp hx with e|hx
    ·subst e
     exact Aj ok (by rw [←hq.1];exact hq.2.1)
    ·exact ih x hx
 exact all r x hx
theorem Y8 {kvs:List (List Key×V)} (ok:qU P w H h) (e:H a=some (.dT kvs)):kvs.length<=sizeLine/\(a==sysModules)=false /\
 ∃xs,KT H kvs xs/\h.DictOfH (tupleKind (cJ P w)) a xs:=DK ok (.inl e)
end
def yC (H:Hp) (a:Addr) (y:V) (r:Option V):Prop:=
 (∃kvs k,Rd H a (.dK kvs)/\y=kV k/\r=rA kvs k) \/ ∃kvs k b,Rd H a (.dT kvs)/\y = .ref b/\H b=some (.tup (k.map kV))/\r=rA kvs k
def Qk (H:Hp) (a:Addr) (y v:V) (H':Hp):Prop:=
 (∃kvs k,H a=some (.dK kvs)/\y=kV k/\kvs.length<sizeLine/\H'=upd H a (.dK (putK kvs k v))) \/
 ∃kvs k b,H a=some (.dT kvs)/\y = .ref b/\H b=some (.tup (k.map kV))/\kvs.length<sizeLine/\H'=upd H a (.dT (putK kvs k v))
theorem yC.k {H:Hp} {a:Addr} {kvs:List (Key×V)} {k:Key} (e:H a=some (.dK kvs)):yC H a (kV k) (rA kvs k):= .inl ⟨kvs,k,.inl e,rfl,rfl⟩
theorem Qk.k {H:Hp} {a:Addr} {kvs:List (Key×V)} {k:Key} {v:V} (e:H a=some (.dK kvs)) (hl:kvs.length<sizeLine):Qk H a (kV k) v (upd H a (.dK (putK kvs k v))):= .inl ⟨kvs,k,e,rfl,hl,rfl⟩
section
variable {X:Cx} {pins:List (Addr×Obj)} {σ:St} {H:Hp} {s:Shared} {a:Addr} {y v:V} {u r:Value} {o:Option V} {A:Around} {E:Value->Shared->Prop}
theorem Inv.big (I:Inv X pins σ H s):sysModules<s.heap.objs.size:=by
 have h:mainGlobals<s.heap.objs.size:=(I.mod.glob.keeps I.bk).lt;exact Nat.lt_trans (by decide) h
theorem KQ {Q:Value->Shared->Prop} (hu:A.units+1<cLine) (I:Inv X pins σ H s) (g:yC H a y (some v)) (ry:RelV y u) (h:∀w' s',Inv X pins σ H s'->RelV v w'->Q w' s'):
 wpAny (model X.prog X.w) A (getItem (.ref a) u) Q E s:=by
 rcases g with ⟨kvs,k,e,ey,l⟩|⟨kvs,k,b,e,ey,eb,l⟩
 ·subst ey
  obtain ⟨z,hd,vs,rel,dd⟩:=DN I.hok e;obtain ⟨w',hw,rw'⟩:=m8.some_of (v:=v) (o:=valueAt vs k) (by rw [l];exact rel.val k);exact wpAny_getItem_of (Dm ry) dd.mapOf hw (h w' _ (I.tok _) rw')
 ·subst ey
  cases (show u=Value.ref b from ry);obtain ⟨z,hd,xs,rel,dd⟩:=DK I.hok e;obtain ⟨w',hw,rw'⟩:=m8.some_of (v:=v) (o:=(atKey xs k).map (·.2)) (by rw [l];exact rel.val k);obtain ⟨p,hp,hp2⟩:=Option.map_eq_some_iff.mp hw;refine wpAny_getItem_heap (tupleKind_room_in1 hu) (Aj I.hok eb) dd hp ?_;rw [hp2];exact h w' _ (I.tok _) rw'
theorem Av {h':Heap} {t':Nat} {ob:HO} (I:Inv X pins σ H s) (mu:Z7 (H a)) (hs:Heap.SameBut a s.heap h') (he:∃q,h'.get? a=some q) (new:cM X.prog X.w (upd H a ob) h' a ob):
 Inv X pins σ (upd H a ob) {s with heap:=h',toks:=t'}:=
 I.write (x:=a) (e:=a) mu (.inl rfl) (fun b q hb z=>(hs.2 b hb).trans z) he new
theorem Pg {P:Program} {w:World} {H':Hp} {h':Heap} {kvs:List (Key×V)} {vs:List (Key×Value)} (z:kvs.length<=sizeLine) (hd:(a==sysModules)=false) (rel:KV kvs vs) (dd:h'.DictOf (cJ P w) a vs):
 cM P w H' h' a (.dK kvs):=⟨z,hd,vs,rel,dd⟩
theorem KN {H':Hp} {Q:Unit->Shared->Prop} (hu:A.units+1<cLine) (I:Inv X pins σ H s) (g:Qk H a y v H') (ry:RelV y u) (rv:RelV v r) (h:∀s',Inv X pins σ H' s'->Q () s'):
 wpAny (model X.prog X.w) A (setItem (.ref a) u r) Q E s:=by
 rcases g with ⟨kvs,k,e,ey,l,eH⟩|⟨kvs,k,b,e,ey,eb,l,eH⟩
 ·subst ey eH
  obtain ⟨z,hd,vs,rel,dd⟩:=Pb I.hok e;have hz:vs.length<=sizeLine:=by rw [←rel.length];exact z
  have hl:(putK kvs k v).length<=sizeLine:=by have:=nY kvs k v;omega
  refine wpAny_setItem_pairs (hsz:=hz) (Dm ry) dd fun h' Wk hs=>h _ ?_;have he:∃q,h'.get? a=some q:=let ⟨q,_,_,hq,_⟩:=Wk;⟨q,hq⟩
  exact Av I (by rw [e];exact True.intro) hs he (Pg hl hd (rel.put k rv) Wk)
 ·subst ey eH
  cases (show u=Value.ref b from ry);obtain ⟨z,hd,xs,rel,dd⟩:=Y8 I.hok e;have hz:xs.length<=sizeLine:=by rw [←Paired.length rel];exact z
  have hl:(putK kvs k v).length<=sizeLine:=by have:=nY kvs k v;omega
  refine wpAny_setItem_heap (hsz:=hz) (tupleKind_room_in1 hu) (Aj I.hok eb) dd fun h' Wk hs=>h _ ?_;obtain ⟨q,es,ep,hq,h2,h3,h4,_,h5⟩:=Wk;refine Av I (by rw [e];exact True.intro) hs ⟨q,hq⟩ ⟨hl,hd,_,(rel.put k eb rv).keeps fun c ys ec=> ?_,q,es,ep,hq,h2,h3,h4,h5⟩;rw [aN (uO ec e (fun z=>nomatch z))];exact ec
end
section
variable {X:Cx} {pins:List (Addr×Obj)} {σ:St} {H:Hp} {s:Shared} {a:Addr} {kvs:List (Key×V)} {k:Key} {u:Value} {A:Around} {E:Value->Shared->Prop}
end
def Z6 (i:Expr):Prop:=∀ov iv,subscripted i false ov iv=operate [ov,iv] (getItem ov iv)
theorem QK {prog:Program} {w:World} {A:Around} {E:Value->Shared->Prop} {s:Shared} {env:Env} {value slice:Expr} {pos:Pos} {T id:String} {Q:Value->Shared->Prop}
 (hl:typeLookup (.type T) "__getitem__" = pure (some (.builtin id))) (hs:Z6 slice)
 (h:wpAny (model prog w) A (eval value env) (fun o s₁=>wpAny (model prog w) A (eval slice env) (fun i s₂=>s₂.TypeIs o T/\wpAny (model prog w) A (getItem o i) Q E s₂) E s₁) E s):
 wpAny (model prog w) A (eval (.Subscript value slice pos) env) Q E s:=by
 refine Subscript_ (wpAny_mono h (fun o s₁ h₁=>wpAny_mono h₁ (fun i s₂ h₂=> ?_) fun _ _ x=>x) fun _ _ x=>x);obtain ⟨hT,h₂⟩:=h₂;unfold subscriptTail;refine wpAny_bind ?_;rw [getitemInPython_of_ne hT.not_modules];refine wpAny_bind (wpAny_specialOf hT hl ?_)
 have fin:wpAny (model prog w) A (subscripted slice false o i) (fun r s₃=>wpAny (model prog w) A (letTemporaryGo value o r >>= fun _=>pure r) Q E s₃) E s₂:=by
  rw [hs o i];exact wpAny_operating (wpAny_mono h₂ (fun r s₃ h₃=>wpAny_bind (wpAny_letTemporaryGo (wpAny_pure h₃))) fun _ _ x=>x)
 first
  | exact wpAny_pure (wpAny_bind fin)
  | exact wpAny_bind (wpAny_pure (wpAny_bind fin))
  | exact wpAny_bind fin
theorem DQ {X:Cx} {pins:List (Addr×Obj)} {σ:St} {H:Hp} {s:Shared} {a:Addr} {y:V} {o:Option V} (I:Inv X pins σ H s) (g:yC H a y o):s.TypeIs (.ref a) "dict" :=by
 rcases g with ⟨kvs,k,e,_,_⟩|⟨kvs,k,b,e,_,_,_⟩
 ·obtain ⟨_,_,vs,_,dd⟩:=DN I.hok e
  exact dd.typeIs
 ·obtain ⟨_,_,xs,_,dd⟩:=DK I.hok e
  exact dd.typeIs
def Xm (td ty:TE):TE:=fun σ H Q=>td σ H fun x H1=>ty σ H1 fun y H2=>∃a v,x = .ref a/\yC H2 a y (some v)/\Q v H2
def Xv (td ty tv:TE):TS:=fun D σ H=>tv σ H fun v H1=>td σ H1 fun x H2=>ty σ H2 fun y H3=>∃a H4,x = .ref a/\Qk H3 a y v H4/\D.nx σ H4
section
variable {X:Cx} {o i e value:Expr} {pos pos' tpos:Pos} {td ty tv:TE}
theorem Rk (hu:X.A.units+1<cLine) (ho:PE X o td) (hi:PE X i ty) (hs:Z6 i):PE X (.Subscript o i pos) (Xm td ty):=by
 intro pins s σ H Q I h;refine QK PySem.F.slot_dict_getitem.lookup hs (cP (ho pins s σ H _ I h) fun u s1 ⟨x,H1,I1,rx,q1⟩=>cP (hi pins s1 σ H1 _ I1 q1) fun iv s2 ⟨y,H2,I2,ry,a,v,ex,g,q2⟩=> ?_);subst ex;obtain rfl:u=Value.ref a:=rx;exact ⟨DQ I2 g,KQ hu I2 g ry fun w' s3 I3 rw'=>⟨v,H2,I3,rw',q2⟩⟩
theorem Q9 (hu:X.A.units+1<cLine) (ho:PE X o td) (hi:PE X i ty) (hv:PE X value tv) (hs:swapsWith value (some (.Subscript o i pos')) pos.line X.env=pure false):
 PS X (.Assign [.Subscript o i pos'] value pos) (Xv td ty tv):=by
 intro pins s σ H D I h;refine wpAny_Assign_Subscript (cP (hv pins s σ H _ I h) fun r s1 ⟨v,H1,I1,rv,q1⟩=>cP (ho pins s1 σ H1 _ I1 q1) fun u s2 ⟨x,H2,I2,rx,q2⟩=>cP (hi pins s2 σ H2 _ I2 q2) fun iv s3 ⟨y,H3,I3,ry,a,H4,ex,g,q3⟩=> ?_) hs;subst ex;obtain rfl:u=Value.ref a:=rx;exact KN hu I3 g ry rv fun s4 I4=>⟨σ,H4,I4,q3⟩
end
theorem DP {P:Program} {w:World} {H:Hp} (h:Heap) (hb:sysModules<h.objs.size):cM P w H (h.push {cls:= .type "dict",data:= .dict #[]}) h.objs.size (.dK []):=
 ⟨Nat.zero_le _,beq_eq_false_iff_ne.mpr (Ne.symm (Nat.ne_of_lt hb)),[],.nil,Heap.DictOf.new h⟩
def U5:TE:=fun _ H Q=>∀p,H p=none->Q (.ref p) (upd H p (.dK []))
section
variable {X:Cx} {pos:Pos}
theorem wL:PE X (.Dict [] [] pos) U5:=fun pins s σ H Q I h=>
 wpAny_Dict_empty ⟨.ref s.heap.objs.size,_,I.laid (a:=s.heap.objs.size) (o:= .dK []) (t':=s.toks) (fun _ _ q=>Heap.get?_push_of_some _ q) (Nat.le_refl _) (DP s.heap I.big),rfl,h _ (I.hok.fresh (Nat.le_refl _))⟩
end
def Fq:List (TE×TE)->St->Hp->(List (V×V)->Hp->Prop)->Prop
 | [],_,H,Q=>Q [] H
 | (tk,tv)::r,σ,H,Q=>tk σ H fun x H1=>tv σ H1 fun y H2=>Fq r σ H2 fun ps H3=>Q ((x,y)::ps) H3
abbrev VV:List (V×V)->List (Value×Value)->Prop:=Paired fun p q=>RelV p.1 q.1/\RelV p.2 q.2
def PPs (X:Cx) (pos:Pos) (keys:List (Option Expr)) (values:List Expr) (QD:List (TE×TE)):Prop:=
 ∀(pins:List (Addr×Obj)) (s:Shared) (σ:St) (H:Hp) (Q:List (V×V)->Hp->Prop),Inv X pins σ H s->Fq QD σ H Q ->
  wpAny (model X.prog X.w) X.A (evalPairs (pairTrees keys values X.env pos)) (fun vs s'=>∃ps H',Inv X pins σ H' s'/\VV ps vs/\Q ps H') X.xe s
theorem Q_ {X:Cx} {pos:Pos}:PPs X pos [] [] []:=fun pins s σ H Q I h=>pairTrees_nil_walk ⟨[],H,I,.nil,h⟩
theorem Ni {X:Cx} {pos:Pos} {k v:Expr} {ks:List (Option Expr)} {vs:List Expr} {tk tv:TE} {QD:List (TE×TE)} (hk:PE X k tk) (hv:PE X v tv) (hr:PPs X pos ks vs QD):
 PPs X pos (some k::ks) (v::vs) ((tk,tv)::QD):=fun pins s σ H Q I h=>
 pairTrees_cons_walk (cP (hk pins s σ H _ I h) fun u s1 ⟨x,H1,I1,rx,q1⟩=>cP (hv pins s1 σ H1 _ I1 q1) fun w2 s2 ⟨y,H2,I2,ry,q2⟩=>
  cP (hr pins s2 σ H2 _ I2 q2) fun ws s3 ⟨ps,H3,I3,rel,q3⟩=>⟨(x,y)::ps,H3,I3,.cons ⟨rx,ry⟩ rel,q3⟩)
def uf (kvs more:List (Key×V)):List (Key×V):=more.foldl (fun acc kv=>putK acc kv.1 kv.2) kvs
theorem KV.merge:∀{more:List (Key×V)} {rs:List (Key×Value)} {kvs:List (Key×V)} {vs:List (Key×Value)},KV more rs->KV kvs vs->KV (uf kvs more) (merged vs rs):=by
 intro more rs kvs vs r;unfold KV at r
 induction r generalizing kvs vs with
 | nil=>intro q;exact q
 | @cons p q ps qs h t ih=>
   intro r0
   have e:KV (putK kvs p.1 p.2) (stored vs q.1 q.2):=by
    have:=r0.put p.1 h.2;rw [←h.1];exact this
   exact ih e
theorem pQ:∀(more kvs:List (Key×V)),(uf kvs more).length<=kvs.length+more.length
 | [],kvs=>by show kvs.length<=kvs.length+0;omega
 | p::r,kvs=>by
   have h1:=pQ r (putK kvs p.1 p.2);have h2:=nY kvs p.1 p.2;show (uf (putK kvs p.1 p.2) r).length<=_;rw [List.length_cons];omega
theorem xY {P:Program} {w:World}:∀{kvs:List (Key×V)} {ws:List (Value×Value)},VV (kvs.map fun kv=>(kV kv.1,kv.2)) ws -> ∃rs,Carries (cJ P w) ws rs/\KV kvs rs
 | [],_,r=>by rw [List.map_nil] at r;cases r;exact ⟨[],True.intro,.nil⟩
 | p::kvs,_,r=>by
   rw [List.map_cons] at r;cases r with
   | @cons a b as bs h t=>
     obtain ⟨rs,c,q⟩:=xY (P:=P) (w:=w) t;obtain ⟨b1,b2⟩:=b;exact ⟨(p.1,b2)::rs,⟨Dm h.1,rfl,c⟩,.cons ⟨rfl,h.2⟩ q⟩
def Xl (QD:List (TE×TE)):TE:=fun σ H Q=>∀p,H p=none->Fq QD σ (upd H p (.dK [])) fun ps H2=>H2 p=some (.dK []) /\ ∃kvs:List (Key×V),ps=kvs.map (fun kv=>(kV kv.1,kv.2))/\kvs.length<=15/\Q (.ref p) (upd H2 p (.dK (uf [] kvs)))
theorem Rj {X:Cx} {pos:Pos} {keys:List (Option Expr)} {values:List Expr} {QD:List (TE×TE)} (h:PPs X pos keys values QD) (hall:keys.all (·.isSome)=true) (hl:keys.length=values.length) (h0:keys≠[])
 (h15:keys.length<=15):PE X (.Dict keys values pos) (Xl QD):=by
 intro pins s σ H Q I q;have hn:=I.hok.fresh (Nat.le_refl s.heap.objs.size);have I1:=I.laid (a:=s.heap.objs.size) (o:= .dK []) (h':=s.heap.push {cls:= .type "dict",data:= .dict #[]}) (t':=s.toks) (fun _ _ q=>Heap.get?_push_of_some _ q) (Nat.le_refl _) (DP s.heap I.big);refine wpAny_Dict_walk (knd:=cJ X.prog X.w) hall hl h0 h15 (cP (h pins _ σ _ _ I1 (q _ hn)) fun ws s2 ⟨ps,H2,I2,rel,e,kvs,ep,lk,q2⟩=> ?_);subst ep;obtain ⟨rs,c,rk⟩:=xY (P:=X.prog) (w:=X.w) rel;obtain ⟨z,hd,vs0,r0,dd⟩:=Pb I2.hok e;cases r0;refine ⟨rs,c,dd,fun h' Wk hs=>⟨.ref s.heap.objs.size,_, ?_,rfl,q2⟩⟩
 have hz:(uf [] kvs).length<=sizeLine:=by
  have h1:=pQ kvs [];rw [List.length_nil] at h1;rw [sizeLine_eq];omega
 have he:∃q,h'.get? s.heap.objs.size=some q:=let ⟨q,_,_,hq,_⟩:=Wk;⟨q,hq⟩
 exact Av I2 (by rw [e];exact True.intro) hs he (Pg hz hd (rk.merge .nil) Wk)
structure M2 (X:Cx) (o:Expr) (m:Str) (apos:Pos) (e f:Expr) (cpos:Pos):Prop where
 base:attributeBase o m X.env (eval o X.env)=eval o X.env
 few:((backTo cpos (starEach [e,f] X.env)).all (fun x=> !x.1)&&(backToKw cpos (keywordEach [] X.env)).all (fun x=>x.1.isSome)
  && decide (([e,f]:List Expr).length+([]:List Keyword).length+(if ([]:List Keyword).isEmpty then 0 else 1)<30))=true
 line:(apos.endLine==cpos.line)=true
 trees:backTo cpos (starEach [e,f] X.env)=[(false,eval e X.env),(false,eval f X.env)]
def IsD (H:Hp) (a:Addr):Prop:=(∃kvs,Rd H a (.dK kvs)) \/ ∃kvs,Rd H a (.dT kvs)
theorem V3 {X:Cx} {pins:List (Addr×Obj)} {σ:St} {H:Hp} {s:Shared} {a:Addr} (I:Inv X pins σ H s) (d:IsD H a):
 s.TypeIs (.ref a) "dict" /\ (∀b,Value.ref a = .ref b -> ∃ob,s.heap.get? b=some ob/\ob.dict=none)/\(a==sysModules)=false:=by
 rcases d with ⟨kvs,e⟩|⟨kvs,e⟩
 ·obtain ⟨_,hd,vs,_,dd⟩:=DN I.hok e
  refine ⟨dd.typeIs,fun b q=> ?_,hd⟩;cases q;obtain ⟨ob,_,_,h1,h2,_⟩:=dd;exact ⟨ob,h1,h2.2.1⟩
 ·obtain ⟨_,hd,xs,_,dd⟩:=DK I.hok e
  refine ⟨dd.typeIs,fun b q=> ?_,hd⟩;cases q;obtain ⟨ob,_,_,h1,h2,_⟩:=dd;exact ⟨ob,h1,h2.2.1⟩
section
variable {X:Cx} {pins:List (Addr×Obj)} {σ:St} {H:Hp} {s:Shared} {a:Addr} {y d:V} {u r:Value} {o:Option V} {A:Around} {E:Value->Shared->Prop}
theorem Wm {Q:Value->Shared->Prop} (hu:A.units+1<cLine) (I:Inv X pins σ H s) (g:yC H a y o) (ry:RelV y u) (rd:RelV d r) (h:∀w' s',Inv X pins σ H s'->RelV (o.getD d) w'->Q w' s'):
 wpAny (model X.prog X.w) A (call (.builtin "dict.get") [.ref a,u,r]) Q E s:=by
 rcases g with ⟨kvs,k,e,ey,l⟩|⟨kvs,k,b,e,ey,eb,l⟩
 ·subst ey
  obtain ⟨z,hd,vs,rel,dd⟩:=DN I.hok e;refine call_meetsIn PySem.F.slot_dict_get dd.typeIs PySem.F.entry_dict_get (PySem.F.args_dict_get_3 _ _ _) (meets_dict_get_default (cJ X.prog X.w) a (Dm ry) hd r) ⟨_,dd.mapOf,h _ _ (I.tok _) ?_⟩;rw [l];exact (rel.val k).getD rd
 ·subst ey
  cases (show u=Value.ref b from ry);obtain ⟨z,hd,xs,rel,dd⟩:=DK I.hok e;refine call_meetsIn PySem.F.slot_dict_get dd.typeIs PySem.F.entry_dict_get (PySem.F.args_dict_get_3 _ _ _) (meetsH_dict_get_default (tupleKind (cJ X.prog X.w)) a b hd r) ⟨tupleKind_room_in1 hu,k,xs,Aj I.hok eb,dd,h _ _ (I.tok _) ?_⟩;rw [l];exact (rel.val k).getD rd
end
def Mv (td ty tx:TE):TE:=fun σ H Q=>td σ H fun x H1=>∃a,x = .ref a/\IsD H1 a/\ty σ H1 fun y H2=>tx σ H2 fun z H3=>∃o,yC H3 a y o/\Q (o.getD z) H3
section
variable {X:Cx} {o e f:Expr} {apos cpos:Pos} {td ty tx:TE}
theorem rP (hu:X.A.units+1<cLine) (ho:PE X o td) (he:PE X e ty) (hf:PE X f tx) (m:M2 X o "get" apos e f cpos):PE X (.Call (.Attribute o "get" apos) [e,f] [] cpos) (Mv td ty tx):=by
 intro pins s σ H Q I h;refine wpAny_Call_method m.base m.few m.line PySem.F.plainAttrs_dict PySem.F.slot_dict_get PySem.F.type_dict_get (cP (ho pins s σ H _ I h) fun u s1 ⟨x,H1,I1,rx,a,ex,d,q1⟩=> ?_);subst ex;obtain rfl:u=Value.ref a:=rx;obtain ⟨t1,t2,_⟩:=V3 I1 d;refine ⟨t1,t2, ?_⟩;rw [m.trees]
 refine Calls.callWith_builtin rfl (Calls.evalArgs_plain (Calls.spliced_cons (cP (he pins s1 σ H1 _ I1 q1) fun iv s2 ⟨y,H2,I2,ry,q2⟩=>
  Calls.spliced_cons (cP (hf pins s2 σ H2 _ I2 q2) fun fv s3 ⟨z,H3,I3,rz,ov,g,q3⟩=>Calls.spliced_nil ?_))))
 exact Wm hu I3 g ry rz fun w' s4 I4 rw'=>⟨_,H3,I4,rw',q3⟩
end
section
variable {X:Cx} {pins:List (Addr×Obj)} {σ:St} {H:Hp} {s:Shared} {a:Addr} {kvs:List (Key×V)} {A:Around} {E:Value->Shared->Prop}
end
section
variable {X:Cx} {pins:List (Addr×Obj)} {σ:St} {H:Hp} {s:Shared} {a:Addr} {y:V} {u:Value} {A:Around} {E:Value->Shared->Prop}
end
end L2
namespace Att
open PySem PySem.W PySem.Calls PyProof.Rows
theorem u_ {P:Params} {h:Heap}:∀(ns:List Int) (vs:List Value),WellAll P h vs (ns.map WData.int)->IntsAre vs ns:=by
 intro ns
 induction ns with
 | nil=>
   intro vs w;rw [List.map_nil] at w;cases w;exact .nil
 | cons n ns ih=>
   intro vs w;rw [List.map_cons] at w;cases w with
   | cons a b=>
     cases a;exact .cons _ _ (ih _ b)
theorem JN {l:OpenLaw} {n:Nat} (hn:l.most=some n) {P:Params} {h:Heap} {args:List WData} {vals:List Value}
 (hpre:l.row.toRowW.claim.pre args=true) (hwl:WellAll P h vals args):
 ∃a vs ns,vals=[Value.ref a]/\args=[WData.list (ns.map WData.int)]/\h.get? a=some {cls:= .type "list",data:= .seq vs.toArray}/\IntsAre vs ns/\ns.length<=n:=by
 have hsh:WShape.hasAll [] args [.list .int]=true:=(pre_splitW hpre).1;have hc:l.pre.holds [] {args:=args}=true:=(pre_splitW hpre).2;obtain ⟨d,r,rfl,h1,h2⟩:=hasAllW_cons hsh;obtain rfl:=hasAllW_nil h2;obtain ⟨xs,rfl,h3⟩:=hasW_list h1;obtain ⟨ns,rfl⟩:=items_int h3
 have hlen:ns.length<=n:=by
  unfold OpenLaw.pre at hc
  have h4:(WTm.not (.lt (.lit (.int (n:Int))) (.len (.arg 0)))).holds [] {args:=[.list (ns.map .int)]}=true:=by
   have h4:=(holds_andW hc).1;rw [hn] at h4;exact h4
  have h5:=condW_of h4 (w_not (w_lt w_lit (w_len_list (w_arg rfl))));rw [List.length_map] at h5;refine Nat.le_of_not_lt fun q=> ?_;have q':(n:Int)<((ns.length:Nat):Int):=by omega
  first
   | (rw [decide_eq_true q'] at h5;exact absurd h5 (by decide))
   | (simp at h5;omega)
 cases hwl with
 | cons w1 w2=>
   cases w2;cases w1 with
   | list ho hall=>exact ⟨_,_,ns,rfl,rfl,ho,u_ ns _ hall,hlen⟩
theorem JV (l:OpenLaw) (args:List WData):l.row.toRowW.claim.post args (.bool true) args=true:=
 postW_of (r:=l.row.toRowW) (X:=(true==true))
  (show WShape.has [] (.bool true) .bool=true by first |rfl|decide|simp [WShape.has,WShape.arms,WShape.armsAll])
  (show (WTm.eq .res (.lit (.bool true))).value [] {args:=args,res:=some (.bool true),after:=args}=some (.bool (true==true)) from w_eq_bool (w_res rfl) w_lit) rfl
theorem Em {l:OpenLaw} {n:Nat} {q:Program} {loose:List Str} {XP:(Str->Option Value)->Heap->Prop} {YP:World->Heap->Prop} {d:DefRec}
 (hn:l.most=some n) (hdf:d.params.defaults=[])
 (call:∀(w:World) (s₀ s₁:Shared) (mg mb:Str->Option Value) (fa:Addr) (o:Obj) (pm cd doc:Value) (a:Addr) (vs:List Value) (ns:List Int),
   Ground q loose [] XP w s₀ mg mb s₁.heap->YP w s₁.heap ->
   s₁.heap.get? fa=some o->o.data = .func (docDef d.name d.params d.body d.scope pm cd doc)->s₁.heap.CodeRec cd d.name->mg d.name=some (.ref fa) ->
   s₁.heap.get? a=some {cls:= .type "list",data:= .seq vs.toArray}->IntsAre vs ns->ns.length<=n->s₁.gens = #[] ->
   codeAny (model l.prog w) callerA (.call (.ref fa) ⟨[.ref a],[]⟩) (fun r s'=>r = .ok (.ret (.bool true))/\OldK s₁.heap s'.heap/\s'.os=s₁.os/\AllBare s'.gens) s₁):
 WalkO q loose XP YP l.row.toRowW d [] (fun f vs=>PySem.call f vs):=by
 intro w s₀ s₁ mg mb G Y fa o pm cd doc dV kV ho hd hcd hD hmg hg args vals as hpre hlay hrd hwl hlo;obtain rfl:dV = .none:=Dflts.none hD hdf;obtain rfl:kV = .none:=Dflts.noKw hD;obtain ⟨a,vs,ns,rfl,rfl,hobj,hints,hlen⟩:=JN hn hpre hwl;refine enter_call (codeAny_mono (call w s₀ s₁ mg mb fa o pm cd doc a vs ns G Y ho (fd_plain hd) hcd hmg hobj hints hlen hg) fun r s' hq=> ?_);obtain ⟨rfl,h2,h3,h4⟩:=hq;exact ⟨.inl ⟨.bool true,.bool true,[],rfl,fun _=>rfl,.bool true,JV l _,fun _=>⟨List.Pairwise.nil,fun _ hm=>(nomatch hm)⟩⟩,h2,h3,h4⟩
section
variable {prog:Program} {w:World} {A:Around} {E:Value->Shared->Prop} {s:Shared} {K:Frag}
def ledger (h:Heap) (L d:Addr):List (Addr×Obj):=(List.range h.objs.size).filterMap fun a=>if a=L\/a=d then none else (h.get? a).map fun o=>(a,o)
end
end Att
namespace L2
open PySem PySem.Spec PyProof.Rows
theorem JC {vs:List Value} {ns:List Int} (h:IntsAre vs ns):Vals (ns.map V.int) vs:=by
 induction h with
 | nil=>exact .nil
 | cons n t h ih=>exact .cons ⟨t,rfl⟩ ih
def Only (H:Hp):Prop:=∀b,H b=none \/ ∃o xs,H b=some (.m6 o (.lst xs))
theorem Oh {P:Program} {w:World} {K:PySem.W.Frag} {mg mb:Str->Option Value} {CX:Ly} {k:Nat} {fa a:Addr} {fd:FuncData} {x:Str} {sp:Sp} {s₁:Shared} {vs:List Value} {ns:List Int}
 (KX:K.In s₁.heap) (hns:s₁.heap.Ns mainGlobals mg) (hb:s₁.heap.Ns builtinsNs mb) (hbb:∀x:Str,x ≠ "__name__" -> mb x=bootBuiltins x) (hlim:s₁.heap.NoLimit) (hg:s₁.gens = #[])
 (ha:s₁.heap.get? a=some {cls:= .type "list",data:= .seq vs.toArray}) (hi:IntsAre vs ns) (hl:ns.length<=sizeLine) (hr:dg k callerA)
 (F:∀base:Heap,K.In base->base.Ns mainGlobals mg->cu P w K mg base CX k fa fd [x] sp) (hbind:∀(s:Shared) (u:Value),BindsTo s fd ⟨[u],[]⟩ [(x,u)])
 (hsp:∀H:Hp,Only H->bA K H a (ns.map V.int)->sp [.ref a] H (fun v _=>v = .bl true) fun _ _ _=>False)
 (hCX:∀H e s',CX [] H s₁ (fun _ _ _=>False) e s'->False):
 codeAny (model P w) callerA (.call (.ref fa) ⟨[.ref a],[]⟩) (fun r s'=>r = .ok (.ret (.bool true))/\OldK s₁.heap s'.heap/\s'.os=s₁.os/\AllBare s'.gens) s₁:=by
 have rv:=JC hi;have lenV:=hi.length
 have core:∀H:Hp,Only H->bA K H a (ns.map V.int)->qU P w H s₁.heap->(∀b,H b≠none->b=a)->(H a≠none->K.lookup a=none) ->
  codeAny (model P w) callerA (.call (.ref fa) ⟨[.ref a],[]⟩) (fun r s'=>r = .ok (.ret (.bool true))/\OldK s₁.heap s'.heap/\s'.os=s₁.os/\AllBare s'.gens) s₁:=by
  intro H hO hS hok hA hK;have Js:∀{b:Addr} {o:Obj},s₁.heap.get? b=some o->H b=none->(Am s₁.heap H).get? b=some o:=fun e n=>Ow e n
  have Yh:∀{b:Addr} {o:Obj} {es:Array DictEntry} {ep:Nat},s₁.heap.get? b=some o->o.data = .dict es ep->H b=none:=fun {b o es ep} e d=>by
   cases q:H b with
   | none=>rfl
   | some u=>
     have e':b=a:=hA b (by rw [q];simp);subst e';rw [ha] at e;cases e;have d':Data.seq vs.toArray _=Data.dict es ep:=d;cases d'
  have nsK:∀{b:Addr} {m:Str->Option Value},s₁.heap.Ns b m->(Am s₁.heap H).Ns b m:=fun {b m} ⟨o,es,ep,e,d,r⟩=>⟨o,es,ep,Js e (Yh e d),d,r⟩
  have hKb:K.In (Am s₁.heap H):=fun b o e=>Js (KX b o e) (by
   cases q:H b with
   | none=>rfl
   | some u=>
     have e':b=a:=hA b (by rw [q];simp);subst e';rw [hK (by rw [q];simp)] at e;cases e)
  have hM:Mod K mg (Am s₁.heap H):=⟨hKb,nsK hns,⟨mb,nsK hb,hbb⟩,let ⟨mc,h1,h2⟩:=hlim;⟨mc,nsK h1,h2⟩⟩;have e0:za P w K mg (Am s₁.heap H) callerA [] s₁ H:=⟨rfl,hM,fun b o e=>Rx e,Nat.le_of_eq (Ky _ _),trivial,fun b hb=>absurd (show b∈([]:List Addr) from hb) (by simp),hok,.of_eq hg⟩;refine codeAny_mono ((F _ hKb (nsK hns)).run callerA [] s₁ H ⟨[.ref a],[]⟩ [.ref a] [.ref a] _ _ hr e0 (hbind s₁ (.ref a)) (.cons rfl .nil) (hsp H hO hS)) fun r s' h=> ?_;cases r with
  | error e=>exact (hCX H e s' h).elim
  | ok fl=>
    cases fl with
    | next=>exact False.elim h
    | brk=>exact False.elim h
    | cont=>exact False.elim h
    | ret u=>
      obtain ⟨v,H',os,bare,un,hok',r',q⟩:=h;have q':v = .bl true:=q;subst q';obtain rfl:u=Value.bool true:=r';refine ⟨rfl,OldK.of_keep fun b o e=> ?_,os,bare⟩;cases q:H b with
      | none=>exact un.keep b o e q (by intro z;exact absurd (show b∈([]:List Addr) from z) (by simp)) (by simp)
      | some u=>
        rcases hO b with z|⟨ob,xs,z⟩
        ·rw [q] at z;cases z
        ·have z2:=un.pH b ob _ z
         obtain ⟨e1,_⟩:=hok b _ z;obtain ⟨e2,_⟩:=hok' b _ z2;rw [e] at e1;cases e1;exact e2
 cases hk:K.lookup a with
 | some o=>
   have e:=KX a o hk;rw [ha] at e;cases e;refine core (fun _=>none) (fun _=> .inl rfl) (.inr ⟨_,vs.toArray,_,hk,rfl,rfl,rfl,by rw [List.size_toArray,lenV];exact hl,by simpa using rv⟩) (fun b u z=>by have z':(none:Option HO)=some u:=z;cases z') (fun b z=>absurd rfl z) fun z=>absurd rfl z
 | none=>
   refine core (fun b=>if b=a then some (.m6 {cls:= .type "list",data:= .seq vs.toArray} (.lst (ns.map V.int))) else none) (fun b=> ?_) (.inl (.inr ⟨{cls:= .type "list",data:= .seq vs.toArray},if_pos rfl⟩)) (fun b u z=> ?_) (fun b z=> ?_) fun _=>hk
   ·by_cases hb:b=a
    ·exact .inr ⟨_,_,if_pos hb⟩
    ·exact .inl (if_neg hb)
   ·by_cases hb:b=a
    ·have z':=(if_pos hb).symm.trans z
     cases z';subst hb;exact ⟨ha,by rw [List.length_map];exact hl,vs,_,rv,ha⟩
    ·have z':=(if_neg hb).symm.trans z
     cases z'
   ·by_cases hb:b=a
    ·exact hb
    ·exact absurd (if_neg hb) z
end L2
namespace L2
open PySem PySem.Spec PyProof.Rows
abbrev KOf {K:PySem.W.Frag} {h:Heap} (_:K.In h):PySem.W.Frag:=K
theorem QB {l:PySem.W.OpenLaw} {n k:Nat} {q:Program} {loose:List Str} {XP:(Str->Option Value)->Heap->Prop} {YP:World->Heap->Prop} {d:DefRec} {K:Params->PySem.W.Frag} {CX:World->Ly} {sp:World->Sp} {x:Str}
 (hn:l.most=some n) (hn2:n<=sizeLine) (hdf:d.params.defaults=[]) (hr:dg k callerA)
 (hY:∀(w:World) (h:Heap),YP w h->(K w.params).In h)
 (F:∀(w:World) (mg:Str->Option Value) (fa:Addr) (h:Heap),(K w.params).In h->h.Ns mainGlobals mg->mg d.name=some (.ref fa) ->
   ∃fd:FuncData,(∀(s:Shared) (u:Value),BindsTo s fd ⟨[u],[]⟩ [(x,u)]) /\
    ∀base:Heap,(K w.params).In base->base.Ns mainGlobals mg->cu l.prog w (K w.params) mg base (CX w) k fa fd [x] (sp w))
 (hsp:∀(w:World) (H:Hp) (a:Addr) (ns:List Int),ns.length<=n->Only H->bA (K w.params) H a (ns.map V.int)->sp w [.ref a] H (fun v _=>v = .bl true) fun _ _ _=>False)
 (hCX:∀(w:World) (H:Hp) (s:Shared) (e:Value) (s':Shared),CX w [] H s (fun _ _ _=>False) e s'->False):
 PySem.W.WalkO q loose XP YP l.row.toRowW d [] (fun f vs=>PySem.call f vs):=by
 refine Att.Em hn hdf fun w s₀ s₁ mg mb fa o pm cd doc a vs ns G Y ho hd hcd hmg hobj hints hlen hg=> ?_;have KX:=hY w _ Y;obtain ⟨fd,hb,hF⟩:=F w mg fa _ KX G.T.g hmg;exact Oh KX G.T.g G.T.b G.T.builtins G.T.nolimit hg hobj hints (Nat.le_trans hlen hn2) hr hF hb (fun H hO hS=>hsp w H a ns hlen hO hS) fun H e s'=>hCX w H s₁ e s'
end L2
namespace L2
open PySem PySem.Spec PyProof.Rows
def inClass (s:Stmt) (j:Nat):Stmt:=match s with
 | .ClassDef _ _ _ body _ _ _ _ _ _ _=>body.getD j (.Pass ⟨0,0,0,0⟩)
 | _=> .Pass ⟨0,0,0,0⟩
def aK (s:Stmt):Arguments:=match s with
 | .FunctionDef _ a _ _ _ _ _ _ _ _=>a
 | _=>{posonlyargs:=[],args:=[],vararg:=none,kwonlyargs:=[],kw_defaults:=[],kwarg:=none,defaults:=[]}
def aJ (s:Stmt):List Stmt:=match s with
 | .FunctionDef _ _ b _ _ _ _ _ _ _=>b
 | _=>[]
def aA (s:Stmt):Scope:=match s with
 | .FunctionDef _ _ _ _ _ _ sc _ _ _=>sc
 | _=>{kind:= .function,names:=[],isGenerator:=false,isCoroutine:=false}
abbrev jY:Ly:=fun _ _ _ _ _ _=>False
abbrev E0:XK:=fun _ _ _=>False
theorem Cu {X:Cx}:Passes jY X E0:=fun _ _ _ _ _ _ _ h=>h.elim
structure jZ (K:PySem.W.Frag) (x qual:Str) (st:Stmt) (f:Addr) (fd:FuncData):Prop where
 ex:∃(oc:Value) (od:Option Addr) (kV doc pm:Value) (an:Option Addr) (cdv ct:Value) (osl:Array (Option Value)),
  fd=PySem.W.fnOf x qual (aK st) (aJ st) (aA st) .none kV doc pm an cdv ct/\K.lookup f=some ⟨oc,od,.func fd,osl⟩/\PySem.W.codeIn K cdv qual=true
 kp:PySem.W.keepIn K (.ref f)=true
section
variable {P:Program} {w:World} {K:PySem.W.Frag} {mg:Str->Option Value} {base:Heap}
theorem jZ.ok {x qual:Str} {st:Stmt} {f:Addr} {fd:FuncData} {N ps:List Str} {k:Nat} {sp:Sp} (F:jZ K x qual st f fd) (S:aY N ps (aA st)) (len:∀vs H Q E,sp vs H Q E->vs.length=ps.length)
 (hbody:∀(cdv:Value) (A:Around) (outer:List Env) (s:Shared) (H:Hp) (vs:List V) (Q:VK) (E:XK),dg k (A.deeper (envOfC qual (aA st) s.heap.objs.size f cdv))->sp vs H Q E ->
   ∃t,Ht (pI jY P w K mg base N qual (aA st) f cdv A outer s H E).nox (aJ st) t/\t {nx:=fun _ H'=>Q .non H',rt:=Q} (start N vs) H):cu P w K mg base jY (k+1) f fd ps sp:=by
 obtain ⟨oc,od,kV,doc,pm,an,cdv,ct,osl,rfl,lk,hcd⟩:=F.ex;refine Uo lk hcd S len fun A outer s H vs Q E hr hsp=> ?_;obtain ⟨t,h,q⟩:=hbody cdv A outer s H vs Q E hr hsp;exact ⟨t,h.nox,q⟩
theorem jZ.binds {x qual:Str} {st:Stmt} {f:Addr} {fd:FuncData} {ps:List Str} (F:jZ K x qual st f fd)
 (h:∀(kV doc pm:Value) (an:Option Addr) (cdv ct:Value) (us:List Value),us.length=ps.length->bindArgs (PySem.W.fnOf x qual (aK st) (aJ st) (aA st) .none kV doc pm an cdv ct) ⟨us,[]⟩=pure (ps.zip us)):Binds K fd ps []:=by
 obtain ⟨oc,od,kV,doc,pm,an,cdv,ct,osl,rfl,lk,hcd⟩:=F.ex;exact .all (h kV doc pm an cdv ct)
theorem bJ {x qual:Str} {st:Stmt} {f:Addr} {oc:Value} {od an:Option Addr} {osl:Array (Option Value)} {kV doc pm cdv ct:Value} (l:K.lookup f=some ⟨oc,od,.func (PySem.W.fnOf x qual (aK st) (aJ st) (aA st) .none kV doc pm an cdv ct),osl⟩)
 (c:PySem.W.codeIn K cdv qual=true) (k:PySem.W.keepIn K (.ref f)=true):jZ K x qual st f (PySem.W.fnOf x qual (aK st) (aJ st) (aA st) .none kV doc pm an cdv ct):=⟨⟨oc,od,kV,doc,pm,an,cdv,ct,osl,rfl,l,c⟩,k⟩
end
theorem Dq {A:Around} {k:Nat} (hr:dg k A):A.units+1<cLine:=Nat.lt_of_le_of_lt (Nat.add_le_add_left (by decide:1<=64) _) hr.units
section
variable {X:Cx}
theorem pv (i:Nat) {x:Str} {pos:Pos} (hN:X.N[i]? = some x:=by rfl) (hv:Vis X.env.scope x:=by first |exact Or.inl rfl|exact Or.inr (Or.inl rfl)|exact Or.inr (Or.inr rfl)) (hd:(x==("__debug__" :Str))=false:=by decide)
 (hcd:(x==("__classdict__" :Str))=false:=by decide):PE X (.Name x pos) (v9 i):=Vj hN hv hd hcd
end
theorem gb {A B:Prop} (h:B):if false=true then A else B:=by
 rw [if_neg Bool.false_ne_true];exact h
theorem iV {A B:Prop} (h:A):if true=true then A else B:=by
 rw [if_pos rfl];exact h
theorem pC {c A B:Prop} [Decidable c] (h1:c->A) (h2:¬c->B):if c then A else B:=by
 by_cases h:c
 ·rw [if_pos h]
  exact h1 h
 ·rw [if_neg h]
  exact h2 h
theorem uR {c A B:Prop} [Decidable c] (hc:c) (h:B):if (!decide c)=true then A else B:=by
 rw [decide_eq_true hc];exact gb h
def Same (H H':Hp):Prop:=∀b o,H b=some o->H' b=some o
theorem Same.refl (H:Hp):Same H H:=fun _ _ h=>h
theorem Same.trans {H H1 H2:Hp} (a:Same H H1) (b:Same H1 H2):Same H H2:=fun c o h=>b c o (a c o h)
theorem Same.free {H H':Hp} (e:Same H H') {l:Addr} (h:H' l=Option.none):H l=Option.none:=by
 cases q:H l with
 | none=>rfl
 | some o=>
   rw [e l o q] at h;cases h
theorem Same.seq {K:PySem.W.Frag} {H H':Hp} {a:Addr} {xs:List V} (e:Same H H') (h:bA K H a xs):bA K H' a xs:=by
 rcases h with (h|⟨o,h⟩)|h
 ·exact .inl (.inl (e _ _ h))
 ·exact .inl (.inr ⟨o,e _ _ h⟩)
 ·exact .inr h
section
variable {κ:Type} [DecidableEq κ]
end
end L2
set_option Elab.async false
set_option linter.all false
set_option maxRecDepth 100000
set_option maxHeartbeats 4000000
namespace L2
open PySem PySem.Spec PyProof.Rows
theorem j8 {a n:Addr} (h:a<n): @LT.lt Nat _ a n:=h
def jR (env:Env):List (Str×NameKind)->List (Str×Addr)->List (Str×Addr)
 | [],acc=>acc
 | (n,k)::r,acc=>if k == .free then jR env r ((n,(env.cells.lookup n).getD 0)::acc) else jR env r acc
theorem xW {env:Env} {scope:Scope} (h:∀y∈scope.names,y.2 = .free->(env.cells.lookup y.1).isSome=true):closureFor scope env=pure (jR env scope.names []):=by
 have go:∀(ns:List (Str×NameKind)) (acc:List (Str×Addr)),(∀y∈ns,y.2 = .free->(env.cells.lookup y.1).isSome=true) ->
  (forIn ns acc (fun x cs=>match x with |(name,kind)=>if (kind == .free)=true then do let c ←cellOf env name;pure (ForInStep.yield ((name,c)::cs)) else pure (ForInStep.yield cs)):Sem (List (Str×Addr)))=pure (jR env ns acc):=by
  intro ns
  induction ns with
  | nil=>intro acc _;rfl
  | cons y r ih=>
    intro acc hy;obtain ⟨n,k⟩:=y;rw [List.forIn_cons]
    by_cases hk:k = .free
    ·subst hk
     have hs:=hy (n,.free) List.mem_cons_self rfl;obtain ⟨c,hc⟩:=Option.isSome_iff_exists.mp hs;have e:cellOf env n=pure c:=by unfold cellOf;rw [hc]
     show _=pure (jR env r ((n,(env.cells.lookup n).getD 0)::acc));rw [←ih _ fun y hm=>hy y (List.mem_cons_of_mem _ hm)];simp only [beq_self_eq_true,if_true,e,pure_bind,hc,Option.getD_some]
    ·have hb:(k==NameKind.free)=false:=by simpa using hk
     have hc:jR env ((n,k)::r) acc=jR env r acc:=by
      show (if (k==NameKind.free)=true then _ else _)=_;rw [if_neg (by rw [hb];decide)]
     rw [hc,←ih _ fun y hm=>hy y (List.mem_cons_of_mem _ hm)];simp only [hb,Bool.false_eq_true,if_false,pure_bind]
 have q:=go scope.names [] h;unfold closureFor;show (forIn scope.names [] _ >>= fun r=>pure r)=_;rw [bind_pure];exact q
theorem dY {env:Env}:∀(ns:List (Str×NameKind)) (acc:List (Str×Addr)) (x:Str),(∀y∈ns,y.2 = .free->(env.cells.lookup y.1).isSome=true) ->
 (jR env ns acc).lookup x=if (x,NameKind.free)∈ns then env.cells.lookup x else acc.lookup x
 | [],acc,x,_=>by simp [jR]
 | (n,k)::r,acc,x,h=>by
   have hr:∀y∈r,y.2 = .free->(env.cells.lookup y.1).isSome=true:=fun y hm=>h y (List.mem_cons_of_mem _ hm)
   by_cases hk:k = .free
   ·subst hk
    show (jR env r ((n,(env.cells.lookup n).getD 0)::acc)).lookup x=_;rw [dY r _ x hr];obtain ⟨c,hc⟩:=Option.isSome_iff_exists.mp (h (n,.free) List.mem_cons_self rfl);have hc:env.cells.lookup n=some c:=hc
    by_cases hm:(x,NameKind.free)∈r
    ·rw [if_pos hm,if_pos (List.mem_cons_of_mem _ hm)]
    ·rw [if_neg hm]
     by_cases e:x=n
     ·subst e
      rw [if_pos List.mem_cons_self,List.lookup_cons,hc];simp
     ·rw [if_neg (fun z=>(List.mem_cons.mp z).elim (fun q=>e (congrArg Prod.fst q)) hm),List.lookup_cons]
      have:(x==n)=false:=by simpa using e
      rw [this]
   ·have hb:(k==NameKind.free)=false:=by simpa using hk
    have hc:jR env ((n,k)::r) acc=jR env r acc:=by
     show (if (k==NameKind.free)=true then _ else _)=_;rw [if_neg (by rw [hb];decide)]
    rw [hc,dY r acc x hr]
    have:((x,NameKind.free)∈(n,k)::r)↔(x,NameKind.free)∈r:=by
     constructor
     ·intro z
      rcases List.mem_cons.mp z with q|q
      ·exact absurd (congrArg Prod.snd q).symm hk
      ·exact q
     ·exact List.mem_cons_of_mem _
    simp only [this]
theorem fM (env:Env):∀(ns:List (Str×NameKind)) (x:Str),
 (ns.map fun (n,k)=>if (k == .free&&env.scope.kind == .function&&env.kindOf n==some .cell) then (n,NameKind.cell) else (n,k)).lookup x =
   (ns.lookup x).map fun k=>if (k == .free&&env.scope.kind == .function&&env.kindOf x==some .cell)=true then NameKind.cell else k
 | [],x=>rfl
 | (n,k)::r,x=>by
   show List.lookup x ((if (k==NameKind.free&&env.scope.kind == .function&&env.kindOf n==some .cell)=true then (n,NameKind.cell) else (n,k))::_)=_;cases hx:x==n with
   | true=>
     have e:x=n:=by simpa using hx
     subst e
     by_cases hc:(k==NameKind.free&&env.scope.kind == .function&&env.kindOf x==some .cell)=true
     ·rw [if_pos hc];simp only [List.lookup_cons,hx,Option.map_some,if_pos hc]
     ·rw [if_neg hc];simp only [List.lookup_cons,hx,Option.map_some,if_neg hc]
   | false=>
     have ih:=fM env r x
     by_cases hc:(k==NameKind.free&&env.scope.kind == .function&&env.kindOf n==some .cell)=true
     ·rw [if_pos hc];simp only [List.lookup_cons,hx];exact ih
     ·rw [if_neg hc];simp only [List.lookup_cons,hx];exact ih
structure bf (N own:List Str) (caps:List Nat) (XN:List Str) (outer scope:Scope):Prop where
 kind:scope.kind = .function
 Od:∀y∈scope.names,y.2 ≠ .cell
 names:∀y∈scope.names,y.2 = .local->scope.names.lookup y.1=some .local
 free:∀y∈scope.names,y.2 = .free->outer.names.lookup y.1=some .cell\/outer.names.lookup y.1=some .free
 nd:N.Nodup
 len:N.length=own.length+caps.length
 cap:∀(j:Nat),j<caps.length->N[own.length+j]? = XN[caps.getD j 0]? /\ ∃x,N[own.length+j]? = some x/\(x,NameKind.free)∈scope.names/\scope.names.lookup x=some .free
def st0 (own:List Str) (caps:List Nat) (σ:St):St:=own.map (fun _=>none)++caps.map (fun i=>(σ[i]?).join)
def fB (X:Cx) (scope:Scope) (C:Addr) (N:List Str) (s:Shared) (H:Hp) (fp:List Addr):Cx:=
 {X with N:=N,s₀:=s,H₀:=H,env:=compEnvC scope (jR X.env scope.names []) C X.env,outer:=X.stack,ex:=fp,fn:=fun _=>false,pn:=[],xe:=fun _ _=>False}
section
variable {X:Cx} {pins:List (Addr×Obj)} {σ:St} {H:Hp} {s:Shared} {scope:Scope} {N own:List Str} {caps:List Nat} {fp:List Addr} {C:Nat}
theorem bf.xV (S:bf N own caps X.N X.env.scope scope) (ok:X.Ok):∀y∈scope.names,y.2 = .free->(X.env.cells.lookup y.1).isSome=true:=fun y hy hf=>by
 obtain ⟨c,e⟩:=ok.has y.1 (S.free y hy hf);rw [e];rfl
theorem bf.csub (S:bf N own caps X.N X.env.scope scope) (ok:X.Ok) {x:Str} {c:Addr} (h:(jR X.env scope.names []).lookup x=some c):X.env.cells.lookup x=some c:=by
 rw [dY _ _ _ (S.xV ok)] at h;split at h
 ·exact h
 ·simp at h
theorem bf.wW {S:bf N own caps X.N X.env.scope scope} {x:Str} (h:(relabel scope X.env).names.lookup x=some .cell\/(relabel scope X.env).names.lookup x=some .free):(x,NameKind.free)∈scope.names:=by
 have e:=fM X.env scope.names x;have e':(relabel scope X.env).names.lookup x=(scope.names.lookup x).map fun k=>if (k == .free&&X.env.scope.kind == .function&&X.env.kindOf x==some .cell)=true then NameKind.cell else k:=e;rw [e'] at h;cases q:scope.names.lookup x with
 | none=>rw [q] at h;simp at h
 | some k=>
   have hm:=PySem.mem_of_lookup q
   by_cases hk:k = .free
   ·subst hk;exact hm
   ·rw [q] at h
    have hb:(k==NameKind.free)=false:=by simpa using hk
    simp only [Option.map_some,hb,Bool.false_and,Bool.false_eq_true,if_false] at h;rcases h with h|h
    ·exact absurd (Option.some.inj h) (S.Od _ hm)
    ·exact absurd (Option.some.inj h) hk
theorem Inv.comp {h1:Heap} {D:Nat} (I:Inv X pins σ H s) (S:bf N own caps X.N X.env.scope scope) (hfp:∀b∈fp,mV X pins H b) (hfo:∀b∈fp,∃o,s.heap.get? b=some o)
 (hD:D=s.heap.objs.size) (hC:C=s.heap.objs.size+1) (old:∀b o,s.heap.get? b=some o->h1.get? b=some o) (hns:h1.Ns C (fun _=>none)) (hl:h1.get? D=some {cls:= .type "list",data:= .seq #[]}) {t:Nat}:
 Inv (fB X scope C N s H fp) [] (st0 own caps σ) (upd H D (.lst [])) {s with heap:=h1,toks:=t}:=by
 have some':=S.xV I.ok;have sub:∀{x c},(jR X.env scope.names []).lookup x=some c->X.env.cells.lookup x=some c:=fun h=>S.csub I.ok h;have freshD:H D=none:=I.hok.fresh (by rw [hD];exact Nat.le_refl _);have G6:H C=none:=I.hok.fresh (by rw [hC];exact Nat.le_succ _)
 have xX:∀x c,X.env.cells.lookup x=some c->c<s.heap.objs.size:=fun x c e=>by
  obtain ⟨v,z⟩:=I.cell x c e;exact z.lt
 have Sg:∀b∈fp,b<s.heap.objs.size:=fun b hb=>by
  obtain ⟨o,e⟩:=hfo b hb;exact Heap.lt_size e
 have DC:D≠C:=by omega
 refine ⟨⟨I.ok.mod,S.kind,I.ok.glob,I.ok.blt,by show s.heap.objs.size<=C;omega,fun x y c e1 e2=>I.ok.inj x y c (sub e1) (sub e2),fun x h=> ?_,fun x c h=>(by cases h),I.ok.hd,I.ok.frames,Or.inl rfl,fun b hb=>⟨?_,fun x c e=> ?_⟩,I.bs,Nat.le_trans I.ok.Eb I.sz,fun b o e hb=> ?_,fun b hb z=> ?_,I.stack,I.vA⟩,
  rfl,I.bare,Un.laid old (by show s.heap.objs.size<=D;omega) freshD,⟨_,hns,fun j x v e1 e2 e3=> ?_⟩,fun x c e=> ?_, ?_,fun x c e=> ?_,fun p hp=> ?_,I.hok.laid old (by omega) ?_, ?_⟩
 ·have hm:=bf.wW (S:=S) (X:=X) h
  obtain ⟨c,e⟩:=Option.isSome_iff_exists.mp (some' _ hm rfl);exact ⟨c,by show (jR X.env scope.names []).lookup x=_;rw [dY _ _ _ some',if_pos hm];exact e⟩
 ·exact Nat.ne_of_lt (show @LT.lt Nat _ b C by have:=j8 (Sg b hb);omega)
 ·exact (hfp b hb).2.2.2.2.1 x c (sub e)
 ·rcases (hfp b hb).2.2.2.1 with z|z
  ·exact I.ok.yN b o e z
  ·exact absurd (Nat.lt_of_lt_of_le (Heap.lt_size e) (Nat.le_trans I.ok.Eb z)) (Nat.lt_irrefl _)
 ·rcases List.mem_cons.mp (I.qD b z) with q|q
  ·exact (hfp b hb).2.1 q
  ·exact (hfp b hb).2.2.1 q
 ·have e1:N[j]? = some x:=e1
  have hj:own.length<=j:=by
   by_cases q:own.length<=j
   ·exact q
   ·exfalso
    unfold st0 at e2;rw [List.getElem?_append_left (by simp;omega),List.getElem?_map] at e2;cases r:own[j]? with
    | none=>rw [r] at e2;cases e2
    | some a=>rw [r] at e2;cases e2
  have hjl:j<N.length:=(List.getElem?_eq_some_iff.mp e1).1;have hjc:j - own.length<caps.length:=by have:=S.len;omega
  obtain ⟨c1,x',c2,c3,c4⟩:=S.cap (j - own.length) hjc;rw [show own.length+(j - own.length)=j by omega] at c1 c2;rw [e1] at c2;cases c2
  have e2':(σ[caps.getD (j - own.length) 0]?).join=some v:=by
   unfold st0 at e2;rw [List.getElem?_append_right (by simp;omega),List.getElem?_map,List.length_map] at e2;rw [List.getD_eq_getElem?_getD];cases r:caps[j - own.length]? with
   | none=>rw [r] at e2;cases e2
   | some a=>rw [r] at e2;exact Option.some.inj e2
  have Wj:σ[caps.getD (j - own.length) 0]? = some (some v):=by
   cases r:σ[caps.getD (j - own.length) 0]? with
   | none=>rw [r] at e2';cases e2'
   | some a=>rw [r] at e2';exact congrArg Option.some e2'
  have kx:X.env.kindOf x=some .cell\/X.env.kindOf x=some .free:=S.free _ c3 rfl;obtain ⟨m,hn,hl'⟩:=I.loc;obtain ⟨u,r,l⟩:=hl' _ x v (by rw [←c1];exact e1) Wj (by rcases kx with z|z;exact .inr (.inl z);exact .inr (.inr z));refine ⟨u,r,.inr ⟨?_, ?_⟩⟩
  ·show (relabel scope X.env).names.lookup x=some .cell\/(relabel scope X.env).names.lookup x=some .free
   have e:(relabel scope X.env).names.lookup x=(scope.names.lookup x).map fun k=>if (k == .free&&X.env.scope.kind == .function&&X.env.kindOf x==some .cell)=true then NameKind.cell else k:=fM X.env scope.names x;rw [e,c4,Option.map_some];split
   ·exact .inl rfl
   ·exact .inr rfl
  ·rcases l with ⟨hk,_⟩|⟨_,c,hc,z⟩
   ·rcases kx with q|q<;>rw [hk] at q<;>cases q
   ·refine ⟨c, ?_, ?_⟩
    ·show (jR X.env scope.names []).lookup x=_
     rw [dY _ _ _ some',if_pos c3];exact hc
    ·obtain ⟨o,ho,hd⟩:=z
     exact ⟨o,old c o ho,hd⟩
 ·obtain ⟨v,o,ho,hd⟩:=I.cell x c (sub e)
  exact ⟨v,o,old c o ho,hd⟩
 ·show upd H D (.lst []) C=none
  rw [aN DC.symm];exact G6
 ·show upd H D (.lst []) c=none
  rw [aN (Nat.ne_of_lt (by have:=j8 (xX x c (sub e));omega))];exact I.gO x c (sub e)
 ·cases hp
 ·exact ⟨Nat.zero_le _,[],0,.nil,hl⟩
 ·show (own.map (fun _=>none)++caps.map _).length=N.length
  rw [List.length_append,List.length_map,List.length_map,S.len]
theorem Inv.Mp {j6:List (Addr×Obj)} {σ':St} {H':Hp} {s':Shared} {h':Heap} (I:Inv X pins σ H s) (hfp:∀b∈fp,mV X pins H b) (hC:s.heap.objs.size<=C) (J:Inv (fB X scope C N s H fp) j6 σ' H' s') (hs:Heap.SameBut C s'.heap h'):
 Inv X pins σ H' {s' with heap:=h'}:=by
 have nC:∀b o,s.heap.get? b=some o->b≠C:=fun b o e=>Nat.ne_of_lt (by have:=j8 (Heap.lt_size e);omega);have u:=J.base;have frC:H' C=none:=J.free;refine I.call' (ch:=fp) (s':={s' with heap:=h'}) J.os ⟨fun b o e n hb hx=> ?_,fun b o e n hb hx=> ?_,u.free,fun b o e hx=> ?_,u.tups,u.pH,u.rB⟩ (fun a o e=>(J.hok a o e).stay (fun b v hb q=> ?_) (fun _ q=>q) fun _ _ q=>q) J.bare fun b hb=> ?_
 ·exact (hs.2 b (nC b o e)).trans (u.keep b o e n hb hx)
 ·obtain ⟨sl,q⟩:=u.slot b o e n hb hx
  exact ⟨sl,(hs.2 b (nC b o e)).trans q⟩
 ·obtain ⟨o',q⟩:=u.there b o e hx
  exact ⟨o',(hs.2 b (nC b o e)).trans q⟩
 ·refine (hs.2 b ?_).trans q
  intro z;subst z;rcases hb with z|z
  ·subst z;rw [frC] at e;cases e
  ·rw [frC] at z;cases z
 ·exact ⟨(hfp b hb).2.2.2.1,(hfp b hb).2.1,(hfp b hb).2.2.2.2.1,(hfp b hb).2.2.2.2.2⟩
end
section
variable {prog:Program} {w:World} {A:Around} {R:Result->Shared->Prop} {s:Shared}
theorem sG {elt target iter:Expr} {ifs:List Expr} {scope:Scope} {pos:Pos} {it acc:Value} {env:Env} (I:Nat->Shared->Prop)
 (turn:∀n s,I n s->wpAny (model prog w) A (pyNext it) (fun r s1=>match r with
   | none=>R (.ok .next) s1
   | some v=>wpAny (model prog w) A (letOwnedTupleGo target it v) (fun _ s1'=>wpAny (model prog w) A (assign target env v) (fun _ s2=>
      wpAny (model prog w) A (forIn ifs true fun c r=>if r=true then do let ok ←isTrue c env (eval c env);pure (ForInStep.yield ok) else pure (ForInStep.yield r)) (fun ok s3=>
       if ok=true then wpAny (model prog w) A (eval elt env) (fun x s4=>
        wpAny (model prog w) A (call (.builtin "list.append") [acc,x]) (fun _ s5=>∃m,m<n/\I m s5) (fun _ _=>False) s4) (fun _ _=>False) s3
       else ∃m,m<n/\I m s3) (fun _ _=>False) s2) (fun _ _=>False) s1') (fun _ _=>False) s1) (fun _ _=>False) s)
 (n:Nat) (h:I n s):
 codeAny (model prog w) A (.compLoop (.ListComp elt [⟨target,iter,ifs,0⟩] scope pos) 0 it acc env) R s:=by
 refine codeAny_loop rfl I (fun n s hI=> ?_) n h;show wpAny _ A ((compTurn (.ListComp elt [⟨target,iter,ifs,0⟩] scope pos) 0 it acc env).onRaise (fun x=>do noteFrame x env;theTreesLotGoes x)) _ _ s;refine wpAny_noted ?_;rw [compTurn_list];refine wpAny_bind (wpAny_standAt (wpAny_bind (wpAny_mono (turn n s hI) (fun r s1 h1=> ?_) fun _ _ h'=>h'.elim)));cases r with
 | none=>exact wpAny_pure h1
 | some v=>
   refine wpAny_bind (wpAny_mono h1 (fun _ s1' h1'=> ?_) fun _ _ h'=>h'.elim);refine wpAny_bind (wpAny_mono h1' (fun _ s2 h2=>wpAny_bind (wpAny_mono h2 (fun ok s3 h3=> ?_) fun _ _ h'=>h'.elim)) fun _ _ h'=>h'.elim);cases ok with
   | false=>exact wpAny_pure ⟨rfl,h3⟩
   | true=>
     exact wpAny_bind (wpAny_bind (wpAny_mono h3 (fun x s4 h4=>wpAny_bind (wpAny_mono h4 (fun _ s5 h5=>wpAny_pure (wpAny_pure ⟨rfl,h5⟩)) fun _ _ h'=>h'.elim)) fun _ _ h'=>h'.elim))
end
def Wu (X:Cx) (ifs:List Expr) (t:TT):Prop:=
 ∀(pins:List (Addr×Obj)) (s:Shared) (σ:St) (H:Hp) (Q:Bool->Hp->Prop),Inv X pins σ H s->t σ H Q ->
  wpAny (model X.prog X.w) X.A (forIn ifs true fun c r=>if r=true then do let ok ←isTrue c X.env (eval c X.env);pure (ForInStep.yield ok) else pure (ForInStep.yield r)) (TP X pins σ Q) X.xe s
def JK:TT:=fun _ H Q=>Q true H
theorem eN {X:Cx}:Wu X [] JK:=fun _ _ _ H _ I h=>wpAny_tests_nil ⟨H,I,h⟩
theorem Io {X:Cx} {c:Expr} {t:TT} (h:PT X c t):Wu X [c] t:=fun pins s σ H Q I q=>wpAny_tests_one (h pins s σ H Q I q)
def oH (J:It) (g:TG) (tc:TT) (te:TE) (Q:VK) (D:Addr) (σ0:St) (H1:Hp):Prop:=
 ∃W:Nat->Nat->St->Hp->Prop,(∃m,W 0 m σ0 (upd H1 D (.lst []))) /\ ∀i m σ H,W i m σ H ->
  (J.stop i H/\Q (.ref D) H)\/(J.go i H /\ ∃N:St->Hp->Prop,(∀σ' H',N σ' H' -> ∃m',m'<m/\W (i+1) m' σ' H') /\ ∀x H',J.Uz i H x H'->g x σ H' fun σ2 H2=>tc σ2 H2 fun b H3=>
    if b=true then te σ2 H3 fun y H4=>∃acc,H4 D=some (.lst acc)/\acc.length<sizeLine/\N σ2 (upd H4 D (.lst (acc++[y]))) else N σ2 H3)
def zf (own:List Str) (caps:List Nat) (wi:TI) (g:TG) (tc:TT) (te:TE):TE:=fun σ H Q=>wi σ H fun J H1=>∀D,H1 D=none->oH J g tc te Q D (st0 own caps σ) H1
section
variable {X:Cx} {elt tg iter:Expr} {ifs:List Expr} {scope:Scope} {pos:Pos} {N own:List Str} {caps:List Nat} {wi:TI} {g:TG} {tc:TT} {te:TE}
theorem D_ {use:Option (Value->Sem Unit)} {Qv:Value->Shared->Prop} {pins:List (Addr×Obj)} {σ:St} {H:Hp} {s:Shared} {Q:VK} (hc:X.calm=true) (S:bf N own caps X.N X.env.scope scope)
 (hg:∀C s H fp,PG (fB X scope C N s H fp) tg g) (hcs:∀C s H fp,Wu (fB X scope C N s H fp) ifs tc) (he:∀C s H fp,PE (fB X scope C N s H fp) elt te)
 (hi:PI X tg iter wi) (hs:∀x,foldedSetIterable iter X.env x=pure x)
 (I:Inv X pins σ H s) (h:zf own caps wi g tc te σ H Q)
 (fin:∀(D C:Addr) (H':Hp) (s':Shared),(∃m,s'.heap.Ns C m)->Inv X pins σ H' s'->(∀h',Heap.SameBut C s'.heap h'->Inv X pins σ H' {s' with heap:=h'})->mV X pins H' C->Q (.ref D) H' ->
   compPost (model X.prog X.w) X.A X.xe use Qv (.ref D) C (.ok .next) s'):
 wpAny (model X.prog X.w) X.A (comprehension (.ListComp elt [⟨tg,iter,ifs,0⟩] scope pos) scope X.env (firstIterPos [⟨tg,iter,ifs,0⟩] pos) (newList []) false (eval iter X.env) use) Qv X.xe s:=by
 refine wpAny_comprehension_free (use:=use) rfl hs (xW (S.xV I.ok)) S.kind S.names (cP (hi pins s σ H _ I h) fun xv s1 h1=>cP h1 fun itv s2 h2=> ?_);obtain ⟨it,fp,tn,J,H2,e,I2,T,st2,f2,q2⟩:=h2;subst e;refine wpAny_newList ?_;refine wpAny_newFunctionEnv S.Od (by intro y hy;simp at hy) (fun h1 R5 hsb1=> ?_) S.kind;dsimp only at R5 hsb1 ⊢;have hD:H2 s2.heap.objs.size=none:=I2.hok.fresh (Nat.le_refl _);have hsz:(s2.heap.push {cls:= .type "list",data:= .seq ([]:List Value).toArray}).objs.size=s2.heap.objs.size+1:=Heap.size_push ..
 have old:∀b o,s2.heap.get? b=some o->h1.get? b=some o:=fun b o e=>by
  refine hsb1.extBut b o (Nat.ne_of_lt (by have:=j8 (Heap.lt_size e);rw [hsz];omega)) (Heap.get?_push_of_some _ (Heap.get?_push_of_some _ e))
 have hl:h1.get? s2.heap.objs.size=some {cls:= .type "list",data:= .seq #[]}:=
  hsb1.extBut _ _ (Nat.ne_of_lt (by rw [hsz];omega)) (Heap.get?_push_of_some _ (Heap.get?_push_size _ rfl))
 have hfo:∀b∈fp,∃o,s2.heap.get? b=some o:=fun b hb=>let ⟨o,e,_⟩:=T.obj _ _ st2 b hb;⟨o,e⟩
 have I4:=Inv.comp (C:=(s2.heap.push {cls:= .type "list",data:= .seq ([]:List Value).toArray}).objs.size) (t:=s2.toks+([]:List (Str×Value)).length) I2 S f2 hfo rfl hsz old R5 hl;obtain ⟨W,⟨m0,w0⟩,turn⟩:=q2 _ hD;generalize hCe:(s2.heap.push {cls:= .type "list",data:= .seq ([]:List Value).toArray}).objs.size=C at *;generalize hDe:s2.heap.objs.size=D at *;have hDC:D≠C:=by omega
 have loop:∀s3:Shared,s3={s2 with heap:=h1,toks:=s2.toks+([]:List (Str×Value)).length} ->
  codeAny (model X.prog X.w) X.A (.compLoop (.ListComp elt [⟨tg,iter,ifs,0⟩] scope pos) 0 (.ref it) (.ref D) (fB X scope C N s2 H2 fp).env) (compPost (model X.prog X.w) X.A X.xe use Qv (.ref D) C) s3:=by
  rintro s3 rfl
  have m6:∀b∈fp,(upd H2 D (.lst [])) b=none:=fun b hb=>by
   obtain ⟨o,e⟩:=hfo b hb;rw [aN (Nat.ne_of_lt (by have:=j8 (Heap.lt_size e);omega))];exact (f2 b hb).1
  have stat:∀{H':Hp},(∀b∈fp,H' b=none) -> ∀b∈fp,mV (fB X scope C N s2 H2 fp) [] H' b:=fun hn b hb=>by
   obtain ⟨o,e⟩:=hfo b hb;have hlt:=j8 (Heap.lt_size e);refine ⟨hn b hb, ?_,fun z=> ?_,.inl hb,fun x c e'=>(f2 b hb).2.2.2.2.1 x c (S.csub I2.ok e'),fun p hp=>(by cases hp)⟩
   ·exact Nat.ne_of_lt (show @LT.lt Nat _ b C by omega)
   ·rcases List.mem_cons.mp (I2.qD b z) with q|q
    ·exact (f2 b hb).2.1 q
    ·exact (f2 b hb).2.2.1 q
  refine sG (fun n s'=>∃i σ' H',Inv (fB X scope C N s2 H2 fp) [] σ' H' s'/\tn i s'.heap/\(∀b∈fp,H' b=none)/\W i n σ' H') ?_ m0
   ⟨0,_,_,I4,T.keep _ _ _ st2 fun b _ o e=>old b o e,m6,w0⟩
  rintro n s3 ⟨i,σ3,H3,I3,st3,Um,w3⟩;rcases turn i n σ3 H3 w3 with ⟨stop,qn⟩|⟨go,Nx,hNx,step⟩
  ·refine cP (T.done (fB X scope C N s2 H2 fp) rfl rfl rfl hc i [] s3 σ3 H3 _ I3 (stat Um) st3 stop) fun r s4 ⟨hr,J4⟩=> ?_
   subst hr;obtain ⟨m4,Du,_⟩:=J4.loc;exact fin D C H3 s4 ⟨m4,Du⟩ (I2.Mp f2 (by omega) J4 (Heap.SameBut.refl _ _)) (fun h' hs'=>I2.Mp f2 (by omega) J4 hs') (I2.Ar (show s2.heap.objs.size<=C by omega) J4.free) qn
  ·refine cP (T.item (fB X scope C N s2 H2 fp) rfl rfl rfl hc i [] s3 σ3 H3 _ I3 (stat Um) st3 go) fun r s4 ⟨u,hr,h4⟩=> ?_
   subst hr;refine cP h4 fun _ s5 ⟨x,H5,I5,r5,y5,yE,YC⟩=> ?_;have Z_:=I5.pinned (stat YC) (T.obj _ _ yE);refine cP (hg C s2 H2 fp _ s5 σ3 H5 x u _ Z_ r5 (step x H5 y5)) fun _ s6 ⟨σ6,H6,I6,q6⟩=> ?_;refine cP (hcs C s2 H2 fp _ s6 σ6 H6 _ I6 q6) fun ok s7 ⟨H7,I7,q7⟩=> ?_
   have again:∀{σ8:St} {H8:Hp} {s8:Shared},Inv (fB X scope C N s2 H2 fp) ([]++tZ fp s5.heap) σ8 H8 s8->Nx σ8 H8 -> ∃m,m<n /\ ∃i σ' H',Inv (fB X scope C N s2 H2 fp) [] σ' H' s8/\tn i s8.heap/\(∀b∈fp,H' b=none)/\W i m σ' H':=fun {σ8 H8 s8} I8 n8=>by
    obtain ⟨m',hm,w8⟩:=hNx _ _ n8;refine ⟨m',hm,i+1,σ8,H8,I8.nu,T.keep _ _ _ yE fun b hb o e=>(I8.pin (b,o) (List.mem_append_right _ (List.mem_append_right _ (iU hb e)))).1,fun b hb=> ?_,w8⟩;obtain ⟨o,e,d⟩:=T.obj _ _ yE b hb;exact (I8.pin (b,o) (List.mem_append_right _ (List.mem_append_right _ (iU hb e)))).2.1
   cases ok with
   | false=>
     rw [if_neg (by decide)] at q7;exact again I7 q7
   | true=>
     rw [if_pos rfl] at q7;refine cP (he C s2 H2 fp _ s7 σ6 H7 _ I7 q7) fun y s8 ⟨yv,H8,I8,r8,acc,ha,hlen,q8⟩=> ?_;exact cP (ud _ s8 σ6 H8 (.ref D) [yv] (.ref D) [y] (fun v H9=>Nx σ6 H9) I8 rfl (.cons r8 .nil) ⟨D,acc,yv,rfl,rfl,ha,hlen,q8⟩) fun _ s9 ⟨_,H9,I9,_,q9⟩=>again I9 q9
 exact codeAny_compStart_list (loop _ rfl) (T.self _ 0 _ _ _ (T.keep _ _ _ st2 fun b _ o e=>old b o e) (loop _ rfl))
theorem gw (hc:X.calm=true) (S:bf N own caps X.N X.env.scope scope) (hi:PI X tg iter wi)
 (hg:∀C s H fp,PG (fB X scope C N s H fp) tg g) (hcs:∀C s H fp,Wu (fB X scope C N s H fp) ifs tc) (he:∀C s H fp,PE (fB X scope C N s H fp) elt te)
 (hs:∀x,foldedSetIterable iter X.env x=pure x:=by intro _;rfl):PE X (.ListComp elt [⟨tg,iter,ifs,0⟩] scope pos) (zf own caps wi g tc te):=by
 intro pins s σ H Q I h;rw [eval_ListComp];refine D_ (use:=none) hc S hg hcs he hi hs I h ?_;intro D C H' s' hn I' hk _ q;obtain ⟨m,hn⟩:=hn;exact ⟨m,hn,fun h' hs'=>⟨.ref D,H',hk h' hs',rfl,q⟩⟩
theorem vG {i:Nat} {x:Str} {px sp:Pos} (hc:X.calm=true) (hN:X.N.Nodup) (hx:X.N[i]? = some x) (hl:Loc X.env.scope x) (S:bf N own caps X.N X.env.scope scope) (hi:PI X tg iter wi)
 (hg:∀C s H fp,PG (fB X scope C N s H fp) tg g) (hcs:∀C s H fp,Wu (fB X scope C N s H fp) ifs tc) (he:∀C s H fp,PE (fB X scope C N s H fp) elt te)
 (hsw:swapsWith (.ListComp elt [⟨tg,iter,ifs,0⟩] scope pos) (some (.Name x px)) sp.line X.env=pure true:=by rfl)
 (hs:∀x,foldedSetIterable iter X.env x=pure x:=by intro _;rfl) (hf:X.fn x=true\/X.env.scope.names.lookup x=some .local:=by first |exact .inl rfl|exact .inr rfl|assumption):
 PS X (.Assign [.Name x px] (.ListComp elt [⟨tg,iter,ifs,0⟩] scope pos) sp) (QJ (zf own caps wi g tc te) (gM i)):=by
 intro pins s σ H D I h;rw [exec_Assign_Name_used _ _ _ _ hsw];refine wpAny_bind (wpAny_standAt (wpAny_bind ?_));show wpAny _ X.A (do let _ ←comprehension (.ListComp elt [⟨tg,iter,ifs,0⟩] scope pos) scope X.env (firstIterPos [⟨tg,iter,ifs,0⟩] pos) (newList []) false (eval iter X.env) (some (assign (.Name x px) X.env))) _ _ s;refine wpAny_bind (wpAny_mono (D_ (use:=some (assign (.Name x px) X.env)) (Qv:=fun _ s'=>SP X pins D .next s') hc S hg hcs he hi hs I h ?_) (fun _ s' hq=>wpAny_pure (wpAny_pure hq)) fun _ _ e=>e);intro E C H' s' hn I' hk fC q;obtain ⟨m,hn⟩:=hn;obtain ⟨f0,f1,f2,f3,f4,f5⟩:=fC;show wpAny _ X.A (assign (.Name x px) X.env (.ref E)) _ _ _;refine wpAny_assign_Name (tK I' hN hx hl (v:= .ref E) rfl (fun s2 I2 k=> ?_) hf);refine ⟨m, ?_,fun h' hs'=> ?_⟩
 ·obtain ⟨o,es,ep,ho,r⟩:=hn
  obtain ⟨a,ks,ka⟩:=k
  have hCa:C≠a:=fun z=>by
   rcases ka with q'|q'
   ·exact f1 (z.trans q')
   ·exact f4 x a q' z.symm
  exact ⟨o,es,ep,(ks.2 C hCa).trans ho,r⟩
 ·exact ⟨_,H',I2.turned (t':=s2.toks) (fun b o hb e=>(hs'.2 b hb).trans e) f0 f1 f3 f4 f5,q⟩
end
def Pq (N own:List Str) (caps:List Nat) (XN:List Str) (outer scope:Scope):Bool:=
 decide (scope.kind = .function)&&scope.names.all (fun y=>decide (y.2 ≠ .cell))&&scope.names.all (fun y=>decide (y.2 ≠ .local)||decide (scope.names.lookup y.1=some .local)) &&
 scope.names.all (fun y=>decide (y.2 ≠ .free)||decide (outer.names.lookup y.1=some .cell)||decide (outer.names.lookup y.1=some .free))&&decide N.Nodup&&decide (N.length=own.length+caps.length) &&
 (List.range caps.length).all (fun j=>match N[own.length+j]? with |some x=>decide (XN[caps.getD j 0]? = some x)&&decide ((x,NameKind.free)∈scope.names)&&decide (scope.names.lookup x=some .free)|none=>false)
theorem bf.of {N own:List Str} {caps:List Nat} {XN:List Str} {outer scope:Scope} (h:Pq N own caps XN outer scope=true):bf N own caps XN outer scope:=by
 unfold Pq at h;simp only [Bool.and_eq_true,decide_eq_true_eq,List.all_eq_true,Bool.or_eq_true] at h;obtain ⟨⟨⟨⟨⟨⟨h1,h2⟩,h3⟩,h4⟩,h5⟩,h6⟩,h7⟩:=h;refine ⟨h1,h2,fun y hy e=> ?_,fun y hy e=> ?_,h5,h6,fun j hj=> ?_⟩
 ·rcases h3 y hy with z|z
  ·exact absurd e z
  ·exact z
 ·rcases h4 y hy with (z|z)|z
  ·exact absurd e z
  ·exact .inl z
  ·exact .inr z
 ·have q:=h7 j (List.mem_range.mpr hj)
  cases e:N[own.length+j]? with
  | none=>rw [e] at q;cases q
  | some x=>
    rw [e] at q;simp only [Bool.and_eq_true,decide_eq_true_eq] at q;exact ⟨q.1.1.symm,x,rfl,q.1.2,q.2⟩
end L2
set_option Elab.async false
set_option linter.all false
set_option maxRecDepth 100000
set_option maxHeartbeats 4000000
namespace L2
open PySem PySem.Spec PyProof.Rows
mutual
def Dat (H:Hp):V->PyData->Prop
 | v,.none=>v = .non
 | v,.bool b=>v = .bl b
 | v,.int i=>v = .int i
 | v,.str x=>v = .str x
 | v,.list ds=>∃a vs,v = .ref a/\H a=some (.lst vs)/\aL H vs ds
 | v,.tuple ds=>∃a vs,v = .ref a/\H a=some (.tup vs)/\aL H vs ds
 | _,.dict _=>False
def aL (H:Hp):List V->List PyData->Prop
 | [],[]=>True
 | v::vs,d::ds=>Dat H v d/\aL H vs ds
 | [],_::_=>False
 | _::_,[]=>False
end
section
variable {H H':Hp}
theorem aL.length:∀{vs:List V} {ds:List PyData},aL H vs ds->vs.length=ds.length
 | [],[],_=>rfl
 | _::_,_::_,h=>by simp only [aL] at h;simp [aL.length h.2]
 | [],_::_,h=>by simp only [aL] at h
 | _::_,[],h=>by simp only [aL] at h
theorem aL.get:∀{vs:List V} {ds:List PyData} {i:Nat} {v:V},aL H vs ds->vs[i]? = some v -> ∃d,ds[i]? = some d/\Dat H v d
 | _::_,_::_,0,_,h,e=>by simp only [aL] at h;simp at e;subst e;exact ⟨_,rfl,h.1⟩
 | _::_,_::_,i+1,_,h,e=>by simp only [aL] at h;simp at e;obtain ⟨d,q,r⟩:=aL.get h.2 e;exact ⟨d,by simpa using q,r⟩
 | [],[],_,_,_,e=>by simp at e
 | [],_::_,_,_,h,_=>by simp only [aL] at h
 | _::_,[],_,_,h,_=>by simp only [aL] at h
theorem aL.getD:∀{vs:List V} {ds:List PyData} {i:Nat} {d:PyData},aL H vs ds->ds[i]? = some d -> ∃v,vs[i]? = some v/\Dat H v d
 | _::_,_::_,0,_,h,e=>by simp only [aL] at h;simp at e;subst e;exact ⟨_,rfl,h.1⟩
 | _::_,_::_,i+1,_,h,e=>by simp only [aL] at h;simp at e;obtain ⟨d,q,r⟩:=aL.getD h.2 e;exact ⟨d,by simpa using q,r⟩
 | [],[],_,_,_,e=>by simp at e
 | [],_::_,_,_,h,_=>by simp only [aL] at h
 | _::_,[],_,_,h,_=>by simp only [aL] at h
theorem aL.append:∀{vs ws:List V} {ds es:List PyData},aL H vs ds->aL H ws es->aL H (vs++ws) (ds++es)
 | [],_,[],_,_,g=>g
 | _::_,_,_::_,_,h,g=>by simp only [aL,List.cons_append] at h ⊢;exact ⟨h.1,aL.append h.2 g⟩
 | [],_,_::_,_,h,_=>by simp only [aL] at h
 | _::_,_,[],_,h,_=>by simp only [aL] at h
theorem aL.take:∀{vs:List V} {ds:List PyData} (n:Nat),aL H vs ds->aL H (vs.take n) (ds.take n)
 | _,_,0,_=>by simp only [List.take_zero,aL]
 | [],[],_+1,_=>by simp only [List.take_nil,aL]
 | _::_,_::_,n+1,h=>by simp only [aL,List.take_succ_cons] at h ⊢;exact ⟨h.1,aL.take n h.2⟩
 | [],_::_,_+1,h=>by simp only [aL] at h
 | _::_,[],_+1,h=>by simp only [aL] at h
theorem aL.ints (ns:List Int):aL H (ns.map V.int) (ns.map PyData.int):=by
 induction ns with
 | nil=>simp only [List.map_nil,aL]
 | cons n r ih=>simp only [List.map_cons,aL,Dat];exact ⟨trivial,ih⟩
mutual
theorem Dat.mono (hl:∀a xs,H a=some (HO.lst xs)->H' a=some (HO.lst xs)) (ht:∀a xs,H a=some (HO.tup xs)->H' a=some (HO.tup xs)):∀(d:PyData) {v:V},Dat H v d->Dat H' v d
 | .none,_,h=>by simp only [Dat] at h ⊢;exact h
 | .bool _,_,h=>by simp only [Dat] at h ⊢;exact h
 | .int _,_,h=>by simp only [Dat] at h ⊢;exact h
 | .str _,_,h=>by simp only [Dat] at h ⊢;exact h
 | .list ds,_,h=>by simp only [Dat] at h ⊢;obtain ⟨a,vs,e,q,r⟩:=h;exact ⟨a,vs,e,hl _ _ q,aL.mono hl ht ds r⟩
 | .tuple ds,_,h=>by simp only [Dat] at h ⊢;obtain ⟨a,vs,e,q,r⟩:=h;exact ⟨a,vs,e,ht _ _ q,aL.mono hl ht ds r⟩
 | .dict _,_,h=>by simp only [Dat] at h
theorem aL.mono (hl:∀a xs,H a=some (HO.lst xs)->H' a=some (HO.lst xs)) (ht:∀a xs,H a=some (HO.tup xs)->H' a=some (HO.tup xs)):∀(ds:List PyData) {vs:List V},aL H vs ds->aL H' vs ds
 | [],[],_=>by simp only [aL]
 | d::ds,v::vs,h=>by simp only [aL] at h ⊢;exact ⟨Dat.mono hl ht d h.1,aL.mono hl ht ds h.2⟩
 | _::_,[],h=>by simp only [aL] at h
 | [],_::_,h=>by simp only [aL] at h
end
mutual
def Qt:PyData->Bool
 | .tuple ds=>Dp ds
 | .list _ | .dict _=>false
 | .none | .bool _ | .int _ | .str _=>true
def Dp:List PyData->Bool
 | []=>true
 | d::ds=>Qt d&&Dp ds
end
mutual
theorem Dat.keep (ht:∀a xs,H a=some (HO.tup xs)->H' a=some (HO.tup xs)):∀(d:PyData) {v:V},Qt d=true->Dat H v d->Dat H' v d
 | .none,_,_,h=>by simp only [Dat] at h ⊢;exact h
 | .bool _,_,_,h=>by simp only [Dat] at h ⊢;exact h
 | .int _,_,_,h=>by simp only [Dat] at h ⊢;exact h
 | .str _,_,_,h=>by simp only [Dat] at h ⊢;exact h
 | .list ds,_,i,h=>by simp only [Qt] at i;cases i
 | .tuple ds,_,i,h=>by simp only [Dat] at h ⊢;simp only [Qt] at i;obtain ⟨a,vs,e,q,r⟩:=h;exact ⟨a,vs,e,ht _ _ q,aL.keep ht ds i r⟩
 | .dict _,_,_,h=>by simp only [Dat] at h
theorem aL.keep (ht:∀a xs,H a=some (HO.tup xs)->H' a=some (HO.tup xs)):∀(ds:List PyData) {vs:List V},Dp ds=true->aL H vs ds->aL H' vs ds
 | [],[],_,_=>by simp only [aL]
 | d::ds,v::vs,i,h=>by simp only [aL] at h ⊢;simp only [Dp,Bool.and_eq_true] at i;exact ⟨Dat.keep ht d i.1 h.1,aL.keep ht ds i.2 h.2⟩
 | _::_,[],_,h=>by simp only [aL] at h
 | [],_::_,_,h=>by simp only [aL] at h
end
theorem cj {α:Type} (f:α->PyData) (h:∀x,Qt (f x)=true):∀l:List α,Dp (l.map f)=true
 | []=>rfl
 | a::l=>by simp only [List.map_cons,Dp,h a,cj f h l,Bool.and_self]
end
section
variable {X:Cx} {pins:List (Addr×Obj)} {σ:St} {H:Hp} {s:Shared}
mutual
theorem Inv.reads (I:Inv X pins σ H s):∀(d:PyData) {v:V} {u:Value},Dat H v d->RelV v u -> ∃as,Reads s.heap u d as
 | .none,v,u,h,r=>by
   simp only [Dat] at h;subst h;cases (show u=Value.none from r);exact ⟨_,.none⟩
 | .bool b,v,u,h,r=>by
   simp only [Dat] at h;subst h;cases (show u=Value.bool b from r);exact ⟨_,.bool b⟩
 | .int i,v,u,h,r=>by
   simp only [Dat] at h;subst h;obtain ⟨t,q⟩:=(show ∃t,u=Value.int i t from r);cases q;exact ⟨_,.int i t⟩
 | .str x,v,u,h,r=>by
   simp only [Dat] at h;subst h;obtain ⟨t,q⟩:=(show ∃t,u=Value.str x t from r);cases q;exact ⟨_,.str x t⟩
 | .list ds,v,u,h,r=>by
   simp only [Dat] at h;obtain ⟨a,vs,rfl,q,g⟩:=h;cases (show u=Value.ref a from r);obtain ⟨its,rv,p,hz⟩:=I.list (bA.of q);obtain ⟨o,ho,hc,n,hd⟩:=p.isList;obtain ⟨as,ra⟩:=Inv.readsAll I ds g rv;exact ⟨_,.list ho hc hd (by simpa using ra)⟩
 | .tuple ds,v,u,h,r=>by
   simp only [Dat] at h;obtain ⟨a,vs,rfl,q,g⟩:=h;cases (show u=Value.ref a from r);obtain ⟨its,rv,p,hz⟩:=I.tuple (gC.of q);obtain ⟨o,ho,hc,n,hd⟩:=p;obtain ⟨as,ra⟩:=Inv.readsAll I ds g rv;exact ⟨_,.tuple ho hc hd (by simpa using ra)⟩
 | .dict _,_,_,h,_=>by simp only [Dat] at h
theorem Inv.readsAll (I:Inv X pins σ H s):∀(ds:List PyData) {vs:List V} {us:List Value},aL H vs ds->Vals vs us -> ∃as,ReadsAll s.heap us ds as
 | [],[],_,_,.nil=>⟨_,.nil⟩
 | d::ds,v::vs,_,h,.cons r rs=>by
   simp only [aL] at h;obtain ⟨as,ra⟩:=Inv.reads I d h.1 r;obtain ⟨bs,rb⟩:=Inv.readsAll I ds h.2 rs;exact ⟨_,.cons ra rb⟩
 | _::_,[],_,h,_=>by simp only [aL] at h
 | [],_::_,_,h,_=>by simp only [aL] at h
end
def XR (neg:Bool):R2:=fun x y H Q=>∃d e,Dat H x d/\Dat H y e/\SeqAt.shaped d=true/\SeqAt.shaped e=true/\Q (.bl (if neg then !PyData.eqv d e else PyData.eqv d e)) H
theorem Vp (hu:X.A.units+64<cLine):pX X (compareOp .Eq) (XR false):=by
 intro pins s σ H x y v u Q I rx ry h;obtain ⟨d,e,h1,h2,s1,s2,q⟩:=h;obtain ⟨as,ra⟩:=I.reads d h1 rx;obtain ⟨bs,rb⟩:=I.reads e h2 ry;exact SeqAt.compareEq_shaped ra rb s1 s2 hu ⟨.bl _,H,I,rfl,q⟩
theorem Pu {c:Value} {cv:V} (rc:RelV cv c):iJ X (.builtin "isinstance") (fun xs H Q=>∃x t b,xs=[x,cv]/\qQ X.K H x t/\PySem.W.kitOne X.K t c=some b/\Q (.bl b) H):=by
 intro pins s σ H xs us Q I r h;obtain ⟨x,t,b,rfl,ty,e,q⟩:=h;obtain ⟨u,w',rfl,r1,r2⟩:=vals2 r
 have:w'=c:=by
  cases cv with
  | non=>exact (show w'=Value.none from r2).trans (show c=Value.none from rc).symm
  | bl b=>exact (show w'=Value.bool b from r2).trans (show c=Value.bool b from rc).symm
  | ref a=>exact (show w'=Value.ref a from r2).trans (show c=Value.ref a from rc).symm
  | ty n=>exact (show w'=Value.type n from r2).trans (show c=Value.type n from rc).symm
  | int i=>obtain ⟨t1,rfl⟩:=(show ∃t,c=Value.int i t from rc);unfold PySem.W.kitOne at e;exact absurd e (by cases ty<;>simp [PySem.W.kitCls])
  | str i=>obtain ⟨t1,rfl⟩:=(show ∃t,c=Value.str i t from rc);unfold PySem.W.kitOne at e;exact absurd e (by cases ty<;>simp [PySem.W.kitCls])
  | Ho i=>obtain ⟨t1,rfl⟩:=(show ∃t,c=Value.bytes i t from rc);unfold PySem.W.kitOne at e;exact absurd e (by cases ty<;>simp [PySem.W.kitCls])
  | flt i=>obtain ⟨t1,rfl⟩:=(show ∃t,c=Value.float i t from rc);unfold PySem.W.kitOne at e;exact absurd e (by cases ty<;>simp [PySem.W.kitCls])
 subst this;exact Ko I r1 ty e fun tk=>⟨.bl b,H,I.tok _,rfl,q⟩
end
section
variable {prog:Program} {w:World} {A:Around}
theorem Fg (hh:A.handled=none) (it a:Addr) (hne:it≠a) (its:List Value):Walks prog w A it [it,a] [it] its.length (fun i v=>its[i]? = some v) (fun i h=>h.IsListIter it a i/\h.IsList a its.toArray) where
 sub:=by simp
 frame:=fun i h h' ⟨s1,o,ho,hc⟩ k=>⟨s1.at fun o e=>k it (by simp) o e,o,k a (by simp) o ho,hc⟩
 item:=fun i s Q E hi ⟨s1,s2⟩ hQ=>wpAny_pyNext_list_item s1 s2 (x:=its[i]) (by simp [hi]) fun h' st' sb=>
  hQ _ h' s.toks (by simp [hi]) ⟨st',s2.extBut sb.extBut hne.symm⟩ fun b o hb e=>(sb.2 b (by simpa using hb)).trans e
 done:=fun s Q E ⟨s1,s2⟩ hQ=>wpAny_pyNext_list_end hh s1 s2 (by simp) fun h' eb=>hQ h' s.toks fun b o hb e=>eb b o (by simpa using hb) e
 self:=fun i s Q E ⟨s1,_⟩ hQ=>wpAny_pyIter_listiter s1 hQ
end
section
variable {X:Cx}
theorem yL (bs:List Bool):(List.range bs.length).all (fun i=>(bs[i]?).getD false)=bs.all id:=by
 rw [Bool.eq_iff_iff,List.all_eq_true,List.all_eq_true];constructor
 ·intro h b hb
  obtain ⟨i,hi,rfl⟩:=List.getElem_of_mem hb;have:=h i (by simpa using hi);simpa [hi] using this
 ·intro h i hi
  have hi':i<bs.length:=by simpa using hi
  simpa [hi'] using h bs[i] (List.getElem_mem hi')
theorem Fj {bs:List Bool}:∀{us:List Value},Vals (bs.map V.bl) us->us=bs.map Value.bool:=by
 induction bs with
 | nil=>intro us r;cases r;rfl
 | cons b bs ih=>
   intro us r;cases r with
   | cons r rs=>cases (show _=Value.bool b from r);rw [ih rs];rfl
theorem yc (hc:X.calm=true):iJ X (.builtin "all") (fun xs H Q=>∃(p:Addr) (bs:List Bool),xs=[.ref p]/\bA X.K H p (bs.map V.bl)/\Q (.bl (bs.all id)) H):=by
 intro pins s σ H xs us Q I r h;obtain ⟨p,bs,rfl,hq,q⟩:=h;obtain ⟨u,rfl,rx⟩:=vals1 r;cases rx;obtain ⟨its,rv,pl,hz⟩:=I.list hq;have e:=Fj rv;have hlen:its.length=bs.length:=by rw [e,List.length_map]
 refine call_all_walk (wpAny_pyIter_list pl.isList ⟨s.heap.objs.size,[s.heap.objs.size,p],[s.heap.objs.size],its.length,_,_,fun i=>(bs[i]?).getD false,rfl,
  Fg (show X.A.in1.handled=none from I.ok.hd hc) s.heap.objs.size p ?_ its,⟨⟨_,Heap.get?_push_size _ rfl,rfl,rfl⟩, ?_⟩, ?_, ?_⟩)
 ·intro z
  obtain ⟨o,ho,_⟩:=pl.isList;have:=Heap.lt_size ho;rw [←z] at this;exact Nat.lt_irrefl _ this
 ·obtain ⟨o,ho,hcl⟩:=pl.isList
  exact ⟨o,Heap.get?_push_of_some _ ho,hcl⟩
 ·intro i v s1 Q1 E1 hP hQ
  rw [e,List.getElem?_map] at hP;cases r:bs[i]? with
  | none=>rw [r] at hP;cases hP
  | some b=>
    rw [r] at hP;cases hP;simp only [r,Option.getD_some] at hQ;exact wpAny_truthy_bool hQ
 ·intro h' tk k
  rw [hlen,yL];have f:=I.Ar (H':=H) (b:=s.heap.objs.size) (Nat.le_refl _) (I.hok.fresh (Nat.le_refl _));have I2:Inv X pins σ H {s with heap:=h',toks:=tk}:=I.turned (h':=h') (t':=tk) (it:=s.heap.objs.size) (fun b o hb e=>k b o (by simpa using hb) (Heap.get?_push_of_some _ e)) f.1 f.2.1 f.2.2.2.1 f.2.2.2.2.1 f.2.2.2.2.2;exact ⟨.bl _,H,I2,rfl,q⟩
end
end L2
set_option Elab.async false
set_option linter.all false
set_option maxRecDepth 100000
set_option maxHeartbeats 4000000
namespace L2
open PySem PySem.Spec PyProof.Rows
def FnAt (P:Program) (w:World) (K:PySem.W.Frag) (mg:Str->Option Value) (base:Heap) (k:Nat) (x:Str) (ps:List Str) (sp:Sp):Prop:=
 ∃f fd,cu P w K mg base jY k f fd ps sp/\mg x=some (.ref f)/\PySem.W.keepIn K (.ref f)=true/\Binds K fd ps []
section
variable {X:Cx} {k j:Nat} {x:Str} {ps:List Str} {sp:Sp} {e:Expr} {es:List Expr} {t:TA} {p pos:Pos}
theorem bx (F:FnAt X.prog X.w X.K X.mg X.base k x ps sp) (hr:dg k X.A) (hg:Gl X x) (ha:PA X (e::es) t) (hd:(x==("__debug__" :Str))=false:=by decide)
 (he:starEach (e::es) X.env=(false,eval e X.env)::starEach es X.env:=by rfl) (hpl:(backTo pos (starEach es X.env)).any (·.1)=false:=by rfl):
 PE X (.Call (.Name x p) (e::es) [] pos) (TJ sp [] E0 t):=by
 obtain ⟨f,fd,G,hm,hk,hb⟩:=F;exact Rm G hr hg hm hk hb .nil Cu ha (hdb:=hd) (he:=he) (hpl:=hpl)
end
theorem Wo:bootBuiltins "all" = some (.builtin "all"):=by kernel_rfl
theorem dI:bootBuiltins "len" = some (.builtin "len"):=by kernel_rfl
theorem Px:bootBuiltins "max" = some (.builtin "max"):=by kernel_rfl
theorem o9:bootBuiltins "sorted" = some (.builtin "sorted"):=by kernel_rfl
theorem aV:bootBuiltins "isinstance" = some (.builtin "isinstance"):=by kernel_rfl
theorem Py:bootBuiltins "int" = some (.type "int"):=by kernel_rfl
theorem Jr:bootBuiltins "bool" = some (.type "bool"):=by kernel_rfl
theorem jH:bootBuiltins "list" = some (.type "list"):=by kernel_rfl
theorem yd:bootBuiltins "tuple" = some (.type "tuple"):=by kernel_rfl
theorem yg:bootBuiltins "str" = some (.type "str"):=by kernel_rfl
section
variable {X:Cx}
end
def Kp (r:Addr) (H H':Hp):Prop:=∀b o,H b=some o->b≠r->H' b=some o
theorem Kp.of_same {r:Addr} {H H':Hp} (h:Same H H'):Kp r H H':=fun b o e _=>h b o e
theorem Kp.trans {r:Addr} {H H1 H2:Hp} (a:Kp r H H1) (b:Kp r H1 H2):Kp r H H2:=fun c o h n=>b c o (a c o h n) n
theorem Kp.refl (r:Addr) (H:Hp):Kp r H H:=fun _ _ h _=>h
theorem Kp.set {r:Addr} {H:Hp} {o:HO}:Kp r H (upd H r o):=fun b u e n=>by rw [aN n];exact e
theorem aD {H:Hp} {p:Addr} {o:HO} (h:H p=none):Same H (upd H p o):=fun b u e=>by rw [aN (aB e h)];exact e
theorem Same.tups {H H':Hp} (e:Same H H'):∀a xs,H a=some (HO.tup xs)->H' a=some (HO.tup xs):=fun a xs h=>e _ _ h
theorem Same.sqL {K:PySem.W.Frag} {H H':Hp} (e:Same H H'):∀a xs,bA K H a xs->bA K H' a xs:=fun a xs h=>e.seq h
theorem Kp.tups {H H':Hp} {r:Addr} {ys:List V} (e:Kp r H H') (hr:H r=some (.lst ys)):∀a xs,H a=some (HO.tup xs)->H' a=some (HO.tup xs):=fun a xs h=>e _ _ h (uO h hr (by intro z;cases z))
end L2
namespace L2
open PySem PySem.Spec PyProof.Rows
section
variable {X:Cx} {K:PySem.W.Frag}
theorem aM (h:X.K=K):Lw X (Vf K):=by subst h;exact Jb
theorem cH (h:X.K=K):Lw X (z9 K):=by subst h;exact Oo
theorem Ja (h:X.K=K):Lw X (rIx K):=by subst h;exact V2
theorem BK (h:X.K=K):ZV X (XD K):=by subst h;exact QM
theorem Ih (h:X.K=K):ZV X (XC K):=by subst h;exact U_
theorem Gh (h:X.K=K):pX X (compareOp .In) (rIn K false):=by subst h;exact JW
def XJ (K:PySem.W.Frag):List V->Hp->VK->Prop:=fun xs H Q=>∃(p:Addr) (ys:List V),xs=[.ref p]/\(bA K H p ys\/gC K H p ys)/\Q (.int ys.length) H
theorem aU (h:X.K=K):iJ X (.builtin "len") (XJ K):=by subst h;exact Ay
def Q6 (K:PySem.W.Frag):List V->Hp->VK->Prop:=fun xs H Q=>∃(p:Addr) (ys:List V),xs=[.ref p]/\(bA K H p ys\/gC K H p ys) /\ ∀l,H l=none->Q (.ref l) (upd H l (.lst ys))
theorem fj (h:X.K=K):iJ X (.type "list") (Q6 K):=by subst h;exact Ax
def XS (K:PySem.W.Frag):List V->Hp->VK->Prop:=fun xs H Q=>∃(p:Addr) (bs:List Bool),xs=[.ref p]/\bA K H p (bs.map V.bl)/\Q (.bl (bs.all id)) H
theorem vh (h:X.K=K) (hc:X.calm=true):iJ X (.builtin "all") (XS K):=by subst h;exact yc hc
theorem vM (h:X.K=K) (hu:X.A.units+64<cLine):pX X (compareOp .Eq) (XR false):=by subst h;exact Vp hu
theorem iC {tg l:Expr} {tl:TE} (h:X.K=K) (hl:PE X l tl):PI X tg l (Uj K tl):=by subst h;exact Rf hl
theorem Rb {tg l:Expr} {tl:TE} (h:X.K=K) (hl:PE X l tl):PI X tg l (Yu K tl):=by subst h;exact Vh hl
def ach (K:PySem.W.Frag) (c:Value) (cv:V):List V->Hp->VK->Prop:=fun xs H Q=>∃x t b,xs=[x,cv]/\qQ K H x t/\PySem.W.kitOne K t c=some b/\Q (.bl b) H
theorem fV {c:Value} {cv:V} (h:X.K=K) (rc:RelV cv c):iJ X (.builtin "isinstance") (ach K c cv):=by subst h;exact Pu rc
theorem eU {o e:Expr} {to:TE} {t:TA} {apos cpos:Pos} (h:X.K=K) (ho:PE X o to) (ha:PA X [e] t)
 (hbase:attributeBase o "append" X.env (eval o X.env)=eval o X.env:=by rfl)
 (hfew:((backTo cpos (starEach [e] X.env)).all (fun x=> !x.1)&&(backToKw cpos (keywordEach [] X.env)).all (fun x=>x.1.isSome)
   && decide (([e]:List Expr).length+([]:List Keyword).length+(if ([]:List Keyword).isEmpty then 0 else 1)<30))=true:=by rfl)
 (hline:(apos.endLine==cpos.line)=true:=by rfl) (hs:starEach [e] X.env=(false,eval e X.env)::starEach [] X.env:=by rfl) (hplain:(backTo cpos (starEach [] X.env)).any (·.1)=false:=by rfl):
 PE X (.Call (.Attribute o "append" apos) [e] [] cpos) (tBM K "list" Il to t):=by
 subst h;exact T8 PySem.F.plainAttrs_list PySem.F.slot_list_append PySem.F.type_list_append ud ho ha hbase hfew hline hs hplain
end
end L2
namespace L2
open PySem
section
variable {K:PySem.W.Frag} {a D:Addr} {xs:List V} {g:TG} {tc:TT} {te:TE} {Q:VK} {σ0:St} {H1:Hp}
theorem uy (Pv:Nat->St->Hp->Prop) (h0:Pv 0 σ0 (upd H1 D (.lst []))) (hl:∀i σ H,i<=xs.length->Pv i σ H->bA K H a xs)
 (hs:∀i x σ H,xs[i]? = some x->Pv i σ H->g x σ H fun σ2 H2=>tc σ2 H2 fun b H3=>
   if b=true then te σ2 H3 fun y H4=>∃acc,H4 D=some (.lst acc)/\acc.length<sizeLine/\Pv (i+1) σ2 (upd H4 D (.lst (acc++[y]))) else Pv (i+1) σ2 H3)
 (hd:∀σ H,Pv xs.length σ H->Q (.ref D) H):oH (Uy K a) g tc te Q D σ0 H1:=by
 refine ⟨fun i m σ H=>m=xs.length - i/\i<=xs.length/\Pv i σ H,⟨xs.length,by simp,Nat.zero_le _,h0⟩, ?_⟩;rintro i m σ H ⟨rfl,hi,p⟩;have q:=hl i σ H hi p
 by_cases hlt:i<xs.length
 ·refine .inr ⟨⟨xs,xs[i],q,by simp [hlt]⟩,Pv (i+1),fun σ' H' p'=>⟨xs.length - (i+1),by omega,rfl,hlt,p'⟩,fun x H' y=> ?_⟩
  obtain ⟨e,y⟩:=y;subst e;exact hs i x σ _ (y xs q) p
 ·have e:i=xs.length:=by omega
  subst e;exact .inl ⟨⟨xs,q,Nat.le_refl _⟩,hd σ H p⟩
theorem Pn (Pv:Nat->St->Hp->Prop) (h0:Pv 0 σ0 (upd H1 D (.lst []))) (hl:∀i σ H,i<=xs.length->Pv i σ H->gC K H a xs)
 (hs:∀i x σ H,xs[i]? = some x->Pv i σ H->g x σ H fun σ2 H2=>tc σ2 H2 fun b H3=>
   if b=true then te σ2 H3 fun y H4=>∃acc,H4 D=some (.lst acc)/\acc.length<sizeLine/\Pv (i+1) σ2 (upd H4 D (.lst (acc++[y]))) else Pv (i+1) σ2 H3)
 (hd:∀σ H,Pv xs.length σ H->Q (.ref D) H):oH (Itt K a) g tc te Q D σ0 H1:=by
 refine ⟨fun i m σ H=>m=xs.length - i/\i<=xs.length/\Pv i σ H,⟨xs.length,by simp,Nat.zero_le _,h0⟩, ?_⟩;rintro i m σ H ⟨rfl,hi,p⟩;have q:=hl i σ H hi p
 by_cases hlt:i<xs.length
 ·refine .inr ⟨⟨xs,xs[i],q,by simp [hlt]⟩,Pv (i+1),fun σ' H' p'=>⟨xs.length - (i+1),by omega,rfl,hlt,p'⟩,fun x H' y=> ?_⟩
  obtain ⟨e,y⟩:=y;subst e;exact hs i x σ _ (y xs q) p
 ·have e:i=xs.length:=by omega
  subst e;exact .inl ⟨⟨xs,q,Nat.le_refl _⟩,hd σ H p⟩
theorem iW {lo:Int} {n:Nat} (Pv:Nat->St->Hp->Prop) (h0:Pv 0 σ0 (upd H1 D (.lst [])))
 (hs:∀i σ H,i<n->Pv i σ H->g (.int (lo+i)) σ H fun σ2 H2=>tc σ2 H2 fun b H3=>
   if b=true then te σ2 H3 fun y H4=>∃acc,H4 D=some (.lst acc)/\acc.length<sizeLine/\Pv (i+1) σ2 (upd H4 D (.lst (acc++[y]))) else Pv (i+1) σ2 H3)
 (hd:∀σ H,Pv n σ H->Q (.ref D) H):oH (Tp lo n) g tc te Q D σ0 H1:=by
 refine ⟨fun i m σ H=>m=n - i/\i<=n/\Pv i σ H,⟨n,by simp,Nat.zero_le _,h0⟩, ?_⟩;rintro i m σ H ⟨rfl,hi,p⟩
 by_cases hlt:i<n
 ·refine .inr ⟨hlt,Pv (i+1),fun σ' H' p'=>⟨n - (i+1),by omega,rfl,hlt,p'⟩,fun x H' y=> ?_⟩
  obtain ⟨e,y⟩:=y;subst e y;exact hs i σ _ hlt p
 ·have e:i=n:=by omega
  subst e;exact .inl ⟨Nat.le_refl _,hd σ H p⟩
end
end L2
set_option Elab.async false
set_option linter.all false
set_option maxRecDepth 100000
set_option maxHeartbeats 4000000
namespace L2
open PySem PySem.Spec PyProof.Rows
section
variable {α:Type} (f:α->PyData)
theorem xZ:∀(l:List α),(∀x∈l,(f x).canLay0=true)->PyData.canLayAll0 (l.map f)=true
 | [],_=>rfl
 | a::l,h=>by
   show (PyData.canLay0 (f a)&&PyData.canLayAll0 (l.map f))=true;rw [h a List.mem_cons_self,xZ l fun x hx=>h x (List.mem_cons_of_mem _ hx)];rfl
theorem su (k:Nat):∀(l:List α),(∀x∈l,(f x).depth<=k)->PyData.depthAll (l.map f)<=k
 | [],_=>Nat.zero_le _
 | a::l,h=>by
   show max (PyData.depth (f a)) (PyData.depthAll (l.map f))<=k;exact Nat.max_le.mpr ⟨h a List.mem_cons_self,su k l fun x hx=>h x (List.mem_cons_of_mem _ hx)⟩
theorem nM {l:List α} (k:Nat) (hk:k<64) (h1:∀x∈l,(f x).canLay0=true) (h2:∀x∈l,(f x).depth<=k):SeqAt.shaped (.list (l.map f))=true:=by
 unfold SeqAt.shaped;have e1:PyData.canLay0 (.list (l.map f))=true:=xZ f l h1
 have e2:PyData.depth (.list (l.map f))<=64:=by
  show PyData.depthAll (l.map f)+1<=64;have:=su f k l h2;omega
 rw [e1,decide_eq_true e2];rfl
theorem xP [DecidableEq α] (h:∀x y,PyData.eqv (f x) (f y)=decide (x=y)):∀(l m:List α),PyData.eqvAll (l.map f) (m.map f)=decide (l=m)
 | [],[]=>rfl
 | [],_::_=>by simp only [List.map_nil,List.map_cons,PyData.eqvAll];exact (decide_eq_false (by intro z;cases z)).symm
 | _::_,[]=>by simp only [List.map_nil,List.map_cons,PyData.eqvAll];exact (decide_eq_false (by intro z;cases z)).symm
 | a::l,b::m=>by
   simp only [List.map_cons,PyData.eqvAll];rw [h a b,xP h l m]
   by_cases e1:a=b
   ·subst e1
    by_cases e2:l=m
    ·subst e2;simp
    ·simp [e2]
   ·simp [e1]
theorem ou [DecidableEq α] (h:∀x y,PyData.eqv (f x) (f y)=decide (x=y)) (l m:List α):PyData.eqv (.list (l.map f)) (.list (m.map f))=decide (l=m):=by
 simp only [PyData.eqv];exact xP f h l m
end
theorem dX {H:Hp} {a:Addr} {vs:List V} {ds:List PyData} (h:H a=some (.lst vs)) (d:aL H vs ds):Dat H (.ref a) (.list ds):=by
 simp only [Dat];exact ⟨a,vs,rfl,h,d⟩
theorem uT (K:PySem.W.Frag):PySem.W.kitOne K (.type "int") (.type "int")=some true:=rfl
theorem rW (K:PySem.W.Frag):PySem.W.kitOne K (.type "int") (.type "bool")=some false:=by kernel_rfl
theorem pR (K:PySem.W.Frag):PySem.W.kitOne K (.type "list") (.type "list")=some true:=rfl
theorem mX (K:PySem.W.Frag):PySem.W.kitOne K (.type "tuple") (.type "tuple")=some true:=rfl
end L2
namespace L2
open PySem
theorem xU (xs:List V) (k:Nat):j4 xs none (some (k:Int))=xs.take k:=by
 unfold j4;rw [HT.Ca,HT.Ii,List.drop_zero,Nat.sub_zero]
 by_cases h:k<=xs.length
 ·rw [Nat.min_eq_left h]
 ·rw [Nat.min_eq_right (by omega),List.take_of_length_le (Nat.le_refl _),List.take_of_length_le (by omega)]
theorem Pj (xs:List V) (k:Nat):j4 xs (some (k:Int)) none=xs.drop k:=by
 unfold j4;rw [HT.Ca,HT.Ii]
 by_cases h:k<=xs.length
 ·rw [Nat.min_eq_left h,List.take_of_length_le (by rw [List.length_drop];exact Nat.le_refl _)]
 ·rw [Nat.min_eq_right (by omega),Nat.sub_self,List.take_zero,List.drop_of_length_le (by omega)]
end L2
set_option Elab.async false
set_option linter.all false
set_option maxRecDepth 100000
set_option maxHeartbeats 4000000
namespace PySem.W
open PySem PySem.Spec PySem.Calls PyProof.Rows
theorem Sd:builtinKind "BaseException.__getattribute__" = some .slot:=by decide +kernel
theorem O5:splitId "BaseException.__getattribute__" = some ("BaseException","__getattribute__"):=by decide +kernel
section
variable {prog:Program} {w:World} {A:Around} {E:Value->Shared->Prop} {s:Shared} {K:Frag} {x D:Addr} {ox:Obj} {odo:Option Obj} {name:Str}
theorem KD {M:Model} {nameV:Value} {Q:Unit->Shared->Prop} (X:K.In s.heap) (I:InstAt s.heap x ox D odo) (hB:mroIn K D (.type "BaseException")=some true) (hq:Q () s):
 wpAny M A (checkBuiltinCall "BaseException.__getattribute__" ⟨[.ref x,nameV],[]⟩) Q E s:=by
 obtain ⟨hh,g,d,t,os⟩:=s;have L0:=I.type (M:=M);have L3:=looks_mroIn (M:=M) X hB;have ha:=F.args_bexc_ga (.ref x) nameV;simp only [checkBuiltinCall,Sd,O5];unfold isInstance
 repeat (first |lk|wp_step)
 all_goals first |exact hq|trace_state
theorem O_ {Q:Option Value->Shared->Prop} {gv a:Value} (X:K.In s.heap) (I:InstAt s.heap x ox D odo) (hga:findIn K (.ref D) "__getattribute__" = some (some (.builtin "BaseException.__getattribute__")))
 (hk:findIn K (.ref D) "__getattr__" = some none) (hB:mroIn K D (.type "BaseException")=some true) (hf:findObj K D odo name=some (.bind gv a))
 (FB:Slot "Exception" "__getattribute__" "BaseException.__getattribute__")
 (h:∀A',codeAny (model prog w) A' (.call gv ⟨[a,.ref x,.ref D],[]⟩) (fun r s'=>match r with | .ok (.ret v)=>wpAny (model prog w) A (handedOut v) (fun v s''=>Q (some v) s'') (fun _ _=>False) s'|_=>False) {s with toks:=s.toks+1}):
 wpAny (model prog w) A (getAttr? (.ref x) name) Q E s:=by
 obtain ⟨hh,g,d,t,os⟩:=s;have L0:=I.type (M:=model prog w);have L1:=looks_findIn (M:=model prog w) X hga;have L2:=looks_findIn (M:=model prog w) X hk;have L4:=looks_find (M:=model prog w) X I hf;have hx2:(Value.builtin "BaseException.__getattribute__" == Value.builtin "object.__getattribute__")=false:=by decide +kernel
 have f3:=FB.bind (.ref x);unfold getAttr? getAttrBy? getAttrBy;refine wpAny_bind (wpAny_mkText (wpAny_bind (wpAny_attempt (wpAny_holding (wpAny_bind (L0.at (wpAny_bind (L1.at ?_))))))));simp only [hx2,Bool.and_false,Bool.false_eq_true,if_false];unfold getAttrByItsOwn hookBefore;show wpAny _ _ (typeLookup (.ref D) "__getattr__" >>= _) _ _ _;refine wpAny_bind (L2.at ?_);refine wpAny_bind (wpAny_attempt (wpAny_holding ?_));unfold callGetattribute boundAndCalled;rw [if_neg (by decide)];refine wpAny_bind (wpAny_of_eq f3 ?_);refine wpAny_call (codeAny_call_builtin FB.plain F.entry_bexc_ga (KD (s:=⟨hh,g,d,t+1,os⟩) X I hB ?_));show wpAny _ _ (Builtin.«object.__getattribute__» ⟨[.ref x,.str name t],[]⟩) _ _ _;unfold Builtin.«object.__getattribute__»;refine wpAny_bind (wpAny_pure ?_);refine wpAny_bind (wpAny_pure ?_);refine wpAny_bind (L0.at (wpAny_bind (L4.at ?_)));show wpAny _ _ (Builtin.ObjectAttr.bindTo gv a (.ref x) (.ref D)) _ _ _;unfold Builtin.ObjectAttr.bindTo;show wpAny _ _ (holding [a] (call gv [a,.ref x,.ref D]) >>= fun v=>ret v) _ _ _;refine wpAny_bind (wpAny_holding (wpAny_call (codeAny_mono (h _) fun r s' hr=> ?_)))
 match r,hr with
 | .ok (.ret v),hr=>
   refine wpAny_pure ?_;exact wpAny_mono hr (fun v s'' q=>wpAny_pure q) fun _ _ z=>z.elim
end
theorem O9:Slot "Exception" "__getattribute__" "BaseException.__getattribute__" :=F.attr_Exception.ga
theorem yS {K:Frag} {C:Addr} {od:Option Obj} {name:Str} {a g:Value} (hc:(clsIn K C).isSome=true) (ha:findIn K (.ref C) name=some (some a)) (hg:specialIn K a "__get__" = some (some g)) (ht:takesIn K a=some true):findObj K C od name=some (.bind g a):=by
 obtain ⟨cd,hc⟩:=Option.isSome_iff_exists.mp hc;unfold findObj;rw [hc,Option.bind_some,ha,Option.bind_some];simp [hg,ht]
theorem KC {prog:Program} {w:World} {A:Around} {E:Value->Shared->Prop} {s:Shared} {K:Frag} {x D:Addr} {ox:Obj} {odo:Option Obj} {Q:Option Value->Shared->Prop} (X:K.In s.heap) (I:InstAt s.heap x ox D odo)
 (hga:findIn K (.ref D) "__getattribute__" = some (some (.builtin "BaseException.__getattribute__"))) (hk:findIn K (.ref D) "__getattr__" = some none) (hB:mroIn K D (.type "BaseException")=some true)
 (hc:(clsIn K D).isSome=true) (ha:findIn K (.ref D) "__class__" = some (some (.builtin "object.__class__")))
 (hn:specialIn K (.builtin "object.__class__") "__get__" = some (some (.builtin "getset_descriptor.__get__"))) (htk:takesIn K (.builtin "object.__class__")=some true) (hm:mroIn K D (.type "object")=some true)
 (h:Q (some (.ref D)) {s with toks:=s.toks+1}):wpAny (model prog w) A (getAttr? (.ref x) "__class__") Q E s:=by
 have hf:findObj K D odo "__class__" = some (.bind (.builtin "getset_descriptor.__get__") (.builtin "object.__class__")):=yS hc ha hn htk;exact O_ X I hga hk hB hf O9 fun A'=>class_get (s:={s with toks:=s.toks+1}) X I hm (handed_on rfl h)
structure Wr (K:Frag) (D:Addr):Prop where
 hga:findIn K (.ref D) "__getattribute__" = some (some (.builtin "BaseException.__getattribute__"))
 hk:findIn K (.ref D) "__getattr__" = some none
 hB:mroIn K D (.type "BaseException")=some true
 hc:(clsIn K D).isSome=true
 ha:findIn K (.ref D) "__class__" = some (some (.builtin "object.__class__"))
 hn:specialIn K (.builtin "object.__class__") "__get__" = some (some (.builtin "getset_descriptor.__get__"))
 htk:takesIn K (.builtin "object.__class__")=some true
 hm:mroIn K D (.type "object")=some true
theorem Oi {K:Frag} {x D:Addr} (c:Wr K D):KitX K (.ref x) (.ref D) (fun h=>∃ox odo,InstAt h x ox D odo) where
 ty:=fun _ _ _ ⟨_,_,I⟩=>I.type
 it:=fun _ _ X _=>by
  have hc:=c.hc;unfold clsIn at hc;split at hc
  ·rename_i c' d' cd' sl' ho
   intro A' Q' E' s' k q;unfold isType loadHead;exact wpAny_bind (wpAny_loadPart (k _ _ (X _ _ ho)) (wpAny_pure q))
  ·cases hc
 ne:=fun h tp dd its n sl X htp=>by
  have hc:=c.hc;refine Bool.eq_false_iff.mpr fun q=> ?_;have e:D=tp:=Value.ref.inj (beq_iff_eq.mp q);subst e;unfold clsIn at hc;split at hc
  ·rename_i c' d' cd' sl' ho
   have z:=(X _ _ ho).symm.trans htp;cases z
  ·cases hc
 ca:=fun X ⟨_,_,I⟩ k=>KC X I c.hga c.hk c.hB c.hc c.ha c.hn c.htk c.hm k
end PySem.W
set_option Elab.async false
set_option linter.all false
set_option maxRecDepth 100000
set_option maxHeartbeats 4000000
namespace L2
open PySem PySem.Spec PyProof.Rows
def uH (h:Heap) (e:Addr) (cls:Value) (dx:Option Addr) (lo:Addr->Prop):Option Value->Prop
 | none=>∃oe vs,h.get? e=some oe/\oe.cls=cls/\oe.dict=dx/\oe.data = .fields vs/\vs[1]? = some .none
 | some f=>∃oe vs T oT ts,h.get? e=some oe/\oe.cls=cls/\oe.dict=dx/\oe.data = .fields vs/\vs[1]? = some (.ref T)/\lo T/\T≠e/\h.get? T=some oT/\oT.data = .fields ts/\ts[3]? = some f
theorem uH.there {h:Heap} {e:Addr} {cls:Value} {dx:Option Addr} {lo:Addr->Prop} {f:Option Value} (x:uH h e cls dx lo f):∃oe vs,h.get? e=some oe/\oe.cls=cls/\oe.dict=dx/\oe.data = .fields vs:=by
 cases f with
 | none=>obtain ⟨oe,vs,a,b,c,d,_⟩:=x;exact ⟨oe,vs,a,b,c,d⟩
 | some f=>obtain ⟨oe,vs,_,_,_,a,b,c,d,_⟩:=x;exact ⟨oe,vs,a,b,c,d⟩
section
variable {M:Model} {A:Around} {E:Value->Shared->Prop} {s:Shared} {base:Heap} {env:Env} {outer:List Env} {L e:Addr}
structure oG (fr:List Addr) (e:Addr) (lo:Addr->Prop) (h h':Heap):Prop where
 keep:∀b o,h.get? b=some o->b∉fr->b≠e -> ¬lo b->h'.get? b=some o
 slot:∀b o,h.get? b=some o->b∈fr->b≠e -> ¬lo b -> ∃sl,h'.get? b=some {o with slots:=sl}
 there:∀b o,h.get? b=some o -> ∃o',h'.get? b=some o'
theorem oG.trans {fr:List Addr} {lo:Addr->Prop} {h h1 h2:Heap} (a:oG fr e lo h h1) (b:oG fr e lo h1 h2):oG fr e lo h h2 where
 keep:=fun c o q n1 n2 n3=>b.keep c o (a.keep c o q n1 n2 n3) n1 n2 n3
 slot:=fun c o q n1 n2 n3=>by
  obtain ⟨sl,q1⟩:=a.slot c o q n1 n2 n3;obtain ⟨sl2,q2⟩:=b.slot c _ q1 n1 n2 n3;exact ⟨sl2,q2⟩
 there:=fun c o q=>by
  obtain ⟨o1,q1⟩:=a.there c o q;exact b.there c o1 q1
theorem lZ {h:Heap} {a:Addr} {o:Obj} {vs:Array Value} (q:h.get? a=some o) (d:o.data = .fields vs) (i:Nat) (v:Value):
 (h.update a (Obj.mapFields (·.setIfInBounds i v))).get? a=some (Obj.mapFields (·.setIfInBounds i v) o)/\(Obj.mapFields (·.setIfInBounds i v) o).data = .fields (vs.setIfInBounds i v) /\
   (Obj.mapFields (·.setIfInBounds i v) o).cls=o.cls/\(Obj.mapFields (·.setIfInBounds i v) o).dict=o.dict:=by
 have d2:=Obj.data_mapFields d (·.setIfInBounds i v);refine ⟨Heap.get?_update_self _ q (Obj.isFreed_of_fields d2),d2,Obj.cls_mapFields _ _, ?_⟩;obtain ⟨c,dd,dt,sl⟩:=o;simp only at d;subst d;rfl
theorem Mj {oe:Obj} {vs:Array Value} {head:Value} {hadNext:Bool} {cls:Value} {dx:Option Addr} {lo:Addr->Prop} {Q:Unit->Shared->Prop} (hfr:A.frames=some (env::outer)) (hl:s.heap.FunFrames base (env::outer)) (hf:env.frame=some L)
 (he:s.heap.get? e=some oe) (hd:oe.data = .fields vs) (hsz:1<vs.size) (hc:oe.cls=cls) (hdx:oe.dict=dx) (hlo:∀T,s.heap.get? T=none->lo T)
 (h:∀h',oG (frs (env::outer)) e lo s.heap h'->uH h' e cls dx lo (some (rawInt L))->Q () {s with heap:=h'}):
 wpAny M A (do let a ←frameOf env;let pl ←entryPlaceOf L hadNext;let b ←EntryCells.newEntry head a .none (rawInt L) .none pl;setField (.ref e) 1 b) Q E s:=by
 have nfr:e∉frs (env::outer):=fun hm=>by
  obtain ⟨_,o,q,nf⟩:=hl.mem hm;rw [he] at q;cases q;exact nf vs hd
 refine wpAny_bind (wpAny_frameOf_fun hfr hl hf fun h1 hs1=> ?_);refine wpAny_bind (wpAny_entryPlaceOf fun pl hpl=> ?_);unfold EntryCells.newEntry newFields;refine wpAny_bind (wpAny_newObj_type ?_ (hpl.sizeOk5 _ _ _ _ _));generalize hob:({cls:= .type "traceback",dict:=none,data:= .fields ([head,.ref L,.none,rawInt L,.none]++(if pl.isEmpty then List.replicate 6 Value.none else pl)).toArray}:Obj)=ob;have q1:h1.get? e=some oe:=(hs1.2.1 e nfr).trans he;have q2:=Heap.get?_push_of_some (h:=h1) ob q1;have nTe:h1.objs.size≠e:=Nat.ne_of_gt (Heap.lt_size q1);have sizes:h1.objs.size=s.heap.objs.size:=hs1.1;have newT:s.heap.get? h1.objs.size=none:=Heap.get?_none_of_le (by rw [sizes];exact Nat.le_refl _);refine wpAny_setField q2 hd hsz (h _ ⟨fun b o q n1 n2 n3=> ?_,fun b o q n1 n2 n3=> ?_,fun b o q=> ?_⟩ ?_)
 ·rw [Heap.get?_update_other _ _ (Ne.symm n2)]
  exact Heap.get?_push_of_some _ ((hs1.2.1 b n1).trans q)
 ·obtain ⟨sl,q3⟩:=hs1.2.2 b o q
  refine ⟨sl, ?_⟩;rw [Heap.get?_update_other _ _ (Ne.symm n2)];exact Heap.get?_push_of_some _ q3
 ·obtain ⟨sl,q3⟩:=hs1.2.2 b o q
  by_cases hb:b=e
  ·subst hb
   exact ⟨_,(lZ q2 hd 1 _).1⟩
  ·refine ⟨{o with slots:=sl}, ?_⟩
   rw [Heap.get?_update_other _ _ (Ne.symm hb)];exact Heap.get?_push_of_some _ q3
 ·obtain ⟨u1,u2,u3,u4⟩:=lZ q2 hd 1 (Value.ref h1.objs.size)
  refine ⟨_,_,h1.objs.size,ob,_,u1,u3.trans hc,u4.trans hdx,u2,by simp [hsz],hlo _ newT,nTe, ?_,by rw [←hob], ?_⟩
  ·rw [Heap.get?_update_other _ _ (Ne.symm nTe)]
   exact Heap.get?_push_size _ (by rw [←hob];rfl)
  ·first |(simp;done)|(rcases hpl with rfl|⟨_,_,_,_,_,_,_,rfl⟩<;>simp)
theorem Tw {cls:Value} {dx:Option Addr} {lo:Addr->Prop} {Q:Unit->Shared->Prop} {fl:Option Value} (hfl:fl=none\/fl=some .none) (hfr:A.frames=some (env::outer)) (hl:s.heap.FunFrames base (env::outer)) (hf:env.frame=some L)
 (x:uH s.heap e cls dx lo fl) (hlo:∀T,s.heap.get? T=none->lo T)
 (h:∀h',oG (frs (env::outer)) e lo s.heap h'->uH h' e cls dx lo (some (rawInt L))->Q () {s with heap:=h'}):wpAny M A (noteFrame (.ref e) env) Q E s:=by
 unfold noteFrame;simp only [hf];rcases hfl with rfl|rfl
 ·obtain ⟨oe,vs,he,hc,hdx,hd,h1⟩:=x
  refine wpAny_bind (wpAny_field he hd h1 ?_);rw [if_neg (by decide)];exact Mj hfr hl hf he hd (Array.getElem?_eq_some_iff.mp h1).1 hc hdx hlo h
 ·obtain ⟨oe,vs,T,oT,ts,he,hc,hdx,hd,h1,hT,nT,Qw,hdT,h3⟩:=x
  refine wpAny_bind (wpAny_field he hd h1 ?_);rw [if_pos (show (Value.ref T != Value.none)=true from by simp)];refine wpAny_bind (wpAny_field Qw hdT h3 ?_);rw [if_neg (show ¬((Value.none==rawInt L)=true) from by simp [rawInt])];have hs3:3<ts.size:=(Array.getElem?_eq_some_iff.mp h3).1;refine wpAny_bind (wpAny_setField Qw hdT hs3 ?_);have oth:∀b,b≠T->(s.heap.update T (Obj.mapFields (·.setIfInBounds 3 Value.none))).get? b=s.heap.get? b:=fun b hb=>Heap.get?_update_other _ _ (Ne.symm hb);obtain ⟨u1,u2,u3,u4⟩:=lZ Qw hdT 3 Value.none
  have n0:oG (frs (env::outer)) e lo s.heap (s.heap.update T (Obj.mapFields (·.setIfInBounds 3 Value.none))):=by
   have nb:∀b,¬lo b->b≠T:=fun b hb z=>hb (by rw [z];exact hT);refine ⟨fun b o q _ _ n3=>(oth b (nb b n3)).trans q,fun b o q _ _ n3=>⟨o.slots,(oth b (nb b n3)).trans q⟩,fun b o q=> ?_⟩
   by_cases hb:b=T
   ·subst hb;exact ⟨_,u1⟩
   ·exact ⟨o,(oth b hb).trans q⟩
  have ffs:(s.heap.update T (Obj.mapFields (·.setIfInBounds 3 Value.none))).FunFrames base (env::outer):=hl.of_keeps fun b o q nf=>by
   by_cases hb:b=T
   ·subst hb;rw [Qw] at q;cases q;exact absurd hdT (nf ts)
   ·exact ⟨o,(oth b hb).trans q,rfl⟩
  refine Mj (s:={s with heap:=s.heap.update T (Obj.mapFields (·.setIfInBounds 3 Value.none))}) hfr ffs hf ((oth e (Ne.symm nT)).trans he) hd (Array.getElem?_eq_some_iff.mp h1).1 hc hdx (fun T' z=> ?_) fun h' n1 x1=>h h' (n0.trans n1) x1
  by_cases hb:T'=T
  ·rw [hb];exact hT
  ·exact hlo T' ((oth T' hb).symm.trans z)
theorem Mi {cls:Value} {dx:Option Addr} {lo:Addr->Prop} {Q:Unit->Shared->Prop} {fr:List Addr} {f:Value} (x:uH s.heap e cls dx lo (some f))
 (h:∀h',oG fr e lo s.heap h'->uH h' e cls dx lo (some .none)->Q () {s with heap:=h'}):wpAny M A (setFlight (.ref e) none) Q E s:=by
 obtain ⟨oe,vs,T,oT,ts,he,hc,hdx,hd,h1,hT,nT,Qw,hdT,h3⟩:=x;have hs3:3<ts.size:=(Array.getElem?_eq_some_iff.mp h3).1;unfold setFlight;refine wpAny_bind (wpAny_field he hd h1 ?_);rw [if_pos (show (Value.ref T != Value.none)=true from by simp)];have oth:∀b,b≠T->(s.heap.update T (Obj.mapFields (·.setIfInBounds 3 Value.none))).get? b=s.heap.get? b:=fun b hb=>Heap.get?_update_other _ _ (Ne.symm hb);obtain ⟨u1,u2,u3,u4⟩:=lZ Qw hdT 3 Value.none;have nb:∀b,¬lo b->b≠T:=fun b hb z=>hb (by rw [z];exact hT);refine wpAny_setField Qw hdT hs3 (h _ ⟨fun b o q _ _ n3=>(oth b (nb b n3)).trans q,fun b o q _ _ n3=>⟨o.slots,(oth b (nb b n3)).trans q⟩,fun b o q=> ?_⟩ ?_)
 ·by_cases hb:b=T
  ·subst hb;exact ⟨_,u1⟩
  ·exact ⟨o,(oth b hb).trans q⟩
 ·exact ⟨oe,vs,T,_,_,(oth e (Ne.symm nT)).trans he,hc,hdx,hd,h1,hT,nT,u1,u2,by simp [hs3]⟩
end
section
variable {X:Cx} {pins:List (Addr×Obj)} {σ:St} {H:Hp} {s:Shared} {e:Addr}
theorem cM.there {P:Program} {w:World} {H:Hp} {h:Heap} {a:Addr} {o:HO} (x:cM P w H h a o):∃ob,h.get? a=some ob:=by
 induction o with
 | lst xs=>obtain ⟨_,_,_,_,q⟩:=x;exact ⟨_,q⟩
 | tup xs=>obtain ⟨_,_,_,ob,q,_⟩:=x;exact ⟨ob,q⟩
 | dK kvs=>obtain ⟨_,_,_,_,ob,_,_,q,_⟩:=x;exact ⟨ob,q⟩
 | dT kvs=>obtain ⟨_,_,_,_,ob,_,_,q,_⟩:=x;exact ⟨ob,q⟩
 | set S n=>obtain ⟨ob,_,_,_,q,_⟩:=x;exact ⟨ob,q⟩
 | ins C dx fs=>obtain ⟨_,_,_,q,_⟩:=x;exact ⟨_,q⟩
 | own y=>exact x
 | xd fs=>obtain ⟨_,⟨ob,_,_,q,_⟩,_⟩:=x;exact ⟨ob,q⟩
 | rng lo hi=>obtain ⟨_,_,_,q⟩:=x;exact ⟨_,q⟩
 | m6 ob u ih=>exact ⟨ob,x.1⟩
 | QF ps=>exact ⟨_,x⟩
 | met f y=>exact ⟨_,x⟩
 | ext φ=>exact x.2.1
def Bg (X:Cx) (pins:List (Addr×Obj)) (H:Hp) (b:Addr):Prop:=
 H b=none/\b≠X.env.locals/\b∉X.fs/\X.s₀.heap.get? b=none/\(∀x c,X.env.cells.lookup x=some c->c≠b) /\ ∀p∈X.pn++pins,p.1≠b
theorem Inv.xfp (I:Inv X pins σ H s) (hx:X.ex=[]) {b:Addr} (hb:s.heap.get? b=none):Bg X pins H b:=by
 refine ⟨?_,fun z=> ?_,fun z=> ?_, ?_,fun x c q z=> ?_,fun p hp z=> ?_⟩
 ·cases q:H b with
  | none=>rfl
  | some o=>
    obtain ⟨ob,r⟩:=(I.hok b o q).there;rw [hb] at r;cases r
 ·obtain ⟨m,⟨o,_,_,r,_⟩,_⟩:=I.loc
  rw [←z,hb] at r;cases r
 ·obtain ⟨_,o,r,_⟩:=I.m5.mem z
  rw [hb] at r;cases r
 ·cases q:X.s₀.heap.get? b with
  | none=>rfl
  | some o=>
    obtain ⟨o',r⟩:=I.base.there b o q (by rw [hx];simp);rw [hb] at r;cases r
 ·obtain ⟨v,o,r,_⟩:=I.cell x c q
  rw [z,hb] at r;cases r
 ·obtain ⟨r,_⟩:=I.pin p hp
  rw [z,hb] at r;cases r
theorem Inv.noted {lo:Addr->Prop} {h':Heap} (I:Inv X pins σ H s) (n:oG (frs X.stack) e lo s.heap h') (hlo:∀b,(b=e\/lo b)->Bg X pins H b\/s.heap.get? b=none):Inv X pins σ H {s with heap:=h'}:=by
 have off:∀b o,s.heap.get? b=some o->(¬Bg X pins H b)->b≠e /\ ¬lo b:=fun b o q nx=>
  ⟨fun z=>(hlo b (.inl z)).elim nx fun r=>(by rw [r] at q;cases q),fun z=>(hlo b (.inr z)).elim nx fun r=>(by rw [r] at q;cases q)⟩
 have any:∀b o,s.heap.get? b=some o->(¬Bg X pins H b) -> ∃sl,h'.get? b=some {o with slots:=sl}:=fun b o q nx=>by
  obtain ⟨n1,n2⟩:=off b o q nx
  by_cases hb:b∈frs X.stack
  ·exact n.slot b o q hb n1 n2
  ·exact ⟨o.slots,n.keep b o q hb n1 n2⟩
 have s0:∀b o,X.s₀.heap.get? b=some o -> ¬Bg X pins H b:=fun b o q x=>by rw [x.2.2.2.1] at q;cases q
 have Uc:∀b o,X.s₀.heap.get? b=some o->b≠X.env.locals:=fun b o q=>Nat.ne_of_lt (Nat.lt_of_lt_of_le (Heap.lt_size q) I.ok.above);have nst:∀b,b≠X.env.locals->b∉X.fs->b∉frs X.stack:=fun b n1 n2 z=>(List.mem_cons.mp (I.qD b z)).elim n1 n2;have Qp:∀b o,H b=some o -> ¬Bg X pins H b:=fun b o q x=>by rw [x.1] at q;cases q
 have Xe:∀b o,H b=some o->b∉frs X.stack:=fun b o q z=>by rw [I.vA b z] at q;cases q
 have cl:∀x c,X.env.cells.lookup x=some c -> ∀v,s.heap.IsCell c v->h'.IsCell c v:=fun x c q v ⟨o,ho,hd⟩=>by
  obtain ⟨sl,r⟩:=any c o ho fun z=>z.2.2.2.2.1 x c q rfl;exact ⟨_,r,hd⟩
 refine ⟨I.ok,I.os,I.bare,⟨fun b o q nn hb hx=> ?_,fun b o q nn hb hx=> ?_,I.base.free,fun b o q hx=> ?_,I.base.tups,I.base.pH,I.base.rB⟩, ?_,fun x c q=> ?_,I.free,I.gO,fun p hp=> ?_,fun a o q=> ?_,I.len⟩
 ·have q1:=I.base.keep b o q nn hb hx
  obtain ⟨n1,n2⟩:=off b o q1 (s0 b o q);exact n.keep b o q1 (nst b (Uc b o q) hb) n1 n2
 ·obtain ⟨sl,q1⟩:=I.base.slot b o q nn hb hx
  obtain ⟨sl2,q2⟩:=any b _ q1 (s0 b o q);exact ⟨sl2,q2⟩
 ·obtain ⟨o1,q1⟩:=I.base.there b o q hx
  exact n.there b o1 q1
 ·obtain ⟨m,⟨ob,es,ep,ho,r⟩,hl⟩:=I.loc
  obtain ⟨sl,q1⟩:=any _ ob ho fun z=>z.2.1 rfl;refine ⟨m,⟨_,es,ep,q1,r⟩,fun i x v e1 e2 e3=> ?_⟩;obtain ⟨u,ru,l⟩:=hl i x v e1 e2 e3;refine ⟨u,ru, ?_⟩;rcases l with l|⟨k,c,hc,z⟩
  ·exact .inl l
  ·exact .inr ⟨k,c,hc,cl x c hc _ z⟩
 ·obtain ⟨v,z⟩:=I.cell x c q
  exact ⟨v,cl x c q v z⟩
 ·obtain ⟨q,nn,n1,n2,d⟩:=I.pin p hp
  obtain ⟨m1,m2⟩:=off p.1 p.2 q fun z=>z.2.2.2.2.2 p hp rfl;exact ⟨n.keep p.1 p.2 q (nst p.1 n1 n2) m1 m2,nn,n1,n2,d⟩
 ·refine (I.hok a o q).stay (fun b u hb r=> ?_) (fun _ z=>z) fun _ _ z=>z
  rcases hb with rfl|hb
  ·obtain ⟨m1,m2⟩:=off b u r (Qp b o q)
   exact n.keep b u r (Xe b o q) m1 m2
  ·obtain ⟨m1,m2⟩:=off b u r (Qp b _ hb)
   exact n.keep b u r (Xe b _ hb) m1 m2
def yG (P:Program) (w:World):Ly:=fun outer H s E ev s'=>∃(e:Addr) (cls:Value) (dx:Option Addr) (H':Hp),ev = .ref e/\s'.os=s.os/\AllBare s'.gens/\Un (frs outer) [] H H' s.heap s'.heap/\qU P w H' s'.heap /\
 s.heap.get? e=none/\H' e=none/\uH s'.heap e cls dx (fun T=>s.heap.get? T=none/\H' T=none) (some .none)/\E cls dx H'
def Rz (X:Cx) (E:St->XK):Prop:=∀(pins:List (Addr×Obj)) (σ:St) (H:Hp) (s:Shared) (e:Addr) (cls:Value) (dx:Option Addr) (fl:Option Value),(fl=none\/fl=some .none)->Inv X pins σ H s->Bg X pins H e ->
 uH s.heap e cls dx (Bg X pins H) fl->E σ cls dx H->X.xe (.ref e) s
theorem uH.imp {h:Heap} {e:Addr} {cls:Value} {dx:Option Addr} {lo lo':Addr->Prop} {f:Option Value} (x:uH h e cls dx lo f) (k:∀T,(∃o,h.get? T=some o)->lo T->lo' T):uH h e cls dx lo' f:=by
 cases f with
 | none=>exact x
 | some f=>
   obtain ⟨oe,vs,T,oT,ts,he,hc,hdx,hd,h1,hT,nT,Qw,r⟩:=x;exact ⟨oe,vs,T,oT,ts,he,hc,hdx,hd,h1,k T ⟨oT,Qw⟩ hT,nT,Qw,r⟩
theorem Aa {E:St->XK} {σ:St} (hx:X.ex=[]) (R:Rz X E) {pins:List (Addr×Obj)} {H:Hp} {s s':Shared} {ev:Value} (I:Inv X pins σ H s) (c:yG X.prog X.w X.stack H s (E σ) ev s'):X.xe ev s':=by
 obtain ⟨e,cls,dx,H',rfl,ho,hg,u,hok,ne,he,x,q⟩:=c;have I':Inv X pins σ H' s':=I.call' (ch:=[]) ho u hok hg (fun b hb=>by cases hb)
 have fp:∀T,s.heap.get? T=none->H' T=none->Bg X pins H' T:=fun T h1 h2=>by
  obtain ⟨_,a2,a3,a4,a5,a6⟩:=I.xfp hx h1;exact ⟨h2,a2,a3,a4,a5,a6⟩
 exact R pins σ H' s' e cls dx _ (.inr rfl) I' (fp e ne he) (x.imp fun T _ z=>fp T z.1 z.2) q
theorem MK {P:Program} {w:World} {K:PySem.W.Frag} {mg:Str->Option Value} {base:Heap} {N:List Str} {qual:Str} {scope:Scope} {f:Addr} {cd:Value} {A:Around} {outer:List Env} {s:Shared} {H:Hp} {E:XK}:
 Rz (pI (yG P w) P w K mg base N qual scope f cd A outer s H E) (fun _=>E):=by
 intro pins σ H1 s1 e cls dx fl hfl I fe x q;show wpAny (model P w) _ (leaving _ (.ref e)) _ _ s1;unfold leaving;have lo1:∀b,(b=e\/(Bg (pI (yG P w) P w K mg base N qual scope f cd A outer s H E) pins H1 b\/s1.heap.get? b=none))->Bg (pI (yG P w) P w K mg base N qual scope f cd A outer s H E) pins H1 b\/s1.heap.get? b=none:=fun b z=>z.elim (fun z=> .inl (by rw [z];exact fe)) fun z=>z;have stk:(pI (yG P w) P w K mg base N qual scope f cd A outer s H E).A.frames=some ((pI (yG P w) P w K mg base N qual scope f cd A outer s H E).env::outer):=I.ok.frames;refine wpAny_bind (Tw (base:=base) (lo:=fun T=>Bg (pI (yG P w) P w K mg base N qual scope f cd A outer s H E) pins H1 T\/s1.heap.get? T=none) hfl stk I.stack rfl (x.imp fun T _ z=> .inl z) (fun T z=> .inr z) fun h1 n1 x1=> ?_);refine Mi (fr:=frs ((pI (yG P w) P w K mg base N qual scope f cd A outer s H E).env::outer)) x1 fun h2 n2 x2=> ?_;have I2:Inv (pI (yG P w) P w K mg base N qual scope f cd A outer s H E) pins σ H1 {s1 with heap:=h2}:=I.noted (n1.trans n2) lo1;refine ⟨e,cls,dx,H1,rfl,I2.os,I2.bare,I2.base,I2.hok,fe.2.2.2.1,fe.1,x2.imp fun T _ z=> ?_,q⟩;rcases z with z|z
 ·exact ⟨z.2.2.2.1,z.1⟩
 ·have y:=I.xfp rfl z
  exact ⟨y.2.2.2.1,y.1⟩
end
end L2
set_option Elab.async false
set_option linter.all false
set_option maxRecDepth 100000
set_option maxHeartbeats 4000000
namespace L2
open PySem PySem.Spec PyProof.Rows
def Jv (P:Program) (w:World) (K:PySem.W.Frag) (mg:Str->Option Value) (base:Heap) (k:Nat) (x:Str) (ps:List Str) (sp:Sp):Prop:=
 ∃f fd,cu P w K mg base (yG P w) k f fd ps sp/\mg x=some (.ref f)/\PySem.W.keepIn K (.ref f)=true/\Binds K fd ps []
def U6 (sp:Sp) (E:St->XK) (t:TA):TE:=fun σ H Q=>t σ H fun vs H1=>sp vs H1 Q (E σ)
section
variable {X:Cx} {k:Nat} {x:Str} {ps:List Str} {sp:Sp} {e:Expr} {es:List Expr} {t:TA} {p pos:Pos} {E:St->XK}
theorem Ge (F:Jv X.prog X.w X.K X.mg X.base k x ps sp) (hx:X.ex=[]) (R:Rz X E) (hr:dg k X.A) (hg:Gl X x) (ha:PA X (e::es) t) (hd:(x==("__debug__" :Str))=false:=by decide)
 (he:starEach (e::es) X.env=(false,eval e X.env)::starEach es X.env:=by rfl) (hpl:(backTo pos (starEach es X.env)).any (·.1)=false:=by rfl):
 PE X (.Call (.Name x p) (e::es) [] pos) (U6 sp E t):=by
 obtain ⟨f,fd,G,hm,hk,hb⟩:=F;intro pins s σ H Q I h;refine wpAny_Call_Name_kw (mH I hg hm ?_ hd);refine PySem.W.callWith_K (h₀:=X.base) I.ok.mod.Ol hk (cP (ha pos pins s σ H _ I h) fun us s1 ⟨vs,H1,I1,r,q⟩=>⟨I1.lF, ?_⟩) he hpl;have hlen:us.length=ps.length:=by rw [←r.length];exact G.len _ _ _ _ q
 have hbd:=hb s1 us I1.lF (by rw [List.append_nil];exact hlen);rw [List.append_nil] at hbd;refine wpAny_call (codeAny_mono (G.run X.A X.stack s1 H1 ⟨us,[]⟩ us vs Q (E σ) hr I1.env0 hbd r q) fun res s' hq=> ?_)
 match res,hq with
 | .error ev,hq=>exact Aa hx R I1 hq
 | .ok (.ret u),hq=>exact I1.after hq
end
section
variable {P:Program} {w:World} {K:PySem.W.Frag} {mg:Str->Option Value} {base:Heap}
theorem jZ.okX {x qual:Str} {st:Stmt} {f:Addr} {fd:FuncData} {N ps:List Str} {k:Nat} {sp:Sp} (F:jZ K x qual st f fd) (S:aY N ps (aA st)) (len:∀vs H Q E,sp vs H Q E->vs.length=ps.length)
 (hbody:∀(cdv:Value) (A:Around) (outer:List Env) (s:Shared) (H:Hp) (vs:List V) (Q:VK) (E:XK),dg k (A.deeper (envOfC qual (aA st) s.heap.objs.size f cdv))->sp vs H Q E ->
   Rz (pI (yG P w) P w K mg base N qual (aA st) f cdv A outer s H E) (fun _=>E) ->
   ∃t,Ht (pI (yG P w) P w K mg base N qual (aA st) f cdv A outer s H E) (aJ st) t/\t {nx:=fun _ H'=>Q .non H',rt:=Q} (start N vs) H):cu P w K mg base (yG P w) (k+1) f fd ps sp:=by
 obtain ⟨oc,od,kV,doc,pm,an,cdv,ct,osl,rfl,lk,hcd⟩:=F.ex;exact Uo lk hcd S len fun A outer s H vs Q E hr hsp=>hbody cdv A outer s H vs Q E hr hsp MK
end
theorem Sq {K:PySem.W.Frag} {h:Heap} {C:Addr} {bmB:List Value} {newId:String} (X:K.In h) (q:PySem.W.excIn K C bmB newId=true):
 ∃bm N nm qn bs hdct sn sub ab col dd k0 k1 k2 k3 k5 mN,h.get? C=some (excClassObj nm qn C N bs bm hdct sn sub ab col dd k0 k1 k2 k3 k5 newId)/\h.Ns N mN/\mN "__init__" = none/\OwnTail h bmB bm:=by
 unfold PySem.W.excIn at q;split at q
 ·rename_i d0 c0 s0 lk
  split at q
  ·rename_i C1 tl a0 a1 a2 a3 nn a5 em es
   simp only [Bool.and_eq_true,beq_iff_eq,Bool.not_eq_true'] at q;obtain ⟨⟨⟨⟨⟨e1,e2⟩,e3⟩,e4⟩,e5⟩,e6⟩:=q;subst e1 e2;obtain ⟨f1,f2,f3,f4,f5,f6,f7,f8,f9,YW,f11⟩:=c0;dsimp only at em e3 e5 e6;subst em e3
   have ez:s0 = #[a0,a1,a2,a3,some (.builtin nn),a5]:=by
    obtain ⟨l⟩:=s0;simp only at es;rw [es]
   subst ez;exact ⟨tl,f4,_,_,_,_,_,_,_,_,_,_,_,_,_,_,_,X _ _ lk,.of_isNs (PySem.W.isNs_of_in X e5),PySem.W.nsMap_none_of_in X e5 e6,PySem.W.tail_of_in X e4⟩
  ·cases q
 ·cases q
def UW (cls:Value) (E:St->XK) (ta:TA):TS:=fun _ σ H=>ta σ H fun vs H1=>vs.length<=sizeLine/\E σ cls none H1
section
variable {X:Cx} {E:St->XK} {x:Str} {C:Addr} {B newId initId:String} {bmB:List Value} {e0:Expr} {rest:List Expr} {ta:TA} {np cpos pos:Pos}
theorem Cg (FB:ExcBaseFacts B newId initId bmB) (q:PySem.W.excIn X.K C bmB newId=true) (hm:X.mg x=some (.ref C)) (hg:Gl X x) (hc:X.calm=true) (hx:X.ex=[]) (R:Rz X E) (ha:PA X (e0::rest) ta)
 (he:starEach (e0::rest) X.env=(false,eval e0 X.env)::starEach rest X.env:=by rfl) (hplain:(backTo cpos (starEach rest X.env)).any (·.1)=false:=by rfl) (hd:(x==("__debug__" :Str))=false:=by decide):
 PS X (.Raise (some (.Call (.Name x np) (e0::rest) [] cpos)) none pos) (UW (.ref C) E ta):=by
 intro pins s σ H D I h;obtain ⟨bm,N,nm,qn,bs,hdct,sn,sub,ab,col,dd,k0,k1,k2,k3,k5,mN,hC,hN,hni,T⟩:=Sq I.ok.mod.Ol q
 refine wpAny_Raise_call_subT (k5:=k5) (k3:=k3) (k2:=k2) (k1:=k1) (k0:=k0) (dd:=dd) (col:=col) (ab:=ab) (sub:=sub) (sn:=sn) (hdct:=hdct) (bs:=bs) (q:=qn) (nm:=nm)
  (C:=C) (N:=N) (bm:=bm) (mN:=mN) FB (T.hasType FB.hasBase) (I.ok.hd hc) (by rw [he];show (false||(backTo cpos (starEach rest X.env)).any (·.1))=false;rw [hplain];rfl) hni (mH I hg hm ⟨rfl, ?_⟩ hd)
 have h2:=ha cpos pins s σ H _ I h;rw [he] at h2 ⊢;refine Calls.evalArgs_plain (cP h2 fun us s1 ⟨vs,H1,I1,r,hl,hE⟩=>⟨rfl,by rw [←r.length];exact hl,I1.bk _ _ hC,hN.keeps I1.bk,T.keeps I1.bk,fun h' e mk=> ?_⟩);obtain ⟨t,ht,_,_⟩:=mk.there;have I2:Inv X pins σ H1 {s1 with heap:=h'}:=I1.kept (t':=s1.toks) mk.keeps;exact R pins σ H1 _ e (.ref C) none none (.inl rfl) I2 (I1.xfp hx mk.new) ⟨_,_,ht,rfl,rfl,rfl,rfl⟩ hE
end
def XO (C:Addr) (dx:Option Addr) (e:Addr):HO:= .ext fun h=>∃oe vs,h.get? e=some oe/\oe.cls = .ref C/\oe.dict=dx/\oe.data = .fields vs
def Aw (X:Cx) (e:Addr):Cx:={X with A:=X.A.mark (some (.ref e)),calm:=false,xe:=fun _ _=>False}
def xT (X:Cx) (pins:List (Addr×Obj)) (xe:Value->Shared->Prop):Cx:={X with pn:=X.pn++pins,xe:=xe}
section
variable {X:Cx} {pins:List (Addr×Obj)} {σ:St} {H:Hp} {s:Shared}
theorem Inv.Xf (I:Inv X pins σ H s) (xe:Value->Shared->Prop):Inv (xT X pins xe) [] σ H s:=
 ⟨⟨I.ok.mod,I.ok.kind,I.ok.glob,I.ok.blt,I.ok.above,I.ok.inj,I.ok.has,I.ok.cab,I.ok.hd,I.ok.frames,I.ok.stk,I.ok.W_,I.ok.bs,I.ok.Eb,I.ok.yN,I.ok.DG,I.ok.m5,I.ok.Lr⟩,I.os,I.bare,I.base,I.loc,I.cell,I.free,I.gO,
   fun p hp=>I.pin p (by rw [List.append_nil] at hp;exact hp),I.hok,I.len⟩
theorem Inv.zu {xe:Value->Shared->Prop} {j6:List (Addr×Obj)} (I:Inv (xT X pins xe) j6 σ H s):Inv X pins σ H s:=
 ⟨⟨I.ok.mod,I.ok.kind,I.ok.glob,I.ok.blt,I.ok.above,I.ok.inj,I.ok.has,I.ok.cab,I.ok.hd,I.ok.frames,I.ok.stk,I.ok.W_,I.ok.bs,I.ok.Eb,I.ok.yN,I.ok.DG,I.ok.m5,I.ok.Lr⟩,I.os,I.bare,I.base,I.loc,I.cell,I.free,I.gO,
   fun p hp=>I.pin p (List.mem_append_left _ hp),I.hok,I.len⟩
theorem Inv.Mt (I:Inv X pins σ H s) (e:Addr):Inv (Aw X e) pins σ H s:=
 ⟨⟨I.ok.mod,I.ok.kind,I.ok.glob,I.ok.blt,I.ok.above,I.ok.inj,I.ok.has,I.ok.cab,fun z=>(by cases z),I.ok.frames,I.ok.stk,I.ok.W_,I.ok.bs,I.ok.Eb,I.ok.yN,I.ok.DG,I.ok.m5,I.ok.Lr⟩,I.os,I.bare,I.base,I.loc,I.cell,I.free,I.gO,
   I.pin,I.hok,I.len⟩
theorem Inv.Ac {e:Addr} (I:Inv (Aw X e) pins σ H s) (hd:X.calm=true->X.A.handled=none):Inv X pins σ H s:=
 ⟨⟨I.ok.mod,I.ok.kind,I.ok.glob,I.ok.blt,I.ok.above,I.ok.inj,I.ok.has,I.ok.cab,hd,I.ok.frames,I.ok.stk,I.ok.W_,I.ok.bs,I.ok.Eb,I.ok.yN,I.ok.DG,I.ok.m5,I.ok.Lr⟩,I.os,I.bare,I.base,I.loc,I.cell,I.free,I.gO,
   I.pin,I.hok,I.len⟩
theorem Inv.track {e C:Addr} {dx:Option Addr} {lo:Addr->Prop} {fl:Option Value} (I:Inv X pins σ H s) (hx:X.ex=[]) (fe:Bg X pins H e) (x:uH s.heap e (.ref C) dx lo fl):Inv X pins σ (upd H e (XO C dx e)) s:=by
 obtain ⟨f1,f2,f3,f4,f5,f6⟩:=fe;obtain ⟨oe,vs,q,hc,hdx,hd⟩:=x.there;have ne:∀b o,H b=some o->b≠e:=fun b o r=>aB r f1;refine ⟨I.ok,I.os,I.bare,⟨I.base.keep,I.base.slot,fun b o r n hh=> ?_,I.base.there,fun b xs r=> ?_,fun b o u r=> ?_,fun b ps r=> ?_⟩,I.loc,I.cell, ?_,fun y c r=> ?_,fun p hp=> ?_,fun a o r=> ?_,I.len⟩
 ·rw [aN (fun z=>by rw [z,f4] at r;cases r)]
  exact I.base.free b o r n hh
 ·have r2:=I.base.tups b xs r
  rw [aN (ne b _ r2)];exact r2
 ·have r2:=I.base.pH b o u r
  rw [aN (ne b _ r2)];exact r2
 ·obtain ⟨m,r2⟩:=I.base.rB b ps r
  exact ⟨m,by rw [aN (ne b _ r2)];exact r2⟩
 ·rw [aN (Ne.symm f2)];exact I.free
 ·rw [aN (f5 y c r)];exact I.gO y c r
 ·obtain ⟨a1,a2,a3⟩:=I.pin p hp
  exact ⟨a1,by rw [aN (f6 p hp)];exact a2,a3⟩
 ·by_cases ha:a=e
  ·subst ha
   rw [aq] at r;cases r;exact ⟨⟨oe,vs,q,hc,hdx,hd⟩,⟨oe,q⟩,fun h1 h2 ⟨o1,v1,p1,p2⟩ k=>⟨o1,v1,k _ p1,p2⟩⟩
  ·rw [aN ha] at r
   refine (I.hok a o r).stay (fun _ _ _ z=>z) (fun b z=>by rw [aN (ne b _ z)];exact z) fun b ys z=>by rw [aN (ne b _ z)];exact z
end
section
variable {M:Model} {A:Around} {Er:Value->Shared->Prop} {s:Shared} {K:PySem.W.Frag} {e C D:Addr}
theorem Df {oe:Obj} {b:Bool} {Q:Bool->Shared->Prop} (X:K.In s.heap) (he:s.heap.get? e=some oe) (hc:oe.cls = .ref C) (hD:(PySem.W.clsIn K D).isSome=true) (hty:PySem.W.typeIn K (.ref D)=some (.type "type"))
 (hB:PySem.W.subIn K (.ref D) (.type "BaseException")=some true) (hs:PySem.W.subIn K (.ref C) (.ref D)=some b) (hq:Q b s):wpAny M A (excMatches (.ref e) (.ref D)) Q Er s:=by
 obtain ⟨hh,g,d,t,os⟩:=s;have L1:PySem.W.Looks M hh (typeOf (.ref D)) (.type "type"):=PySem.W.looks_typeIn X hty;have L2:PySem.W.Looks M hh (isSubtype (.ref D) (.type "BaseException")) true:=PySem.W.looks_subIn X hB;have L3:PySem.W.Looks M hh (isSubtype (.ref C) (.ref D)) b:=PySem.W.looks_subIn X hs
 have L4:PySem.W.Looks M hh (isType (.ref D)) true:=by
  unfold PySem.W.clsIn at hD;split at hD
  ·rename_i c' d' cd' sl' ho
   intro A' Q' E' s' k q;unfold isType loadHead;exact wpAny_bind (wpAny_loadPart (k _ _ (X _ _ ho)) (wpAny_pure q))
  ·cases hD
 have f:=tc_notTuple;unfold excMatches isExcClass isInstance;refine wpAny_bind (wpAny_bind (L1.at ?_));refine wpAny_of_eq f ?_;rw [if_neg (by decide)];refine wpAny_bind (wpAny_pure ?_);simp only [List.forIn_cons,List.forIn_nil];refine wpAny_bind (wpAny_bind (wpAny_bind (wpAny_bind (L4.at ?_))));rw [if_pos rfl];refine L2.at ?_;simp only [Bool.not_true,Bool.false_eq_true,if_false];refine wpAny_pure (wpAny_pure ?_)
 have L0:PySem.W.Looks M hh (typeOf (.ref e)) (.ref C):=by
  intro A' Q' E' s' k q;unfold typeOf;refine wpAny_bind (wpAny_loadPart (k _ _ he) ?_);rw [hc];exact wpAny_pure q
 refine wpAny_bind (L0.at ?_);refine wpAny_bind (wpAny_bind (wpAny_bind (L3.at ?_)));cases b with
 | true=>exact wpAny_pure (wpAny_pure (wpAny_pure hq))
 | false=>exact wpAny_pure (wpAny_pure (wpAny_pure hq))
end
end L2
set_option Elab.async false
set_option linter.all false
set_option maxRecDepth 100000
set_option maxHeartbeats 4000000
namespace L2
open PySem PySem.Spec PyProof.Rows
section
variable {X:Cx} {pins:List (Addr×Obj)} {σ:St} {H:Hp} {s:Shared}
theorem Inv.gone {i:Nat} {n:Str} {m:Str->Option Value} {v:Option Value} {h':Heap} {t:Nat} (I:Inv X pins σ H s) (hN:X.N.Nodup) (hi:X.N[i]? = some n)
 (hm:∀(j:Nat) (x:Str) (u:V),X.N[j]? = some x->σ[j]? = some (some u)->Vis X.env.scope x -> ∃w',RelV u w'/\Look X.env s.heap m x w')
 (hn:h'.Ns X.env.locals (fun x=>if x=n then v else m x)) (sb:Heap.SameBut X.env.locals s.heap h'):Inv X pins (σ.set i none) H {s with heap:=h',toks:=t}:=by
 have Uc:∀b o,X.s₀.heap.get? b=some o->b≠X.env.locals:=fun b o q=>Nat.ne_of_lt (Nat.lt_of_lt_of_le (Heap.lt_size q) I.ok.above);have cl:∀x c,X.env.cells.lookup x=some c -> ∀w',s.heap.IsCell c w'->h'.IsCell c w':=fun x c q w' ⟨o,ho,hd⟩=>⟨o,(sb.2 c (I.Us x c q)).trans ho,hd⟩;have Qp:∀b o,H b=some o->b≠X.env.locals:=fun b o q=>aB q I.free;refine ⟨I.ok,I.os,I.bare,⟨fun b o q nn hb hx=>(sb.2 b (Uc b o q)).trans (I.base.keep b o q nn hb hx),fun b o q nn hb hx=> ?_,I.base.free,fun b o q hx=> ?_,I.base.tups,I.base.pH,I.base.rB⟩,⟨_,hn,fun j x u e1 e2 e3=> ?_⟩,fun x c q=> ?_,I.free,I.gO,fun p hp=> ?_,fun a o q=> ?_, ?_⟩
 ·obtain ⟨sl,r⟩:=I.base.slot b o q nn hb hx
  exact ⟨sl,(sb.2 b (Uc b o q)).trans r⟩
 ·obtain ⟨o',r⟩:=I.base.there b o q hx
  exact ⟨o',(sb.2 b (Uc b o q)).trans r⟩
 ·have hji:j≠i:=by
   rintro rfl
   by_cases hlt:j<σ.length
   ·rw [List.getElem?_set_self hlt] at e2
    cases e2
   ·rw [List.getElem?_eq_none (by rw [List.length_set];omega)] at e2
    cases e2
  rw [List.getElem?_set_ne (Ne.symm hji)] at e2;obtain ⟨w',r,l⟩:=hm j x u e1 e2 e3;refine ⟨w',r, ?_⟩;have hxn:x≠n:=fun z=>hji (wQ hN e1 (by rw [z];exact hi));rcases l with ⟨k,q⟩|⟨k,c,hc,z⟩
  ·exact .inl ⟨k,by show (if x=n then v else m x)=some w';rw [if_neg hxn];exact q⟩
  ·exact .inr ⟨k,c,hc,cl x c hc _ z⟩
 ·obtain ⟨w',z⟩:=I.cell x c q
  exact ⟨w',cl x c q w' z⟩
 ·obtain ⟨q,nn,n1,r⟩:=I.pin p hp
  exact ⟨(sb.2 p.1 n1).trans q,nn,n1,r⟩
 ·refine (I.hok a o q).stay (fun b u hb r=> ?_) (fun _ z=>z) fun _ _ z=>z
  rcases hb with rfl|hb
  ·exact (sb.2 b (Qp b o q)).trans r
  ·exact (sb.2 b (Qp b _ hb)).trans r
 ·show (σ.set i none).length=X.N.length
  rw [List.length_set];exact I.len
theorem oV {M:Model} {A:Around} {E:Value->Shared->Prop} {i:Nat} {n:Str} {pos:Pos} {Q:Unit->Shared->Prop} (I:Inv X pins σ H s) (hN:X.N.Nodup) (hi:X.N[i]? = some n) (hl:X.env.kindOf n=some .local)
 (h:∀s',Inv X pins (σ.set i none) H s'->Q () s'):wpAny M A (do bindName X.env n .none;unbindBehindTheSuite X.env n pos) Q E s:=by
 obtain ⟨m,hn,hm⟩:=I.loc;exact wpAny_nameGoes_keeps hl hn (by rw [I.ok.kind];rfl) fun h' v hn' sb=>h _ (I.gone hN hi hm hn' sb)
end
def Y0 (D:Ends) (i:Nat):Ends:={nx:=fun σ H=>D.nx (σ.set i none) H,rt:=D.rt,bk:=fun σ H=>D.bk (σ.set i none) H,ct:=fun σ H=>D.ct (σ.set i none) H}
def abx (K:PySem.W.Frag) (i:Nat) (Dc:Addr) (tb:(St->XK)->TS) (th:TS):TS:=fun D σ H=>
 tb (fun σ1 cls dx H1=>∃C,cls = .ref C/\PySem.W.subIn K (.ref C) (.ref Dc)=some true /\ ∀e,H1 e=none->th (Y0 D i) (σ1.set i (some (.ref e))) (upd H1 e (XO C dx e))) D σ H
structure XHd (K:PySem.W.Frag) (D:Addr):Prop where
 cl:(PySem.W.clsIn K D).isSome=true
 ty:PySem.W.typeIn K (.ref D)=some (.type "type")
 bs:PySem.W.subIn K (.ref D) (.type "BaseException")=some true
section
variable {X:Cx} {body suite:List Stmt} {b0:Stmt} {n cn:Str} {i:Nat} {Dc:Addr} {tb:(St->XK)->TS} {th:TS} {cp hpos pos:Pos}
theorem Ng (hc:X.calm=true) (hx:X.ex=[]) (hst:X.stack=X.env::X.outer) (hfm:X.env.frame=some X.env.locals) (hN:X.N.Nodup) (hi:X.N[i]? = some n) (hl:X.env.kindOf n=some .local) (hg:Gl X cn) (hm:X.mg cn=some (.ref Dc)) (hD:XHd X.K Dc)
 (hb:∀(pn:List (Addr×Obj)) (xe:Value->Shared->Prop) (E:St->XK),PassesOwn (model X.prog X.w) X.A X.env xe->Rz {X with pn:=pn,xe:=xe} E->Ht {X with pn:=pn,xe:=xe} body (tb E))
 (hh:∀e,Ht (Aw X e) (b0::suite) th) (hd:(cn==("__debug__" :Str))=false:=by decide):
 PS X (.Try body [.ExceptHandler (some (.Name cn cp)) (some n) (b0::suite) hpos] [] [] pos) (abx X.K i Dc tb th):=by
 intro pins s σ H D I h;refine wpAny_Try_except ?_
 refine wpAny_mono (hb (X.pn++pins) (fun e s₁=>wpAny (model X.prog X.w) X.A (noteFrame e X.env) (fun _ s₂=>wpAny (model X.prog X.w) X.A (setFlight e none) (fun _ s₃=>wpAny (model X.prog X.w) X.A (handleBy e X.env [.ExceptHandler (some (.Name cn cp)) (some n) (b0::suite) hpos]) (SP X pins D) X.xe s₃) X.xe s₂) X.xe s₁) _
  PassesOwn.looking ?_ [] s σ H D (I.Xf _) h) (fun f s1 q=> ?_) fun _ _ q=>q
 ·
  intro j6 σ1 H1 s1 e cls dx fl hfl I1 fe x hE;obtain ⟨C,rfl,hsub,hth⟩:=hE;have lo1:∀b,(b=e\/(Bg (xT X pins X.xe) j6 H1 b\/s1.heap.get? b=none))->Bg (xT X pins X.xe) j6 H1 b\/s1.heap.get? b=none:=fun b z=>z.elim (fun z=> .inl (by rw [z];exact fe)) fun z=>z;have hfr:X.A.frames=some (X.env::X.outer):=by rw [←hst];exact I.ok.frames
  have hff:s1.heap.FunFrames X.base (X.env::X.outer):=by rw [←hst];exact I1.stack
  refine Tw (base:=X.base) (lo:=fun T=>Bg (xT X pins X.xe) j6 H1 T\/s1.heap.get? T=none) hfl hfr hff hfm (x.imp fun T _ z=> .inl z) (fun T z=> .inr z) fun h1 n1 x1=> ?_;refine Mi (fr:=frs (X.env::X.outer)) x1 fun h2 n2 x2=> ?_;have n12:oG (frs X.stack) e (fun T=>Bg (xT X pins X.xe) j6 H1 T\/s1.heap.get? T=none) s1.heap h2:=by rw [hst];exact n1.trans n2
  have I2:Inv X pins σ1 H1 {s1 with heap:=h2}:=(I1.noted n12 lo1).zu;refine wpAny_handleBy_cons (codeAny_handlers_test (mH (I2.Mt e) hg hm ?_ hd)) (by intro z;cases z);obtain ⟨oe,vs,q1,q2,q3,q4⟩:=x2.there;refine Df (K:=X.K) I2.lF q1 q2 hD.cl hD.ty hD.bs hsub ?_;rw [if_pos rfl];refine codeAny_handlers_suite_as ?_;refine Mi (fr:=frs (X.env::X.outer)) x2 fun h3 n3 x3=> ?_;have n13:oG (frs X.stack) e (fun T=>Bg (xT X pins X.xe) j6 H1 T\/s1.heap.get? T=none) s1.heap h3:=by rw [hst];exact (n1.trans n2).trans n3
  have I3:Inv X pins σ1 H1 {s1 with heap:=h3}:=(I1.noted n13 lo1).zu;have feX:Bg X pins H1 e:=⟨fe.1,fe.2.1,fe.2.2.1,fe.2.2.2.1,fe.2.2.2.2.1,fun p hp=>fe.2.2.2.2.2 p (List.mem_append_left _ hp)⟩;have I4:Inv X pins σ1 (upd H1 e (XO C dx e)) {s1 with heap:=h3}:=I3.track hx feX x3;refine wg (X:=Aw X e) (I4.Mt e) hN hi (.inl hl) (v:= .ref e) rfl (fun s5 I5=> ?_) (.inr hl);refine wpAny_mono (hh e pins s5 _ _ (Y0 D i) I5 (hth e fe.1)) (fun f s6 q6=> ?_) fun _ _ z=>z.elim;cases f with
  | next=>
    obtain ⟨σ6,H6,J6,r6⟩:=q6;exact oV (J6.Ac I.ok.hd) hN hi hl fun s7 J7=>⟨_,H6,J7,r6⟩
  | brk=>
    obtain ⟨σ6,H6,J6,r6⟩:=q6;exact oV (J6.Ac I.ok.hd) hN hi hl fun s7 J7=>⟨_,H6,J7,r6⟩
  | cont=>
    obtain ⟨σ6,H6,J6,r6⟩:=q6;exact oV (J6.Ac I.ok.hd) hN hi hl fun s7 J7=>⟨_,H6,J7,r6⟩
  | ret u=>
    obtain ⟨v6,σ6,H6,J6,rv,r6⟩:=q6;exact oV (J6.Ac I.ok.hd) hN hi hl fun s7 J7=>⟨v6,_,H6,J7,rv,r6⟩
 ·cases f with
  | next=>obtain ⟨σ1,H1,J,r⟩:=q;exact wpAny_execs_nil ⟨σ1,H1,J.zu,r⟩
  | brk=>obtain ⟨σ1,H1,J,r⟩:=q;exact ⟨σ1,H1,J.zu,r⟩
  | cont=>obtain ⟨σ1,H1,J,r⟩:=q;exact ⟨σ1,H1,J.zu,r⟩
  | ret u=>obtain ⟨v,σ1,H1,J,rv,r⟩:=q;exact ⟨v,σ1,H1,J.zu,rv,r⟩
end
section
variable {X:Cx} {K:PySem.W.Frag}
theorem yM {o:Obj} {vs:Array Value} (h:o.data = .fields vs):PySem.W.notCls o=true:=by
 obtain ⟨c,d,dt,sl⟩:=o;simp only at h;subst h;rfl
theorem Qy {C e:Addr} {P:Program} {w:World} {H:Hp} {h:Heap} (x:cM P w H h e (XO C none e)):∃ox odo,PySem.W.InstAt h e ox C odo:=by
 obtain ⟨⟨oe,vs,q,hc,hd,hf⟩,_⟩:=x;exact ⟨oe,none,⟨q,hc,yM hf,by rw [hd];trivial⟩⟩
theorem gk {c:Value} {cv:V} (hk:X.K=K) (rc:∀u,RelV cv u->u=c):iJ X (.builtin "isinstance") (fun xs H Q=>∃(e C:Addr) (b:Bool),xs=[.ref e,cv]/\H e=some (XO C none e)/\PySem.W.Wr K C/\PySem.W.kitOne K (.ref C) c=some b/\Q (.bl b) H):=by
 subst hk;intro pins s σ H xs us Q I r h;obtain ⟨e,C,b,rfl,he,xc,hb,q⟩:=h;obtain ⟨u,w',rfl,r1,r2⟩:=vals2 r;cases (show u=Value.ref e from r1);have:=rc _ r2;subst this;exact PySem.W.kia_one (PySem.W.Oi xc) I.lF (Qy (I.hok e _ he)) hb (by intro z;cases z) fun tk=>⟨.bl b,H,I.tok _,rfl,q⟩
end
end L2
set_option Elab.async false
set_option linter.all false
set_option maxRecDepth 100000
set_option maxHeartbeats 4000000
namespace L2
open PySem PySem.Spec PyProof.Rows
section
variable {X:Cx} {K:PySem.W.Frag}
end
structure Uw (K:PySem.W.Frag) (C D:Addr) (b:Bool):Prop where
 ne:(Value.ref C==Value.ref D)=false
 sub:PySem.W.subIn K (.ref C) (.ref D)=some b
theorem RT {K:PySem.W.Frag} {C D:Addr} {b:Bool} (h:XHd K D) (p:Uw K C D b):PySem.W.kitOne K (.ref C) (.ref D)=some b:=by
 unfold PySem.W.kitOne;rw [if_neg (by rw [p.ne];decide)];show (if ((PySem.W.clsIn K D).isSome&&PySem.W.typeIn K (.ref D)==some (.type "type"))=true then PySem.W.subIn K (.ref C) (.ref D) else none)=some b;rw [if_pos (by rw [h.cl,h.ty];rfl)];exact p.sub
theorem w5 {K:PySem.W.Frag} {C:Addr}:PySem.W.kitOne K (.ref C) (.ref C)=some true:=by
 unfold PySem.W.kitOne;rw [if_pos (by simp)]
theorem um {K:PySem.W.Frag} {C:Addr} {b:Bool} (h:PySem.W.subIn K (.ref C) (.type "ValueError")=some b):PySem.W.kitOne K (.ref C) (.type "ValueError")=some b:=by
 unfold PySem.W.kitOne;rw [if_neg (by intro z;cases beq_iff_eq.mp z)];show (if PySem.W.kitMeta "ValueError" = true then PySem.W.subIn K (.ref C) (.type "ValueError") else none)=some b;rw [if_pos (by decide +kernel)];exact h
theorem pW:bootBuiltins "ValueError" = some (.type "ValueError"):=by kernel_rfl
end L2
namespace L2
open PySem
structure Xr (K:PySem.W.Frag) (mg:Str->Option Value) (C:Addr) (nm:Str):Prop where
 bd:mg nm=some (.ref C)
 hd:XHd K C
 xc:PySem.W.Wr K C
 ex:PySem.W.excIn K C [.type "ValueError",.type "Exception",.type "BaseException",.type "object"] "ValueError.__new__" = true
 ve:PySem.W.subIn K (.ref C) (.type "ValueError")=some true
structure Xo (K:PySem.W.Frag) (mg:Str->Option Value) (C D:Addr) (nm:Str) (b:Bool):Prop where
 bd:mg nm=some (.ref D)
 hd:XHd K D
 pr:Uw K C D b
theorem Xo.kit {K:PySem.W.Frag} {mg:Str->Option Value} {C D:Addr} {nm:Str} {b:Bool} (x:Xo K mg C D nm b):PySem.W.kitOne K (.ref C) (.ref D)=some b:=RT x.hd x.pr
end L2
set_option Elab.async false
set_option linter.all false
set_option maxRecDepth 100000
set_option maxHeartbeats 4000000
namespace L2
open PySem PySem.Spec PyProof.Rows
section
variable {X:Cx} {pins:List (Addr×Obj)} {σ:St} {H:Hp} {s:Shared} {h':Heap}
theorem Inv.HS {t':Nat} {fp:List Addr} (I:Inv X pins σ H s) (hf:∀b∈fp,mV X pins H b) (k:∀b o,b∉fp->s.heap.get? b=some o->h'.get? b=some o):Inv X pins σ H {s with heap:=h',toks:=t'}:=by
 have Vx:∀b u,H b=some u->b∉fp:=fun b u e z=>by rw [(hf b z).1] at e;cases e
 refine I.step (g':=s.gens) (d':=s.drawn) (ch:=fp) (fun b hb=> ?_) (fun b o _ _ hc e _=>k b o hc e) (fun b o _ _ hc e _=>⟨o.slots,k b o hc e⟩) (fun _ _ _ _ n=>n)
  (fun b o hc e=>⟨o,k b o hc e⟩) (fun _ _ e=>e) (fun _ _ _ e=>e) (fun b ps e=>⟨#[],by rw [e];simp⟩) (fun m hm=> ?_) (fun b u e=> ?_) I.bare
 ·obtain ⟨f0,f1,f2,f3,f4,f5⟩:=hf b hb
  exact ⟨f3,f1,f4,f5⟩
 ·obtain ⟨o,es,ep,ho,r⟩:=hm
  exact ⟨o,es,ep,k _ o (fun z=>(hf _ z).2.1 rfl) ho,r⟩
 ·refine (I.hok b u e).stay (fun c v hc q=>k c v ?_ q) (fun _ q=>q) fun _ _ q=>q
  rcases hc with z|z
  ·rw [z];exact Vx b u e
  ·exact Vx c _ z
theorem mV.upd {b p:Addr} {o:HO} (h:mV X pins H b) (n:b≠p):mV X pins (upd H p o) b:=by
 obtain ⟨f0,r⟩:=h;exact ⟨by rw [aN n];exact f0,r⟩
theorem O1 {h:Heap} {o u:Obj} {b:Addr} (ho:o.isFreed=false) (e:(h.push o).get? b=some u):(b=h.objs.size/\u=o)\/h.get? b=some u:=by
 by_cases hb:b=h.objs.size
 ·subst hb
  rw [Heap.get?_push_size _ ho] at e;exact .inl ⟨rfl,(Option.some.inj e).symm⟩
 ·refine .inr ?_
  have lt:=Heap.lt_size e
  have lt2:b<h.objs.size:=by
   have:(h.push o).objs.size=h.objs.size+1:=by simp [Heap.push]
   rw [this] at lt;exact Nat.lt_of_le_of_ne (Nat.le_of_lt_succ lt) hb
  have:(h.push o).get? b=h.get? b:=by
   simp only [Heap.get?,Heap.push];rw [Array.getElem?_push_lt lt2,Array.getElem?_eq_getElem lt2]
  rw [←this];exact e
end
section
variable {X:Cx}
end
def Itz (K:PySem.W.Frag) (l1 l2:Addr):It:=
 ⟨fun i H=>∃xs ys x y,bA K H l1 xs/\bA K H l2 ys/\xs[i]? = some x/\ys[i]? = some y,
  fun i H x H'=>∃(p:Addr) (y z:V),x = .ref p/\H p=none/\(∀xs,bA K H l1 xs->xs[i]? = some y)/\(∀ys,bA K H l2 ys->ys[i]? = some z)/\H'=upd H p (.tup [y,z]),
  fun i H=>∃xs ys,bA K H l1 xs/\bA K H l2 ys/\(xs.length<=i\/ys.length<=i)⟩
theorem Mq {P:Program} {w:World} {K:PySem.W.Frag} {elts:List Expr} {x1:Nat} {pos:Pos} (z TI TO i1 i2 l1 l2:Addr) (ap:ZipApart z TI TO i1 i2 l1 l2):Turn P w K (.Tuple elts x1 pos) (Itz K l1 l2) [z,TI,TO,i1,i2] z
 (fun i h=>IsZip h z TI TO .none/\IsPair h TI (.ref i1) (.ref i2)/\(∃a b,IsPair h TO a b)/\h.IsListIter i1 l1 i/\h.IsListIter i2 l2 i) where
 mem:=by simp
 obj:=fun i h st b hb=>by
  obtain ⟨hz,hTI,⟨a,c,hTO⟩,⟨o1,h1,c1,d1⟩,⟨o2,h2,c2,d2⟩⟩:=st;have hb':b=z\/b=TI\/b=TO\/b=i1\/b=i2:=by simpa using hb
  rcases hb' with rfl|rfl|rfl|rfl|rfl
  ·exact ⟨_,hz,fun v z=>by cases z⟩
  ·exact ⟨_,hTI,fun v z=>by cases z⟩
  ·exact ⟨_,hTO,fun v z=>by cases z⟩
  ·exact ⟨_,h1,fun v z=>by rw [d1] at z;cases z⟩
  ·exact ⟨_,h2,fun v z=>by rw [d2] at z;cases z⟩
 keep:=fun i h h' st k=>by
  obtain ⟨hz,hTI,⟨a,c,hTO⟩,⟨o1,h1,c1,d1⟩,⟨o2,h2,c2,d2⟩⟩:=st;exact ⟨k z (by simp) _ hz,k TI (by simp) _ hTI,⟨a,c,k TO (by simp) _ hTO⟩,⟨o1,k i1 (by simp) _ h1,c1,d1⟩,⟨o2,k i2 (by simp) _ h2,c2,d2⟩⟩
 item:=by
  intro X hP hw hK hc i pins s σ H E I hf st hg;subst hP hw hK;obtain ⟨xs,ys,x,y,hq1,hq2,hx,hy⟩:=hg;obtain ⟨Ys,rv1,p1,hz1⟩:=I.list hq1;obtain ⟨its2,rv2,p2,hz2⟩:=I.list hq2;obtain ⟨u1,hu1,ru1⟩:=rv1.get hx;obtain ⟨u2,hu2,ru2⟩:=rv2.get hy;obtain ⟨hz,hTI,⟨a,c,hTO⟩,hi1,hi2⟩:=st;have zlt:=Heap.lt_size hz;have ahj:=Heap.lt_size hTI;have ahi:=Heap.lt_size hTO;have ae6:i1<s.heap.objs.size:=by obtain ⟨o,ho,_⟩:=id hi1;exact Heap.lt_size ho
  have ae5:i2<s.heap.objs.size:=by obtain ⟨o,ho,_⟩:=id hi2;exact Heap.lt_size ho
  refine wpAny_pyNext_zip_item ap hz hTI hTO hi1 hi2 p1.isList p2.isList (x:=u1) (y:=u2) (by simpa using hu1) (by simpa using hu2) fun h' hz' afe afc hi2' hnew hsz hk=> ?_;refine ⟨_,rfl, ?_⟩;refine wpAny_letOwnedTupleGo_zip hz' fun h2 ae7 sb=> ?_;have hfr:H s.heap.objs.size=none:=I.hok.fresh (Nat.le_refl _)
  have I0:Inv X pins σ (upd H s.heap.objs.size (.tup [x,y])) {s with heap:=s.heap.push {cls:= .type "tuple",data:= .seq #[u1,u2]}}:=
   I.laid (t':=s.toks) (fun b u e=>Heap.get?_push_of_some _ e) (Nat.le_refl _) ⟨by show 2<=sizeLine;decide,[u1,u2],.cons ru1 (.cons ru2 .nil),⟨_,Heap.get?_push_size _ rfl,rfl,_,rfl⟩⟩
  have hf0:∀b∈[z,TI,TO,i1,i2],mV X pins (upd H s.heap.objs.size (.tup [x,y])) b:=fun b hb=>by
   refine (hf b hb).upd ?_;have hb':b=z\/b=TI\/b=TO\/b=i1\/b=i2:=by simpa using hb
   rcases hb' with rfl|rfl|rfl|rfl|rfl
   ·exact Nat.ne_of_lt zlt
   ·exact Nat.ne_of_lt ahj
   ·exact Nat.ne_of_lt ahi
   ·exact Nat.ne_of_lt ae6
   ·exact Nat.ne_of_lt ae5
  have I1:=I0.HS (h':=h2) (t':=s.toks) hf0 (fun b o hb eb=>by
   have b1:b≠z:=fun e=>hb (by simp [e]);have b2:b≠TO:=fun e=>hb (by simp [e]);have b3:b≠i1:=fun e=>hb (by simp [e]);have b4:b≠i2:=fun e=>hb (by simp [e]);rw [sb.2 b b1];rcases O1 rfl eb with ⟨rfl,rfl⟩|eb
   ·exact hnew
   ·exact hk b o b1 b2 b3 b4 eb)
  refine ⟨.ref s.heap.objs.size,_,I1,rfl,⟨s.heap.objs.size,x,y,rfl,hfr,fun ys hy=>by rw [I.wX hy hq1];exact hx,fun ys' hy'=>by rw [I.wX hy' hq2];exact hy,rfl⟩, ?_,fun b hb=>(hf0 b hb).1⟩;obtain ⟨o1,ho1,c1,d1⟩:=afc;obtain ⟨o2,ho2,c2,d2⟩:=hi2';exact ⟨ae7,(sb.2 TI ap.TIz).trans (hk TI _ ap.TIz ap.TITO ap.TIi1 ap.TIi2 hTI),⟨_,_,(sb.2 TO ap.TOz).trans afe⟩,⟨o1,(sb.2 i1 ap.i1z).trans ho1,c1,d1⟩,⟨o2,(sb.2 i2 ap.i2z).trans ho2,c2,d2⟩⟩
 done:=by
  intro X hP hw hK hc i pins s σ H E I hf st hg;subst hP hw hK;obtain ⟨xs,ys,hq1,hq2,hx⟩:=hg;obtain ⟨Ys,rv1,p1,hz1⟩:=I.list hq1;obtain ⟨its2,rv2,p2,hz2⟩:=I.list hq2;obtain ⟨hz,hTI,⟨a,c,hTO⟩,hi1,hi2⟩:=st;have hl1:=rv1.length;have hl2:=rv2.length;refine wpAny_pyNext_zip_end (I.ok.hd hc) ap hz hTI hTO hi1 hi2 p1.isList p2.isList ?_ fun h' eb=>⟨rfl,I.HS (t':=s.toks) hf (fun b o hb e=>eb b o (fun z=>hb (by simp [z])) (fun z=>hb (by simp [z])) (fun z=>hb (by simp [z])) (fun z=>hb (by simp [z])) e)⟩;rcases hx with hx|hx
  ·exact .inl (by simp;omega)
  ·exact .inr (by simp;omega)
 self:=fun _ _ _ _ _ st h=>wpAny_pyIter_zip st.1 h
section
variable {X:Cx}
def ae4 (K:PySem.W.Frag) (ta:TA):TI:=fun σ H R=>ta σ H fun vs H1=>∃l1 l2 xs ys,vs=[.ref l1,.ref l2]/\bA K H1 l1 xs/\bA K H1 l2 ys/\R (Itz K l1 l2) H1
theorem Ra {K:PySem.W.Frag} {a b:Expr} {ta:TA} {p pos:Pos} {elts:List Expr} {x1:Nat} {tpos:Pos} (hK:X.K=K) (hg:Gl X "zip") (hm:X.mg "zip" = none) (ha:PA X [a,b] ta) (hs:starEach [a,b] X.env=[(false,eval a X.env),(false,eval b X.env)]:=by rfl) (hs2:starEach [b] X.env=[(false,eval b X.env)]:=by rfl):PI X (.Tuple elts x1 tpos) (.Call (.Name "zip" p) [a,b] [] pos) (ae4 K ta):=by
 subst hK;intro pins s σ H R I h;refine Call_ (uh I hg hm boot_zip (PyProof.Rows.callWith_type1 (cP (ha pos pins s σ H _ I h) fun us s1 ⟨vs,H1,I1,r1,q1⟩=> ?_) (by rw [hs,hs2]) (by rw [hs2];rfl)));obtain ⟨l1,l2,xs,ys,e,hq1,hq2,q⟩:=q1;subst e;cases r1 with
 | cons r rr=>
   cases rr with
   | cons r' rr=>
     cases rr;cases r;cases r';obtain ⟨Ys,rv1,rN,hz1⟩:=I1.list hq1;obtain ⟨its2,rv2,wJ,hz2⟩:=I1.list hq2;have lt1:l1<s1.heap.objs.size:=by obtain ⟨o,ho,_⟩:=rN.isList;exact Heap.lt_size ho
     have lt2:l2<s1.heap.objs.size:=by obtain ⟨o,ho,_⟩:=wJ.isList;exact Heap.lt_size ho
     refine call_zip_2 rN.isList wJ.isList fun h' hZ hTI hTO hi1 hi2 hsz hk=> ?_;refine wpAny_pyIter_zip hZ ?_;have I2:Inv X pins σ H1 {s1 with heap:=h'}:=I1.kept (t':=s1.toks) hk;refine ⟨s1.heap.objs.size+4,[s1.heap.objs.size+4,s1.heap.objs.size+2,s1.heap.objs.size+3,s1.heap.objs.size,s1.heap.objs.size+1],_,_,H1,rfl,I2,Mq _ _ _ _ _ l1 l2 (zipApart_new lt1 lt2),⟨hZ,hTI,⟨_,_,hTO⟩,hi1,hi2⟩,fun b hb=> ?_,q⟩
     have hb':s1.heap.objs.size<=b:=by
      have:b=s1.heap.objs.size+4\/b=s1.heap.objs.size+2\/b=s1.heap.objs.size+3\/b=s1.heap.objs.size\/b=s1.heap.objs.size+1:=by simpa using hb
      rcases this with rfl|rfl|rfl|rfl|rfl
      ·exact Nat.le_add_right _ _
      ·exact Nat.le_add_right _ _
      ·exact Nat.le_add_right _ _
      ·exact Nat.le_refl _
      ·exact Nat.le_add_right _ _
     exact I1.Ar hb' (I1.hok.fresh hb')
end
end L2
set_option Elab.async false
set_option linter.all false
set_option maxRecDepth 100000
set_option maxHeartbeats 4000000
namespace L2
open PySem PySem.Spec PyProof.Rows
section
variable {K:PySem.W.Frag} {a l1 l2 D:Addr} {xs ys:List V} {g:TG} {tc:TT} {te:TE} {Q:VK} {σ0:St} {H1:Hp}
theorem Pk {n:Nat} (hn1:xs.length=n) (hn2:ys.length=n) (Pv:Nat->St->Hp->Prop) (h0:Pv 0 σ0 (upd H1 D (.lst []))) (hl:∀i σ H,i<=n->Pv i σ H->bA K H l1 xs/\bA K H l2 ys)
 (hs:∀i x y σ H p,xs[i]? = some x->ys[i]? = some y->Pv i σ H->H p=none->g (.ref p) σ (upd H p (.tup [x,y])) fun σ2 H2=>tc σ2 H2 fun b H3=>
   if b=true then te σ2 H3 fun y H4=>∃acc,H4 D=some (.lst acc)/\acc.length<sizeLine/\Pv (i+1) σ2 (upd H4 D (.lst (acc++[y]))) else Pv (i+1) σ2 H3)
 (hd:∀σ H,Pv n σ H->Q (.ref D) H):oH (Itz K l1 l2) g tc te Q D σ0 H1:=by
 refine ⟨fun i m σ H=>m=n - i/\i<=n/\Pv i σ H,⟨n,by simp,Nat.zero_le _,h0⟩, ?_⟩;rintro i m σ H ⟨rfl,hi,p⟩;obtain ⟨q1,q2⟩:=hl i σ H hi p
 by_cases hlt:i<n
 ·refine .inr ⟨⟨xs,ys,xs[i],ys[i],q1,q2,by simp [hn1,hlt],by simp [hn2,hlt]⟩,Pv (i+1),fun σ' H' p'=>⟨n - (i+1),by omega,rfl,hlt,p'⟩,fun x H' y=> ?_⟩
  obtain ⟨t,z,u,rfl,ht,hz,hu,rfl⟩:=y;exact hs i z u σ _ t (hz xs q1) (hu ys q2) p ht
 ·have e:i=n:=by omega
  subst e;exact .inl ⟨⟨xs,ys,q1,q2,.inl (by omega)⟩,hd σ H p⟩
end
section
variable {K:PySem.W.Frag} {a l1 l2:Addr} {xs ys:List V} {g:TG} {tb:TS} {D:Ends} {σ:St} {H:Hp}
end
section
variable {X:Cx}
theorem qJ {K:PySem.W.Frag} {T name id:String} {r:V->List V->Hp->VK->Prop} {o e:Expr} {es:List Expr} {to:TE} {t:TA} {apos cpos:Pos} (h:X.K=K) (pa:PlainAttrs T) (slot:Slot T name id) (hty:typeOf (.builtin id)=pure (.type "method_descriptor")) (hm:MtR X id r) (ho:PE X o to) (ha:PA X (e::es) t)
 (hbase:attributeBase o name X.env (eval o X.env)=eval o X.env:=by rfl)
 (hfew:((backTo cpos (starEach (e::es) X.env)).all (fun x=> !x.1)&&(backToKw cpos (keywordEach [] X.env)).all (fun x=>x.1.isSome)
   && decide ((e::es).length+([]:List Keyword).length+(if ([]:List Keyword).isEmpty then 0 else 1)<30))=true:=by rfl)
 (hline:(apos.endLine==cpos.line)=true:=by rfl) (hs:starEach (e::es) X.env=(false,eval e X.env)::starEach es X.env:=by rfl) (hplain:(backTo cpos (starEach es X.env)).any (·.1)=false:=by rfl):
 PE X (.Call (.Attribute o name apos) (e::es) [] cpos) (tBM K T r to t):=by
 subst h;exact T8 pa slot hty hm ho ha hbase hfew hline hs hplain
theorem vK {K:PySem.W.Frag} {es:List Expr} {k:Nat} {t:Ux} {n:Nat} {pos:Pos} (hK:X.K=K) (hc:X.calm=true) (h:Z5 X es t)
 (hn:(assignEach es X.env).length=n:=by rfl) (hst:(assignEach es X.env).findIdx? (·.1)=none:=by rfl):PG X (.Tuple es k pos) (V8 K n t):=by subst hK;exact Vi hc h hn hst
end
end L2
set_option Elab.async false
set_option linter.all false
set_option maxRecDepth 100000
set_option maxHeartbeats 4000000
namespace L2
open PySem
section
variable {K:PySem.W.Frag} {a D:Addr} {xs:List V} {tc:TT} {te:TE} {Q:VK} {rest:St} {H1:Hp}
theorem gB {α:Type} (f:Nat->Option α) (n:Nat):(List.range (n+1)).filterMap f=(List.range n).filterMap f++(f n).toList:=by
 rw [List.range_succ,List.filterMap_append];cases h:f n<;>simp [h]
theorem xM {α:Type} (f:Nat->Option α) (n:Nat):((List.range n).filterMap f).length<=n:=by
 have:=List.length_filterMap_le f (List.range n);simpa using this
theorem Same.newly {H H1:Hp} {D:Addr} {o:HO} (h:Same H H1) (n:H D=none):Same H (upd H1 D o):=fun b u e=>by rw [aN (aB e n)];exact h b u e
theorem sE (f:Nat->Option V) (hD:H1 D=none) (hq:bA K H1 a xs) (hx:xs.length<=100000)
 (hs:∀i x H (G:Hp->Prop) (F:VK),xs[i]? = some x->Same H1 H->(∀H',Same H H'->f i=none->G H')->(∀y H',Same H H'->f i=some y->F y H')->tc (some x::rest) H fun b H3=>if b=true then te (some x::rest) H3 F else G H3)
 (hd:∀H,Same H1 H->H D=some (.lst ((List.range xs.length).filterMap f))->Q (.ref D) H):oH (Uy K a) (gM 0) tc te Q D (none::rest) H1:=by
 refine uy (K:=K) (xs:=xs) (fun i σ H=>(∃v,σ=v::rest)/\Same H1 H/\H D=some (.lst ((List.range i).filterMap f))) ⟨⟨none,rfl⟩,aD hD,aq⟩ (fun i σ H _ ⟨_,sm,_⟩=>sm.sqL _ _ hq) ?_ (fun σ H ⟨_,sm,e⟩=>hd H sm e);rintro i x σ H hi ⟨⟨v,rfl⟩,sm,e⟩;have hil:i<xs.length:=(List.getElem?_eq_some_iff.mp hi).1;refine hs i x H _ _ hi sm (fun H3 s3 ef=>⟨⟨_,rfl⟩,sm.trans s3,by rw [s3 _ _ e,gB,ef];simp⟩) (fun y H4 s4 ef=> ?_);refine ⟨_,s4 _ _ e, ?_,⟨_,rfl⟩,(sm.trans s4).newly hD, ?_⟩
 ·have:=xM f i
  rw [sizeLine_eq];omega
 ·rw [aq,gB,ef];rfl
theorem KZ (f:Nat->Option V) (hD:H1 D=none) (hq:H1 a=some (.tup xs)) (hx:xs.length<=100000)
 (hs:∀i x H (G:Hp->Prop) (F:VK),xs[i]? = some x->Same H1 H->(∀H',Same H H'->f i=none->G H')->(∀y H',Same H H'->f i=some y->F y H')->tc (some x::rest) H fun b H3=>if b=true then te (some x::rest) H3 F else G H3)
 (hd:∀H,Same H1 H->H D=some (.lst ((List.range xs.length).filterMap f))->Q (.ref D) H):oH (Itt K a) (gM 0) tc te Q D (none::rest) H1:=by
 refine Pn (K:=K) (xs:=xs) (fun i σ H=>(∃v,σ=v::rest)/\Same H1 H/\H D=some (.lst ((List.range i).filterMap f))) ⟨⟨none,rfl⟩,aD hD,aq⟩ (fun i σ H _ ⟨_,sm,_⟩=>gC.of (sm.tups _ _ hq)) ?_ (fun σ H ⟨_,sm,e⟩=>hd H sm e);rintro i x σ H hi ⟨⟨v,rfl⟩,sm,e⟩;have hil:i<xs.length:=(List.getElem?_eq_some_iff.mp hi).1;refine hs i x H _ _ hi sm (fun H3 s3 ef=>⟨⟨_,rfl⟩,sm.trans s3,by rw [s3 _ _ e,gB,ef];simp⟩) (fun y H4 s4 ef=> ?_);refine ⟨_,s4 _ _ e, ?_,⟨_,rfl⟩,(sm.trans s4).newly hD, ?_⟩
 ·have:=xM f i
  rw [sizeLine_eq];omega
 ·rw [aq,gB,ef];rfl
theorem o8 {n:Nat} (f:Nat->Option V) (hD:H1 D=none) (hx:n<=100000)
 (hs:∀i H (G:Hp->Prop) (F:VK),i<n->Same H1 H->(∀H',Same H H'->f i=none->G H')->(∀y H',Same H H'->f i=some y->F y H')->tc (some (.int (0+i))::rest) H fun b H3=>if b=true then te (some (.int (0+i))::rest) H3 F else G H3)
 (hd:∀H,Same H1 H->H D=some (.lst ((List.range n).filterMap f))->Q (.ref D) H):oH (Tp 0 n) (gM 0) tc te Q D (none::rest) H1:=by
 refine iW (lo:=0) (n:=n) (fun i σ H=>(∃v,σ=v::rest)/\Same H1 H/\H D=some (.lst ((List.range i).filterMap f))) ⟨⟨none,rfl⟩,aD hD,aq⟩ ?_ (fun σ H ⟨_,sm,e⟩=>hd H sm e);rintro i σ H hi ⟨⟨v,rfl⟩,sm,e⟩;refine hs i H _ _ hi sm (fun H3 s3 ef=>⟨⟨_,rfl⟩,sm.trans s3,by rw [s3 _ _ e,gB,ef];simp⟩) (fun y H4 s4 ef=> ?_);refine ⟨_,s4 _ _ e, ?_,⟨_,rfl⟩,(sm.trans s4).newly hD, ?_⟩
 ·have:=xM f i
  rw [sizeLine_eq];omega
 ·rw [aq,gB,ef];rfl
theorem KY {l1 l2:Addr} {ys:List V} {n:Nat} (hn1:xs.length=n) (hn2:ys.length=n) (f:Nat->Option V) (hD:H1 D=none) (hq1:bA K H1 l1 xs) (hq2:bA K H1 l2 ys) (hx:n<=100000)
 (hs:∀i x y H (G:Hp->Prop) (F:VK),xs[i]? = some x->ys[i]? = some y->Same H1 H->(∀H',Same H H'->f i=none->G H')->(∀y H',Same H H'->f i=some y->F y H')->tc (some x::some y::rest) H fun b H3=>if b=true then te (some x::some y::rest) H3 F else G H3)
 (hd:∀H,Same H1 H->H D=some (.lst ((List.range n).filterMap f))->Q (.ref D) H):oH (Itz K l1 l2) (V8 K 2 (O7 (gM 0) (O7 (gM 1) YB))) tc te Q D (none::none::rest) H1:=by
 refine Pk (K:=K) (xs:=xs) (ys:=ys) hn1 hn2 (fun i σ H=>(∃u v,σ=u::v::rest)/\Same H1 H/\H D=some (.lst ((List.range i).filterMap f))) ⟨⟨none,none,rfl⟩,aD hD,aq⟩ (fun i σ H _ ⟨_,sm,_⟩=>⟨sm.sqL _ _ hq1,sm.sqL _ _ hq2⟩) ?_ (fun σ H ⟨_,sm,e⟩=>hd H sm e);rintro i x y σ H p hix hiy ⟨⟨u,v,rfl⟩,sm,e⟩ hp;have sp:=aD (o:=HO.tup [x,y]) hp;refine ⟨p,[x,y],rfl,gC.of aq,rfl,_,_,rfl,_,_,rfl,rfl, ?_⟩;have hil:i<xs.length:=(List.getElem?_eq_some_iff.mp hix).1;refine hs i x y _ _ _ hix hiy (sm.trans sp) (fun H3 s3 ef=>⟨⟨_,_,rfl⟩,(sm.trans sp).trans s3,by rw [s3 _ _ (sp _ _ e),gB,ef];simp⟩) (fun y H4 s4 ef=> ?_);refine ⟨_,s4 _ _ (sp _ _ e), ?_,⟨_,_,rfl⟩,((sm.trans sp).trans s4).newly hD, ?_⟩
 ·have:=xM f i
  rw [sizeLine_eq];omega
 ·rw [aq,gB,ef];rfl
theorem Dz {α β:Type} {f g:α->Option β}:∀(l:List α) (_:True) (h:∀x∈l,f x=g x),l.filterMap f=l.filterMap g
 | [],_,_=>rfl
 | x::l,_,h=>by
   rw [List.filterMap_cons,List.filterMap_cons,h x (by simp),Dz l trivial fun y hy=>h y (by simp [hy])]
theorem snocInd {α:Type} {P:List α->Prop} (h0:P []) (hs:∀xs x,P xs->P (xs++[x])) (xs:List α):P xs:=by
 rw [←List.reverse_reverse xs]
 induction xs.reverse with
 | nil=>exact h0
 | cons x l ih=>rw [List.reverse_cons];exact hs _ _ ih
theorem Jg {α β:Type} (xs:List α) (g:α->β):(List.range xs.length).filterMap (fun i=>(xs[i]?).map g)=xs.map g:=by
 refine snocInd (P:=fun xs=>(List.range xs.length).filterMap (fun i=>(xs[i]?).map g)=xs.map g) rfl (fun xs x ih=> ?_) xs
 ·show (List.range (xs++[x]).length).filterMap (fun i=>((xs++[x])[i]?).map g)=(xs++[x]).map g
  rw [List.length_append,List.length_singleton,gB,List.map_append];congr 1
  ·rw [←ih]
   refine Dz _ trivial fun i hi=> ?_;have:i<xs.length:=by simpa using hi
   rw [List.getElem?_append_left this]
  ·simp
end
end L2
namespace L2
open PySem
section
variable {X:Cx} {K:PySem.W.Frag}
theorem Nz (h:X.K=K):pX X (binaryOp .Add) (T4 K):=by subst h;exact Rn
end
end L2
namespace L2
open PySem
theorem jA {a b:TS} {D:Ends} {σ:St} {H:Hp} (P:St->Hp->Prop) (h1:∀D':Ends,(∀σ' H',P σ' H'->D'.nx σ' H')->D'.rt=D.rt->a D' σ H) (h2:∀σ' H',P σ' H'->b D σ' H'):UL a b D σ H:=h1 _ h2 rfl
end L2
namespace L2
open PySem PySem.Spec PyProof.Rows
section
variable {X:Cx} {K:PySem.W.Frag} {a:Expr} {ta:TE} {pos:Pos}
def aby (K:PySem.W.Frag) (ta:TE):TT:=fun σ H Q=>ta σ H fun x H'=>∃k,Ws K x H' k/\Q k H'
theorem zm (h:X.K=K) (ha:PE X a ta) (he:∀whole,isTrue a X.env whole=(do let v ←whole;standAt a.pos;holding [v] (truthy v)):=by intro _;rfl):PT X a (aby K ta):=by
 subst h;exact Nb ha he
end
end L2
set_option Elab.async false
set_option linter.all false
set_option maxRecDepth 100000
set_option maxHeartbeats 4000000
namespace L2
open PySem PySem.Spec PyProof.Rows
section
variable {X:Cx} {K:PySem.W.Frag}
end
section
variable {K:PySem.W.Frag} {a D:Addr} {xs:List V} {te:TE} {Q:VK} {rest:St} {H1:Hp}
theorem KJ {H:Hp} {vs:List V} {ds:List PyData} {v:V} {d:PyData} (h:aL H vs ds) (hd:Dat H v d):aL H (vs++[v]) (ds++[d]):=aL.append h (by simp only [aL,and_true];exact hd)
end
end L2
set_option Elab.async false
set_option linter.all false
namespace L2
open PySem
def Gv (mg:Str->Option Value) (x:Str) (v:V):Prop:=∃u,mg x=some u/\RelV v u
end L2
set_option Elab.async false
set_option linter.all false
set_option maxRecDepth 100000
set_option maxHeartbeats 4000000
namespace L2
open PySem PySem.Spec PyProof.Rows
section
variable {prog:Program} {w:World} {K:Type} [DecidableEq K] {knd:HeapKind prog w K}
end
section
variable {X:Cx} {o e f:Expr} {td ty tx:TE} {apos cpos:Pos}
end
end L2
namespace L2
open PySem PySem.Spec PyProof.Rows
section
variable {X:Cx} {K:PySem.W.Frag}
end
end L2
namespace L2
open PySem
end L2
set_option Elab.async false
set_option linter.all false
set_option maxRecDepth 100000
set_option maxHeartbeats 4000000
namespace L2
open PySem PySem.Spec PyProof.Rows
section
variable {X:Cx} {K:PySem.W.Frag}
theorem Bw:∀{ys:List Str} {us:List Value},Vals (ys.map V.str) us->StrsAre us ys
 | [],us,r=>by cases r;exact .nil
 | y::ys,us,r=>by
   cases r with
   | cons r rs=>
     obtain ⟨t,rfl⟩:=r;exact .cons y t (Bw rs)
def rJoin (K:PySem.W.Frag):V->List V->Hp->VK->Prop:=fun x vs H Q=>∃(sep:Str) (l:Addr) (ys:List Str),x = .str sep/\vs=[.ref l]/\bA K H l (ys.map V.str)/\(ys.map (·.length)).sum+ys.length*sep.length<=16777216/\Q (.str (Txt.join sep ys)) H
theorem rR (h:X.K=K):MtR X "str.join" (rJoin K):=by
 subst h;intro pins s σ H x vs v us Q I rx rv h;obtain ⟨sep,l,ys,rfl,rfl,hq,hz,q⟩:=h;obtain ⟨t,rfl⟩:=rx;obtain ⟨u,rfl,ru⟩:=rv.one;cases ru;obtain ⟨its,r',pl,hz'⟩:=I.list hq;exact join_list pl.isList (by simpa using Bw r') hz fun t' k=>⟨.str _,H,I.tok _,⟨_,rfl⟩,q⟩
end
def cat:List Str->Str
 | []=>Str.empty
 | x::xs=>x++cat xs
theorem iR (a:Str):a++Str.empty=a:=by
 cases a;show (⟨_ ++ #[]⟩:Str)=_;simp
theorem glued_cons (sep x:Str) (xs:List Str):Txt.join sep (x::xs)=x++cat (xs.map (sep ++ ·)):=by
 have key:∀(xs:List Str) (a:Str),(⟨xs.foldl (fun acc p=>acc++sep.cps++p.cps) a.cps⟩:Str)=a++cat (xs.map (sep ++ ·)):=by
  intro xs
  induction xs with
  | nil=>intro a;exact (iR a).symm
  | cons y ys ih=>
    intro a;have:=ih ⟨a.cps++sep.cps++y.cps⟩;rw [List.foldl_cons,this,List.map_cons,cat,←Str.append_assoc,←Str.append_assoc];rfl
 exact key xs x
theorem Ry:∀n:Fin 1001,(Str.ofString (toString (n.val:Int))).length<=4:=by decide +kernel
theorem eX {i:Int} (h0:0<=i) (h1:i<=1000):(Str.ofString (toString i)).length<=4:=by
 have:=Ry ⟨i.toNat,by omega⟩;simp only at this;rwa [show ((i.toNat:Nat):Int)=i by omega] at this
theorem Iw {i:Int} (h0:0<=i) (h1:i<=1000):i.natAbs.log2<1920:=by
 have:i.natAbs.log2<=i.natAbs:=Nat.log2_le_self _;omega
end L2
set_option Elab.async false
set_option linter.all false
set_option maxRecDepth 100000
set_option maxHeartbeats 4000000
namespace L2
open PySem PySem.Spec PyProof.Rows
section
variable {X:Cx} {body suite:List Stmt} {b0:Stmt} {cn:Str} {Dc:Addr} {tb:(St->XK)->TS} {th:TS} {cp hpos pos:Pos}
end
end L2
namespace L2
open PySem PySem.Spec PyProof.Rows
section
variable {X:Cx}
def aac (i j:Int):Prop:=0<j/\j<1329227995784915872903807060280344576
theorem Ny:pX X (binaryOp .FloorDiv) (rI aac fun i j=> .int (i / j)):=Yc fun i j _ _ _ _ _ hc q=>by
 have h1:(0:Int)<j:=hc.1;have h2:j<1329227995784915872903807060280344576:=hc.2;refine floordiv_int (by omega) (by rw [Int.fdiv_eq_ediv_of_nonneg i (by omega)];exact q) (.inl ?_);unfold Builtin.divisionGoesByPylong;have hn:j.natAbs<2 ^ 120:=by omega
 have hl:j.natAbs.log2<120:=(Nat.log2_lt (by omega)).mpr hn
 have hz:(j==0)=false:=by
  rw [beq_eq_false_iff_ne];omega
 simp only [hz,Bool.false_eq_true,if_false];have:¬j.natAbs.log2 / 30+1>300:=by omega
 rw [decide_eq_false this,Bool.false_and]
end
end L2
set_option Elab.async false
set_option linter.all false
set_option maxRecDepth 100000
set_option maxHeartbeats 4000000
namespace L2
open PySem PySem.Spec PyProof.Rows
section
variable {X:Cx} {pins:List (Addr×Obj)} {σ:St} {H:Hp} {s:Shared} {d:Addr} {u u':HO}
theorem Inv.TV (I:Inv X pins σ H s) (e:H d=some u) (h1:∀xs,u ≠ .tup xs) (h2:∀a,u ≠ .own a) (h3:∀ps,u ≠ .QF ps) (hz:∀o v,X.H₀ d≠some (.m6 o v)) (ok:cM X.prog X.w (upd H d u') s.heap d u'):Inv X pins σ (upd H d u') s:=by
 have nd:∀{b:Addr},H b=none->b≠d:=fun q z=>by rw [z,e] at q;cases q
 have ht:∀b xs,H b=some (HO.tup xs)->(upd H d u') b=some (HO.tup xs):=fun b xs q=>by
  have:b≠d:=fun z=>by rw [z,e] at q;exact h1 xs (Option.some.inj q)
  rw [aN this];exact q
 refine ⟨I.ok,I.os,I.bare,⟨I.base.keep,I.base.slot,fun b o q n hx=> ?_,I.base.there,fun b xs q=>ht b xs (I.base.tups b xs q),fun b o v q=> ?_,fun b ps q=> ?_⟩,I.loc,I.cell, ?_,fun x c q=> ?_,fun p hp=> ?_,fun b v q=> ?_,I.len⟩
 ·have:=I.base.free b o q n hx
  rw [aN (nd this)];exact this
 ·have:=I.base.pH b o v q
  have nb:b≠d:=fun z=>by rw [z] at q;exact hz o v q
  rw [aN nb];exact this
 ·obtain ⟨more,r⟩:=I.base.rB b ps q
  have nb:b≠d:=fun z=>by rw [z,e] at r;exact h3 _ (Option.some.inj r)
  exact ⟨more,by rw [aN nb];exact r⟩
 ·rw [aN (nd I.free)];exact I.free
 ·rw [aN (nd (I.gO x c q))];exact I.gO x c q
 ·obtain ⟨q1,q2,q3⟩:=I.pin p hp
  exact ⟨q1,by rw [aN (nd q2)];exact q2,q3⟩
 ·by_cases hb:b=d
  ·subst hb
   rw [aq] at q;cases q;exact ok
  ·rw [aN hb] at q
   refine (I.hok b v q).stay (fun _ _ _ r=>r) (fun c r=> ?_) ht;have:c≠d:=fun z=>by rw [z,e] at r;exact h2 _ (Option.some.inj r)
   rw [aN this];exact r
theorem Inv.Ua {kvs:List (Key×V)} (I:Inv X pins σ H s) (e:H d=some (.dK kvs)):∀o v,X.H₀ d≠some (.m6 o v):=fun o v q=>by
 have:=I.base.pH d o v q;rw [e] at this;cases this
theorem Inv.freeze {kvs:List (Key×V)} {o:Obj} (I:Inv X pins σ H s) (e:H d=some (.dK kvs)) (ho:s.heap.get? d=some o):Inv X pins σ (upd H d (.m6 o (.dK kvs))) s:=by
 refine I.TV e (fun _ z=>by cases z) (fun _ z=>by cases z) (fun _ z=>by cases z) (I.Ua e) ⟨ho, ?_⟩;obtain ⟨z,y,vs,r,dd⟩:=(show cM X.prog X.w H s.heap d (.dK kvs) from I.hok d _ e);exact ⟨z,y,vs,r,dd⟩
theorem Inv.abv {kvs:List (Key×V)} {o:Obj} (I:Inv X pins σ H s) (e:H d=some (.m6 o (.dK kvs))) (hz:∀o v,X.H₀ d≠some (.m6 o v)):Inv X pins σ (upd H d (.dK kvs)) s:=by
 refine I.TV e (fun _ z=>by cases z) (fun _ z=>by cases z) (fun _ z=>by cases z) hz ?_;obtain ⟨_,z,y,vs,r,dd⟩:=(show cM X.prog X.w H s.heap d (.m6 o (.dK kvs)) from I.hok d _ e);exact ⟨z,y,vs,r,dd⟩
end
def Z9 (d:Addr) (o:Obj) (kvs:List (Key×V)):It:=
 ⟨fun i H=>i<kvs.length/\H d=some (.m6 o (.dK kvs)),fun i H x H'=>H'=H /\ ∃k v,kvs[i]? = some (k,v)/\x=kV k,fun i H=>kvs.length<=i/\H d=some (.m6 o (.dK kvs))⟩
theorem VJ {kvs:List (Key×V)} {vs:List (Key×Value)} (r:KV kvs vs):∀(i:Nat) (k:Key) (v:V),kvs[i]? = some (k,v) -> ∃u,vs[i]? = some (k,u):=by
 induction r with
 | nil=>intro i k v h;cases h
 | cons h r ih=>
   intro i k v e;cases i with
   | zero=>
     have e':=Option.some.inj e;rename_i p q _ _;obtain ⟨h1,h2⟩:=h;obtain ⟨q1,q2⟩:=q;refine ⟨q2, ?_⟩;have:q1=k:=by rw [e'] at h1;exact h1.symm
     subst this;rfl
   | succ i=>exact ih i k v (by simpa using e)
theorem JF {P:Program} {w:World} {K:PySem.W.Frag} {tg:Expr} (d it:Addr) (o:Obj) (kvs:List (Key×V)) (es:Array DictEntry) (ep:Nat) (hd:o.data = .dict es ep):Turn P w K tg (Z9 d o kvs) [it] it (fun i h=>h.IsKeyIter it d i kvs.length ep) where
 mem:=by simp
 obj:=fun i h st b hb=>by
  have e:b=it:=by simpa using hb
  subst e;obtain ⟨o,e,c,d⟩:=st;exact ⟨o,e,fun v z=>by rw [d] at z;cases z⟩
 keep:=fun i h h' st k=>by
  obtain ⟨o,e,c,d⟩:=st;exact ⟨o,k it (by simp) o e,c,d⟩
 item:=by
  intro X hP hw hK hc i pins s σ H E I hf st hg;subst hP hw hK;obtain ⟨hi,hH⟩:=hg;obtain ⟨ho,z,y,vs,r,o',es',ep',q1,q2,q3,q4,q5,q6⟩:=(show cM X.prog X.w H s.heap d (.m6 o (.dK kvs)) from I.hok d _ hH);rw [ho] at q1;cases q1;rw [hd] at q3;cases q3;have hl:kvs.length=vs.length:=r.length;obtain ⟨k,v,ekv⟩:∃k v,kvs[i]? = some (k,v):=⟨kvs[i].1,kvs[i].2,by simp [hi]⟩;obtain ⟨u,eu⟩:=VJ r i k v ekv;obtain ⟨f0,f1,f2,f3,f4,f5⟩:=hf it (by simp);refine wpAny_pyNext_dict_item (knd:=cJ X.prog X.w) (by rw [←hl];exact st) ⟨o,es,ho,q2,hd,q4,q5,q6⟩ eu fun key h' hk st' sb=> ?_;have I1:Inv X pins σ H {s with heap:=h'}:=I.turned (t':=s.toks) (fun b o hb e=>(sb.2 b hb).trans e) f0 f1 f3 f4 f5;obtain ⟨ob,e,c,dd⟩:=id st'
  have rk:RelV (kV k) key:=by
   rw [GD] at hk;rcases dB hk with ⟨j,t,e1,e2⟩|⟨x,t,e1,e2⟩
   ·subst e1;subst e2;exact ⟨t,rfl⟩
   ·subst e1;subst e2;exact ⟨t,rfl⟩
  exact ⟨key,rfl,Dw (s:={s with heap:=h'}) e c dd (by decide) ⟨kV k,H,I1,rk,⟨rfl,k,v,ekv,rfl⟩,by rw [hl];exact st',fun b hb=>(hf b hb).1⟩⟩
 done:=by
  intro X hP hw hK hc i pins s σ H E I hf st hg;subst hP hw hK;obtain ⟨hi,hH⟩:=hg;obtain ⟨ho,z,y,vs,r,o',es',ep',q1,q2,q3,q4,q5,q6⟩:=(show cM X.prog X.w H s.heap d (.m6 o (.dK kvs)) from I.hok d _ hH);rw [ho] at q1;cases q1;rw [hd] at q3;cases q3;have hl:kvs.length=vs.length:=r.length;obtain ⟨f0,f1,f2,f3,f4,f5⟩:=hf it (by simp);exact wpAny_pyNext_dict_end (knd:=cJ X.prog X.w) (I.ok.hd hc) (by rw [←hl];exact st) ⟨o,es,ho,q2,hd,q4,q5,q6⟩ (by simp;omega) fun h' eb=>⟨rfl,I.turned (t':=s.toks) (fun b o hb e=>eb b o hb e) f0 f1 f3 f4 f5⟩
 self:=fun _ _ _ _ _ st h=>wpAny_pyIter_keyiter st h
section
variable {X:Cx} {tg:Expr}
def Yw (tl:TE):TI:=fun σ H R=>tl σ H fun x H1=>∃d kvs,x = .ref d/\H1 d=some (.dK kvs) /\ ∀o,R (Z9 d o kvs) (upd H1 d (.m6 o (.dK kvs)))
theorem Rg {l:Expr} {tl:TE} (hl:PE X l tl):PI X tg l (Yw tl):=by
 intro pins s σ H R I h;refine cP (hl pins s σ H _ I h) fun v s1 ⟨x,H1,I1,r1,q1⟩=> ?_;obtain ⟨d,kvs,e,hH,q⟩:=q1;subst e;cases r1;obtain ⟨z,hd,vs,r,o,es,ep,ho,q2,q3,q4,q5,q6⟩:=Pb I1.hok hH;refine wpAny_pyIter_dict (knd:=cJ X.prog X.w) hd ⟨o,es,ho,q2,q3,q4,q5,q6⟩ ?_;have If:=I1.freeze hH ho;have hl:kvs.length=vs.length:=r.length
 have Vx:(upd H1 d (HO.m6 o (.dK kvs))) s1.heap.objs.size=none:=by
  rw [aN (Ne.symm (Nat.ne_of_lt (Heap.lt_size ho)))];exact I1.hok.fresh (Nat.le_refl _)
 refine ⟨s1.heap.objs.size,[s1.heap.objs.size],_,_,upd H1 d (.m6 o (.dK kvs)),rfl,If.kept (t':=s1.toks) fun b o e=>Heap.get?_push_of_some _ e,JF d _ o kvs es ep q3,⟨_,Heap.get?_push_size _ rfl,rfl,by rw [hl];rfl⟩,fun b hb=> ?_,q o⟩;have e:b=s1.heap.objs.size:=by simpa using hb
 subst e;exact If.Ar (Nat.le_refl _) Vx
end
section
variable {d D:Addr} {o:Obj} {kvs:List (Key×V)} {tc:TT} {te:TE} {Q:VK} {rest:St} {H1:Hp}
end
def ahh (H H' Tq:Hp):Prop:=∃d Yq o kvs,H d=some (.dK Yq)/\H' d=some (.m6 o (.dK kvs))/\Tq=upd H' d (.dK kvs)
def Xq (t:TS):TS:=fun D σ H=>t {D with nx:=fun σ' H'=>∃Tq,ahh H H' Tq/\D.nx σ' Tq} σ H
theorem Q8 {X:Cx} {st:Stmt} {t:TS} (h:PS X st t):PS X st (Xq t):=by
 intro pins s σ H D I q;refine wpAny_mono (h pins s σ H _ I q) (fun f s1 q1=> ?_) fun _ _ z=>z;cases f with
 | next=>
   obtain ⟨σ1,H1,I1,H2,⟨d,Yq,o,kvs,e1,e2,rfl⟩,q2⟩:=q1;exact ⟨σ1,_,I1.abv e2 (I.Ua e1),q2⟩
 | brk=>exact q1
 | cont=>exact q1
 | ret u=>exact q1
end L2
set_option Elab.async false
set_option linter.all false
set_option maxRecDepth 100000
set_option maxHeartbeats 4000000
namespace L2
open PySem PySem.Spec PyProof.Rows
theorem O8 {d:Addr} {o:Obj} {kvs:List (Key×V)} {g:TG} {tb:TS} {D:Ends} {σ:St} {H:Hp} (Pv:Nat->St->Hp->Prop) (h0:Pv 0 σ H) (hl:∀i σ H,i<=kvs.length->Pv i σ H->H d=some (.m6 o (.dK kvs)))
 (hs:∀i k v σ H,kvs[i]? = some (k,v)->Pv i σ H->g (kV k) σ H fun σ2 H2=>tb {D with nx:=Pv (i+1),ct:=Pv (i+1),bk:=D.nx} σ2 H2) (hd:∀σ H,Pv kvs.length σ H->D.nx σ H):
 ∃W:Nat->Nat->St->Hp->Prop,(∃m,W 0 m σ H) /\ ∀i m σ H,W i m σ H ->
  ((Z9 d o kvs).stop i H/\D.nx σ H)\/((Z9 d o kvs).go i H /\ ∃N:St->Hp->Prop,(∀σ' H',N σ' H' -> ∃m',m'<m/\W (i+1) m' σ' H') /\ ∀x H',(Z9 d o kvs).Uz i H x H'->g x σ H' fun σ2 H2=>tb {D with nx:=N,ct:=N,bk:=D.nx} σ2 H2):=by
 refine ⟨fun i m σ H=>m=kvs.length - i/\i<=kvs.length/\Pv i σ H,⟨kvs.length,by simp,Nat.zero_le _,h0⟩, ?_⟩;rintro i m σ H ⟨rfl,hi,p⟩;have q:=hl i σ H hi p
 by_cases hlt:i<kvs.length
 ·refine .inr ⟨⟨hlt,q⟩,Pv (i+1),fun σ' H' p'=>⟨kvs.length - (i+1),by omega,rfl,hlt,p'⟩,fun x H' y=> ?_⟩
  obtain ⟨rfl,k,v,e,rfl⟩:=y;exact hs i k v σ _ e p
 ·have e:i=kvs.length:=by omega
  subst e;exact .inl ⟨⟨Nat.le_refl _,q⟩,hd σ H p⟩
def yP (hs:List Int) (g:Int->Int):List (Key×V):=hs.map fun h=>(Sum.inl h,V.int (g h))
theorem Ai {hs:List Int} {g:Int->Int}:∀(h:Int),rA (yP hs g) (Sum.inl h)=if h∈hs then some (V.int (g h)) else none:=by
 intro h
 induction hs with
 | nil=>rfl
 | cons x hs ih=>
   show rA ((Sum.inl x,V.int (g x))::yP hs g) _=_
   by_cases e:x=h
   ·subst e
    rw [q_ rfl,if_pos (List.mem_cons_self ..)]
   ·rw [rm (fun z=>e (Sum.inl.inj z)),ih]
    by_cases m:h∈hs
    ·rw [if_pos m,if_pos (List.mem_cons_of_mem _ m)]
    ·rw [if_neg m,if_neg (fun z=>(List.mem_cons.mp z).elim (fun z=>e z.symm) m)]
def Dy (g:Int->Int) (h v:Int):Int->Int:=fun x=>if x=h then v else g x
def hAdd (hs:List Int) (h:Int):List Int:=if h∈hs then hs else hs++[h]
theorem RL {hs:List Int} {g:Int->Int} (h v:Int):putK (yP hs g) (Sum.inl h) (V.int v)=yP (hAdd hs h) (Dy g h v):=by
 unfold putK hAdd;rw [vZ,Ai]
 by_cases m:h∈hs
 ·rw [if_pos m,Option.isSome_some,if_pos rfl,if_pos m]
  unfold yP;rw [List.map_map];refine List.map_congr_left fun x _=> ?_;simp only [Function.comp,Dy]
  by_cases e:x=h
  ·subst e;simp
  ·rw [if_neg (fun z=>e (Sum.inl.inj z)),if_neg e]
 ·rw [if_neg m,if_neg (by simp),if_neg m]
  unfold yP;rw [List.map_append];congr 1
  ·refine List.map_congr_left fun x hx=> ?_
   have:x≠h:=fun z=>m (z▸hx);simp only [Dy,if_neg this]
  ·simp [Dy]
theorem wO:∀(n:Nat) (hs:List Int),hs.Nodup->(∀h∈hs,0<=h/\h<(n:Int))->hs.length<=n
 | 0,hs,_,hr=>by
   cases hs with
   | nil=>exact Nat.le_refl _
   | cons x hs=>have:=hr x (List.mem_cons_self ..);omega
 | n+1,hs,nd,hr=>by
   have ih:=wO n (hs.erase (n:Int)) (nd.erase _) fun h hh=>by
    have h1:=(nd.mem_erase_iff).mp hh;have h2:=hr h h1.2;have:=h1.1;omega
   by_cases m:(n:Int)∈hs
   ·rw [List.length_erase_of_mem m] at ih;omega
   ·rw [List.erase_of_not_mem m] at ih;omega
theorem R_ {hs:List Int} {h:Int} (nd:hs.Nodup):(hAdd hs h).Nodup:=by
 unfold hAdd
 by_cases m:h∈hs
 ·rw [if_pos m];exact nd
 ·rw [if_neg m]
  rw [List.nodup_append];exact ⟨nd,by simp,fun a ha b hb e=>by simp at hb;subst hb;subst e;exact m ha⟩
theorem xu {hs:List Int} {h x:Int}:x∈hAdd hs h↔x∈hs\/x=h:=by
 unfold hAdd
 by_cases m:h∈hs
 ·rw [if_pos m]
  exact ⟨.inl,fun z=>z.elim id fun e=>e▸m⟩
 ·rw [if_neg m];simp
structure jz (H:Hp) (d:Addr) (g:Int->Int):Prop where
 ex:∃hs:List Int,H d=some (.dK (yP hs g))/\hs.Nodup/\(∀h∈hs,0<=h/\h<8) /\ ∀h,h∉hs->g h=0
 nn:∀h,0<=g h
theorem jz.get {H:Hp} {d:Addr} {g:Int->Int} (k:jz H d g):∃kvs,H d=some (.dK kvs)/\kvs.length<=8 /\ ∀h:Int,(rA kvs (Sum.inl h)).getD (.int 0) = .int (g h):=by
 obtain ⟨hs,e,nd,r,z⟩:=k.ex;refine ⟨_,e,by rw [yP,List.length_map];exact wO 8 hs nd r,fun h=> ?_⟩;rw [Ai]
 by_cases m:h∈hs
 ·rw [if_pos m];rfl
 ·rw [if_neg m,z h m];rfl
theorem jz.put {H:Hp} {d:Addr} {g:Int->Int} {h v:Int} (k:jz H d g) (h0:0<=h) (h1:h<8) (v0:0<=v):∃kvs,H d=some (.dK kvs)/\kvs.length<sizeLine /\ ∀H',H' d=some (.dK (putK kvs (Sum.inl h) (.int v)))->jz H' d (Dy g h v):=by
 obtain ⟨hs,e,nd,r,z⟩:=k.ex;refine ⟨_,e, ?_,fun H' e'=>⟨⟨hAdd hs h,by rw [e',RL],R_ nd,fun x hx=> ?_,fun x hx=> ?_⟩,fun x=> ?_⟩⟩
 ·have:=wO 8 hs nd r
  rw [yP,List.length_map,sizeLine_eq];omega
 ·rcases xu.mp hx with hx|rfl
  ·exact r x hx
  ·exact ⟨h0,h1⟩
 ·have n1:x∉hs:=fun z=>hx (xu.mpr (.inl z))
  have n2:x≠h:=fun z=>hx (xu.mpr (.inr z));unfold Dy;rw [if_neg n2];exact z x n1
 ·unfold Dy
  split
  ·exact v0
  ·exact k.nn x
theorem jz.kp {H H':Hp} {d r:Addr} {g:Int->Int} (k:jz H d g) (kp:Kp r H H') (n:d≠r):jz H' d g:=by
 obtain ⟨hs,e,q⟩:=k.ex;exact ⟨⟨hs,kp _ _ e n,q⟩,k.nn⟩
theorem jz.same {H H':Hp} {d:Addr} {g:Int->Int} (k:jz H d g) (s:Same H H'):jz H' d g:=by
 obtain ⟨hs,e,q⟩:=k.ex;exact ⟨⟨hs,s _ _ e,q⟩,k.nn⟩
theorem jz.ext {H:Hp} {d:Addr} {g g':Int->Int} (k:jz H d g) (e:∀h,g h=g' h):jz H d g':=by
 have:g=g':=funext e;rw [←this];exact k
end L2
set_option Elab.async false
set_option linter.all false
set_option maxRecDepth 100000
set_option maxHeartbeats 4000000
namespace L2
open PySem PySem.Spec PyProof.Rows
def Qe (hi:Int) (n:Nat):It:=⟨fun i _=>i<n,fun i H x H'=>H'=H/\x = .int (hi - i),fun i _=>n<=i⟩
theorem BJ {P:Program} {w:World} {K:PySem.W.Frag} {tg:Expr} (it:Addr) (hi:Int) (n:Nat):Turn P w K tg (Qe hi n) [it] it (fun i h=>IsRangeIter h it (hi+(i:Nat)*(-1)) ((n:Int) - (i:Nat)) (-1)) where
 mem:=by simp
 obj:=fun i h st b hb=>by
  have e:b=it:=by simpa using hb
  subst e
  exact ⟨_,st,fun v z=>by
   have z':Data.fields _=Data.cell v:=z;cases z'⟩
 keep:=fun i h h' st k=>k it (by simp) _ st
 item:=by
  intro X hP hw hK hc i pins s σ H E I hf st hg;subst hP hw hK;obtain ⟨f0,f1,f2,f3,f4,f5⟩:=hf it (by simp);have W:=Walks.range (prog:=X.prog) (w:=X.w) (I.ok.hd hc) it hi (-1) n;refine W.item i s _ _ hg st fun v h' tk hv st' kk=> ?_;obtain ⟨t,rfl⟩:=hv;have I1:Inv X pins σ H {s with heap:=h',toks:=tk}:=I.turned (fun b o hb e=>kk b o (by simpa using hb) e) f0 f1 f3 f4 f5;refine ⟨_,rfl,Dw (s:={s with heap:=h',toks:=tk}) (n:= "range_iterator") st' rfl rfl (by decide) ⟨.int (hi - i),H,I1,⟨t, ?_⟩,⟨rfl,rfl⟩,st',fun b hb=>(hf b hb).1⟩⟩;congr 1;omega
 done:=by
  intro X hP hw hK hc i pins s σ H E I hf st hg;subst hP hw hK;obtain ⟨f0,f1,f2,f3,f4,f5⟩:=hf it (by simp);exact wpAny_pyNext_range_end (I.ok.hd hc) st (by have:n<=i:=hg;omega) fun h' eb=>⟨rfl,I.turned (t':=s.toks) (fun b o hb e=>eb b o hb e) f0 f1 f3 f4 f5⟩
 self:=fun _ _ _ _ _ st h=>wpAny_pyIter_rangeiter st h
section
variable {X:Cx} {tg:Expr}
theorem TQ (a b:Int):Builtin.Range.rangeSize a b (-1)=if a>b then a - b else 0:=by
 unfold Builtin.Range.rangeSize;rw [if_neg (by decide)];split
 ·simp
 ·rfl
theorem JL {a b:Int} (h1: -(2 ^ 61)<=a) (h2:a<2 ^ 61) (h3: -(2 ^ 61)<=b) (h4:b<2 ^ 61):Builtin.Range.small a b (-1)=true:=by
 unfold Builtin.Range.small;rw [TQ]
 have fits:∀z:Int, -(2 ^ 63)<=z->z<2 ^ 63->Builtin.Range.rangeFitsLong z=true:=fun z l1 l2=>by
  unfold Builtin.Range.rangeFitsLong;rw [decide_eq_true l1,decide_eq_true l2];rfl
 have f1:=fits (if a>b then a - b else 0) (by split<;>omega) (by split<;>omega);have f2:=fits (b+(-1+1)) (by omega) (by omega);simp only [fits a (by omega) (by omega),fits b (by omega) (by omega),fits (-1) (by decide) (by decide),f1,f2,Bool.and_self,Bool.true_and,show ¬((-1:Int)>0) by decide,if_false,Bool.or_true]
def Yv (ta:TA):TI:=fun σ H R=>ta σ H fun vs H1=>∃i j:Int,vs=[.int i,.int j,.int (-1)]/\(-(2 ^ 61)<=i/\i<2 ^ 61 /\ -(2 ^ 61)<=j/\j<2 ^ 61)/\R (Qe i (i - j).toNat) H1
theorem zq {a b c:Expr} {ta:TA} {p pos:Pos} (hg:Gl X "range") (hm:X.mg "range" = none) (ha:PA X [a,b,c] ta) (hs:starEach [a,b,c] X.env=[(false,eval a X.env),(false,eval b X.env),(false,eval c X.env)]:=by rfl) (hs2:starEach [b,c] X.env=[(false,eval b X.env),(false,eval c X.env)]:=by rfl):
 PI X tg (.Call (.Name "range" p) [a,b,c] [] pos) (Yv ta):=by
 intro pins s σ H R I h;refine Call_ (uh I hg hm boot_range (PyProof.Rows.callWith_type1 (cP (ha pos pins s σ H _ I h) fun us s1 ⟨vs,H1,I1,r1,q1⟩=> ?_) (by rw [hs,hs2]) (by rw [hs2];rfl)));obtain ⟨i,j,e,⟨q1,q2,q3,q4⟩,q⟩:=q1;subst e;cases r1 with
 | cons r rr=>
   cases rr with
   | cons r' rr=>
     cases rr with
     | cons r'' rr=>
       cases rr;obtain ⟨t,rfl⟩:=r;obtain ⟨t',rfl⟩:=r';obtain ⟨t'',rfl⟩:=r'';refine call_range_3 (by decide) ?_ (.inl (PyProof.noPylong_small (by decide)));refine wpAny_pyIter_range (IsRange.new ..) (JL q1 q2 q3 q4) ?_;have I2:Inv X pins σ H1 {s1 with heap:=s1.heap.push {cls:= .type "range",data:= .fields #[.int i t,.int j t',.int (-1) t'']}}:=I1.kept (t':=s1.toks) fun b o e=>Heap.get?_push_of_some _ e
       refine ⟨(s1.heap.push {cls:= .type "range",data:= .fields #[.int i t,.int j t',.int (-1) t'']}).objs.size,[(s1.heap.push {cls:= .type "range",data:= .fields #[.int i t,.int j t',.int (-1) t'']}).objs.size],_,_,H1,rfl,
        I2.kept (t':=s1.toks) fun b o e=>Heap.get?_push_of_some _ e,BJ _ i (i - j).toNat, ?_,fun b hb=> ?_,q⟩
       ·have e1:i+((0:Nat):Int)*(-1)=i:=by simp
        have e2:(((i - j).toNat:Nat):Int) - ((0:Nat):Int)=Builtin.Range.rangeSize i j (-1):=by rw [TQ];split<;>omega
        show IsRangeIter _ _ (i+((0:Nat):Int)*(-1)) ((((i - j).toNat:Nat):Int) - ((0:Nat):Int)) (-1);rw [e1,e2];exact Heap.get?_push_size _ rfl
       ·have e:b=(s1.heap.push {cls:= .type "range",data:= .fields #[.int i t,.int j t',.int (-1) t'']}).objs.size:=by simpa using hb
        subst e;exact I2.Ar (Nat.le_refl _) (I2.hok.fresh (Nat.le_refl _))
theorem xH {hi:Int} {n:Nat} {g:TG} {tb:TS} {D:Ends} {σ:St} {H:Hp} (Pv:Nat->St->Hp->Prop) (h0:Pv 0 σ H)
 (hs:∀i σ H,i<n->Pv i σ H->g (.int (hi - i)) σ H fun σ2 H2=>tb {D with nx:=Pv (i+1),ct:=Pv (i+1),bk:=D.nx} σ2 H2) (hd:∀σ H,Pv n σ H->D.nx σ H):
 ∃W:Nat->Nat->St->Hp->Prop,(∃m,W 0 m σ H) /\ ∀i m σ H,W i m σ H ->
  ((Qe hi n).stop i H/\D.nx σ H)\/((Qe hi n).go i H /\ ∃N:St->Hp->Prop,(∀σ' H',N σ' H' -> ∃m',m'<m/\W (i+1) m' σ' H') /\ ∀x H',(Qe hi n).Uz i H x H'->g x σ H' fun σ2 H2=>tb {D with nx:=N,ct:=N,bk:=D.nx} σ2 H2):=by
 refine ⟨fun i m σ H=>m=n - i/\i<=n/\Pv i σ H,⟨n,by simp,Nat.zero_le _,h0⟩, ?_⟩;rintro i m σ H ⟨rfl,hi',p⟩
 by_cases hlt:i<n
 ·refine .inr ⟨hlt,Pv (i+1),fun σ' H' p'=>⟨n - (i+1),by omega,rfl,hlt,p'⟩,fun x H' y=> ?_⟩
  obtain ⟨e,y⟩:=y;subst e y;exact hs i σ _ hlt p
 ·have e:i=n:=by omega
  subst e;exact .inl ⟨Nat.le_refl _,hd σ H p⟩
end
end L2
set_option Elab.async false
set_option linter.all false
set_option maxRecDepth 100000
set_option maxHeartbeats 4000000
namespace L2
open PySem PySem.Spec PyProof.Rows
section
variable {X:Cx} {tg:Expr}
end
end L2
set_option Elab.async false
set_option linter.all false
set_option maxRecDepth 100000
set_option maxHeartbeats 4000000
namespace L2
open PySem PySem.Spec PyProof.Rows
section
variable {X:Cx}
end
end L2
set_option Elab.async false
set_option linter.all false
set_option maxRecDepth 100000
set_option maxHeartbeats 4000000
namespace L2
open PySem PySem.Spec PyProof.Rows
section
variable {H H':Hp}
mutual
theorem Dat.same (k:Same H H'):∀(d:PyData) {v:V},Dat H v d->Dat H' v d
 | .none,_,h=>by simp only [Dat] at h ⊢;exact h
 | .bool _,_,h=>by simp only [Dat] at h ⊢;exact h
 | .int _,_,h=>by simp only [Dat] at h ⊢;exact h
 | .str _,_,h=>by simp only [Dat] at h ⊢;exact h
 | .list ds,_,h=>by simp only [Dat] at h ⊢;obtain ⟨a,vs,e,q,r⟩:=h;exact ⟨a,vs,e,k _ _ q,aL.same k ds r⟩
 | .tuple ds,_,h=>by simp only [Dat] at h ⊢;obtain ⟨a,vs,e,q,r⟩:=h;exact ⟨a,vs,e,k _ _ q,aL.same k ds r⟩
 | .dict _,_,h=>by simp only [Dat] at h
theorem aL.same (k:Same H H'):∀(ds:List PyData) {vs:List V},aL H vs ds->aL H' vs ds
 | [],[],_=>by simp only [aL]
 | d::ds,v::vs,h=>by simp only [aL] at h ⊢;exact ⟨Dat.same k d h.1,aL.same k ds h.2⟩
 | _::_,[],h=>by simp only [aL] at h
 | [],_::_,h=>by simp only [aL] at h
end
end
section
variable {X:Cx} {K:PySem.W.Frag}
inductive PlT (H:Hp):V->Value->Prop where
 | int (i:Int):PlT H (.int i) (.type "int")
 | lst {a:Addr} {xs:List V} (e:H a=some (.lst xs)):PlT H (.ref a) (.type "list")
 | tup {a:Addr} {xs:List V} (e:H a=some (.tup xs)):PlT H (.ref a) (.type "tuple")
def XQ (K:PySem.W.Frag):List V->Hp->VK->Prop:=fun xs H Q=>∃(x:V) (t:Value) (p:Addr) (ns:List String) (b:Bool),xs=[x,.ref p]/\PlT H x t/\H p=some (.tup (ns.map V.ty))/\PySem.W.kitAny K t (ns.map Value.type)=some b/\Q (.bl b) H
theorem Fi {ns:List String}:∀{us:List Value},Vals (ns.map V.ty) us->us=ns.map Value.type:=by
 induction ns with
 | nil=>intro us r;cases r;rfl
 | cons c cs ih=>
   intro us r;cases r with
   | cons r rs=>cases (show _=Value.type c from r);rw [ih rs];rfl
theorem Hl (hk:X.K=K):iJ X (.builtin "isinstance") (XQ K):=by
 subst hk;intro pins s σ H xs us Q I r h;obtain ⟨x,t,p,ns,b,rfl,ty,hp,e,q⟩:=h;obtain ⟨u,w',rfl,r1,r2⟩:=vals2 r;cases (show w'=Value.ref p from r2);obtain ⟨its,rv,⟨o,ho,hc,m,hd⟩,hz⟩:=I.tuple (gC.of hp);have ei:=Fi rv;subst ei;obtain ⟨c0,d0,dt,sl⟩:=o;simp only at hc hd;subst hc hd;cases ty with
 | int i=>obtain ⟨t,q1⟩:=(show ∃t,u=Value.int i t from r1);cases q1;exact PySem.W.kia_tup PySem.W.kitx_int I.lF True.intro ho e (fun z=>nomatch z) fun tk=>⟨.bl b,H,I.tok _,rfl,q⟩
 | @lst a xs ea=>
   cases (show u=Value.ref a from r1);obtain ⟨_,_,n,_,h1⟩:=(show cM X.prog X.w H s.heap a (.lst xs) from I.hok a _ ea);exact PySem.W.kia_tup PySem.W.kitx_list I.lF ⟨_,h1,rfl⟩ ho e (fun z=>nomatch z) fun tk=>⟨.bl b,H,I.tok _,rfl,q⟩
 | @tup a xs ea=>
   cases (show u=Value.ref a from r1);obtain ⟨_,_,_,p⟩:=(show cM X.prog X.w H s.heap a (.tup xs) from I.hok a _ ea);obtain ⟨o,h1,h2,_⟩:=p;exact PySem.W.kia_tup PySem.W.kitx_tuple I.lF ⟨o,h1,h2⟩ ho e (fun z=>nomatch z) fun tk=>⟨.bl b,H,I.tok _,rfl,q⟩
theorem En (K:PySem.W.Frag):PySem.W.kitAny K (.type "list") (["list","tuple"].map Value.type)=some true:=by kernel_rfl
theorem Bc (K:PySem.W.Frag):PySem.W.kitAny K (.type "tuple") (["list","tuple"].map Value.type)=some true:=by kernel_rfl
theorem Hr (K:PySem.W.Frag):PySem.W.kitAny K (.type "int") (["list","tuple"].map Value.type)=some false:=by kernel_rfl
theorem nZ (K:PySem.W.Frag):PySem.W.kitOne K (.type "tuple") (.type "list")=some false:=by kernel_rfl
theorem n_ (K:PySem.W.Frag):PySem.W.kitOne K (.type "list") (.type "tuple")=some false:=by kernel_rfl
end
section
variable {K:PySem.W.Frag} {a D:Addr} {xs:List V} {tc:TT} {te:TE} {Q:VK} {rest:St} {H1:Hp}
theorem Al {f:Nat->Option PyData} (hf:∀i d,f i=some d->Qt d=true):∀l:List Nat,Dp (l.filterMap f)=true
 | []=>rfl
 | i::l=>by
   rw [List.filterMap_cons];cases e:f i with
   | none=>exact Al hf l
   | some d=>simp only [Dp,hf i d e,Al hf l,Bool.and_self]
theorem K4 (f:Nat->Option PyData) (hf:∀i d,f i=some d->Qt d=true) (hD:H1 D=none) (hq:bA K H1 a xs) (hx:xs.length<=100000)
 (hs:∀i x H (G:Hp->Prop) (F:VK),xs[i]? = some x->Same H1 H->(∀H',Same H H'->f i=none->G H')->(∀y d H',Same H H'->f i=some d->Dat H' y d->F y H')->tc (some x::rest) H fun b H3=>if b=true then te (some x::rest) H3 F else G H3)
 (hd:∀H vs,Same H1 H->H D=some (.lst vs)->aL H vs ((List.range xs.length).filterMap f)->Q (.ref D) H):oH (Uy K a) (gM 0) tc te Q D (none::rest) H1:=by
 refine uy (K:=K) (xs:=xs) (fun i σ H=>(∃v,σ=v::rest)/\Same H1 H /\ ∃vs,H D=some (.lst vs)/\aL H vs ((List.range i).filterMap f)) ⟨⟨none,rfl⟩,aD hD,[],aq,by simp [aL]⟩ (fun i σ H _ ⟨_,sm,_⟩=>sm.sqL _ _ hq) ?_ (fun σ H ⟨_,sm,vs,e,d⟩=>hd H vs sm e d);rintro i x σ H hi ⟨⟨v,rfl⟩,sm,vs,e,d⟩;have hil:i<xs.length:=(List.getElem?_eq_some_iff.mp hi).1;have im:=Al hf (List.range i);refine hs i x H _ _ hi sm (fun H3 s3 ef=>⟨⟨_,rfl⟩,sm.trans s3,vs,s3 _ _ e, ?_⟩) (fun y dd H4 s4 ef dy=> ?_)
 ·rw [gB,ef]
  simpa using aL.keep s3.tups _ im d
 ·have hl:vs.length<=i:=by rw [d.length];exact xM f i
  have kp:Kp D H4 (upd H4 D (.lst (vs++[y]))):=Kp.set;have tp:=kp.tups (s4 _ _ e);refine ⟨vs,s4 _ _ e, ?_,⟨_,rfl⟩,(sm.trans s4).newly hD,vs++[y],aq, ?_⟩
  ·rw [sizeLine_eq];omega
  ·rw [gB,ef]
   exact KJ (aL.keep (fun a xs h=>tp _ _ (s4.tups _ _ h)) _ im d) (Dat.keep tp _ (hf i dd ef) dy)
end
section
variable {X:Cx}
end
end L2
set_option Elab.async false
set_option linter.all false
set_option maxRecDepth 100000
set_option maxHeartbeats 4000000
namespace L2
open PySem
section
variable {K:PySem.W.Frag} {a D:Addr} {xs:List V} {tc:TT} {te:TE} {Q:VK} {rest:St} {H1:Hp}
end
end L2
set_option Elab.async false
set_option linter.all false
set_option maxRecDepth 100000
set_option maxHeartbeats 4000000
namespace L2
open PySem PySem.Spec PyProof.Rows
section
variable {X:Cx} {K:PySem.W.Frag} {e st:Expr} {te tk:TE} {pos p2:Pos}
end
end L2
set_option Elab.async false
set_option linter.all false
set_option maxRecDepth 100000
set_option maxHeartbeats 4000000
namespace L2
open PySem PySem.Spec PyProof.Rows
section
variable {H:Hp}
mutual
theorem Dat.fn:∀(d e:PyData) {v:V},Dat H v d->Dat H v e->d=e
 | .none,e,v,h,g=>by cases e<;>simp only [Dat] at h g<;>first |rfl|(subst h;first |(obtain ⟨_,_,z,_⟩:=g;cases z;done)|(cases g;done))
 | .bool _,e,v,h,g=>by cases e<;>simp only [Dat] at h g<;>first |(subst h;first |(injection g with g;rw [g];done)|(obtain ⟨_,_,z,_⟩:=g;cases z;done)|(cases g;done))
 | .int _,e,v,h,g=>by cases e<;>simp only [Dat] at h g<;>first |(subst h;first |(injection g with g;rw [g];done)|(obtain ⟨_,_,z,_⟩:=g;cases z;done)|(cases g;done))
 | .str _,e,v,h,g=>by cases e<;>simp only [Dat] at h g<;>first |(subst h;first |(injection g with g;rw [g];done)|(obtain ⟨_,_,z,_⟩:=g;cases z;done)|(cases g;done))
 | .list ds,.list es,v,h,g=>by
   simp only [Dat] at h g;obtain ⟨a,vs,rfl,ha,da⟩:=h;obtain ⟨b,ws,e,hb,db⟩:=g;injection e with e
   subst e;rw [ha] at hb;injection hb with hb
   injection hb with hb
   subst hb;rw [aL.fn ds es da db]
 | .tuple ds,.tuple es,v,h,g=>by
   simp only [Dat] at h g;obtain ⟨a,vs,rfl,ha,da⟩:=h;obtain ⟨b,ws,e,hb,db⟩:=g;injection e with e
   subst e;rw [ha] at hb;injection hb with hb
   injection hb with hb
   subst hb;rw [aL.fn ds es da db]
 | .list ds,.tuple es,v,h,g=>by
   simp only [Dat] at h g;obtain ⟨a,vs,rfl,ha,da⟩:=h;obtain ⟨b,ws,e,hb,db⟩:=g;injection e with e
   subst e;rw [ha] at hb;injection hb with hb
   cases hb
 | .tuple ds,.list es,v,h,g=>by
   simp only [Dat] at h g;obtain ⟨a,vs,rfl,ha,da⟩:=h;obtain ⟨b,ws,e,hb,db⟩:=g;injection e with e
   subst e;rw [ha] at hb;injection hb with hb
   cases hb
 | .list ds,.none,v,h,g=>by simp only [Dat] at h g;obtain ⟨a,vs,rfl,_⟩:=h;cases g
 | .list ds,.bool _,v,h,g=>by simp only [Dat] at h g;obtain ⟨a,vs,rfl,_⟩:=h;cases g
 | .list ds,.int _,v,h,g=>by simp only [Dat] at h g;obtain ⟨a,vs,rfl,_⟩:=h;cases g
 | .list ds,.str _,v,h,g=>by simp only [Dat] at h g;obtain ⟨a,vs,rfl,_⟩:=h;cases g
 | .tuple ds,.none,v,h,g=>by simp only [Dat] at h g;obtain ⟨a,vs,rfl,_⟩:=h;cases g
 | .tuple ds,.bool _,v,h,g=>by simp only [Dat] at h g;obtain ⟨a,vs,rfl,_⟩:=h;cases g
 | .tuple ds,.int _,v,h,g=>by simp only [Dat] at h g;obtain ⟨a,vs,rfl,_⟩:=h;cases g
 | .tuple ds,.str _,v,h,g=>by simp only [Dat] at h g;obtain ⟨a,vs,rfl,_⟩:=h;cases g
 | .list ds,.dict _,v,h,g=>by simp only [Dat] at g
 | .tuple ds,.dict _,v,h,g=>by simp only [Dat] at g
 | .dict _,_,v,h,g=>by simp only [Dat] at h
theorem aL.fn:∀(ds es:List PyData) {vs:List V},aL H vs ds->aL H vs es->ds=es
 | [],[],_,_,_=>rfl
 | d::ds,e::es,v::vs,h,g=>by
   simp only [aL] at h g;rw [Dat.fn d e h.1 g.1,aL.fn ds es h.2 g.2]
 | [],_::_,[],_,g=>by simp only [aL] at g
 | [],_::_,_::_,h,_=>by simp only [aL] at h
 | _::_,[],[],h,_=>by simp only [aL] at h
 | _::_,[],_::_,_,g=>by simp only [aL] at g
 | _::_,_::_,[],h,_=>by simp only [aL] at h
end
end
section
variable {X:Cx}
end
end L2
set_option Elab.async false
set_option linter.all false
set_option maxRecDepth 100000
set_option maxHeartbeats 4000000
namespace L2
open PySem PySem.Spec PyProof.Rows
section
variable {X:Cx} {K:PySem.W.Frag} {e e1 e2 l:Expr} {te t1 t2 tl:TE} {pos:Pos} {tg:Expr}
end
section
variable {X:Cx}
def Ve:List V->Hp->VK->Prop:=fun xs H Q=>(∃i:Int,xs=[.int i]/\i.natAbs.log2<1920/\Q (.str (toString i)) H) \/ ∃x:Str,xs=[.str x]/\Q (.str x) H
theorem Hh:iJ X (.type "str") Ve:=by
 intro pins s σ H xs us Q I r h;rcases h with h|h
 ·exact mK pins s σ H xs us Q I r h
 ·obtain ⟨x,rfl,q⟩:=h
  obtain ⟨u,rfl,t,rfl⟩:=vals1 r;exact PySem.P.str_of_str ⟨.str _,H,I,⟨_,rfl⟩,q⟩
end
end L2
set_option Elab.async false
set_option linter.all false
set_option maxRecDepth 100000
set_option maxHeartbeats 4000000
namespace L2
open PySem PySem.Spec PyProof.Rows PySem.Builtin PySem.Builtin.Str
section
variable {X:Cx} {K:PySem.W.Frag}
end
section
variable {K:PySem.W.Frag} {D:Addr} {tc:TT} {te:TE} {Q:VK} {rest:St} {H1:Hp}
end
section
variable {X:Cx}
end
end L2
set_option Elab.async false
set_option linter.all false
set_option maxRecDepth 100000
set_option maxHeartbeats 4000000
namespace L2
open PySem PySem.Spec PyProof.Rows PySem.Builtin PySem.Builtin.Str
end L2
set_option Elab.async false
set_option linter.all false
set_option maxRecDepth 100000
set_option maxHeartbeats 4000000
namespace L2
open PySem PySem.Spec PyProof.Rows
section
variable (P:Program) (w:World) (K:PySem.W.Frag) (mg:Str->Option Value) (base:Heap)
def MethAt (k:Nat) (C:Addr) (m:Str) (ps:List Str) (sp:Sp):Prop:=∃f fd,cu P w K mg base jY k f fd ps sp/\Meth K C m f/\Binds K fd ps []
def mU (k:Nat) (C:Addr) (m:Str) (ps:List Str) (sp:Sp):Prop:=∃f fd,cu P w K mg base (yG P w) k f fd ps sp/\Meth K C m f/\Binds K fd ps []
def Bh (k:Nat) (C:Addr) (x:Str) (ps:List Str) (m7:List V) (sp:Sp):Prop:=∃f fd ds,cu P w K mg base jY k f fd ps sp/\Mk K C f/\mg x=some (.ref C)/\Binds K fd ps ds/\Vals m7 ds
def sW (k:Nat) (C:Addr) (x:Str) (ps:List Str) (m7:List V) (sp:Sp):Prop:=∃f fd ds,cu P w K mg base (yG P w) k f fd ps sp/\Mk K C f/\mg x=some (.ref C)/\Binds K fd ps ds/\Vals m7 ds
end
section
variable {P:Program} {w:World} {K:PySem.W.Frag} {mg:Str->Option Value} {base:Heap} {k:Nat} {C:Addr} {m x:Str} {ps:List Str} {sp:Sp} {m7:List V}
theorem cu.calm {f:Addr} {fd:FuncData} (G:cu P w K mg base (yG P w) k f fd ps sp):cu P w K mg base jY k f fd ps (fun vs H Q _=>sp vs H Q fun _ _ _=>False):=by
 refine ⟨fun vs H Q E q=>G.len vs H Q _ q,fun A outer s H args us vs Q E hr he hbd hv hs=> ?_⟩;refine codeAny_mono (G.run A outer s H args us vs Q (fun _ _ _=>False) hr he hbd hv hs) fun res s' hq=> ?_
 match res,hq with
 | .error ev,hq=>
   obtain ⟨e,cls,dx,H',_,_,_,_,_,_,_,_,z⟩:=hq;exact z.elim
 | .ok (.ret u),hq=>exact hq
theorem mU.calm (F:mU P w K mg base k C m ps sp):MethAt P w K mg base k C m ps (fun vs H Q _=>sp vs H Q fun _ _ _=>False):=by
 obtain ⟨f,fd,G,r⟩:=F;exact ⟨f,fd,G.calm,r⟩
theorem sW.calm (F:sW P w K mg base k C x ps m7 sp):Bh P w K mg base k C x ps m7 (fun vs H Q _=>sp vs H Q fun _ _ _=>False):=by
 obtain ⟨f,fd,ds,G,r⟩:=F;exact ⟨f,fd,ds,G.calm,r⟩
end
section
variable {X:Cx} {k:Nat} {C:Addr} {x m:Str} {ps:List Str} {sp:Sp} {m7:List V} {e o:Expr} {es:List Expr} {ta:TE} {t:TA} {p pos apos:Pos} {E:St->XK}
theorem Cm {pl:Sem Bool} (M:MethAt X.prog X.w X.K X.mg X.base k C m ps sp) (c:Cls X.K C) (hr:dg k X.A) (he:PE X o ta) (ha:PA X (e::es) t)
 (hst:starEach (e::es) X.env=(false,eval e X.env)::starEach es X.env:=by rfl) (hpl:(backTo pos (starEach es X.env)).any (·.1)=false:=by rfl)
 (ht:eval (.Call (.Attribute o m apos) (e::es) [] pos) X.env=(do
   let ov ←eval o X.env
   standAt apos.atName
   let (f,first) ←holding [ov] (getMethod ov m pl)
   callWith pos f first (backTo pos (starEach (e::es) X.env)) (backToKw pos (keywordEach [] X.env))):=by rfl):
 PE X (.Call (.Attribute o m apos) (e::es) [] pos) (H_ C m sp [] E0 ta t):=by
 obtain ⟨f,fd,G,hm,hb⟩:=M;exact Rh he c hm G hr hb .nil Cu ha hst hpl ht
theorem eZ {pl:Sem Bool} (M:MethAt X.prog X.w X.K X.mg X.base k C m ps sp) (c:Cls X.K C) (hr:dg k X.A) (he:PE X o ta)
 (ht:eval (.Call (.Attribute o m apos) [] [] pos) X.env=(do
   let ov ←eval o X.env
   standAt apos.atName
   let (f,first) ←holding [ov] (getMethod ov m pl)
   callWith pos f first (backTo pos (starEach [] X.env)) (backToKw pos (keywordEach [] X.env))):=by rfl):
 PE X (.Call (.Attribute o m apos) [] [] pos) (H_ C m sp [] E0 ta zT):=by
 obtain ⟨f,fd,G,hm,hb⟩:=M;exact Nq he c hm G hr hb .nil Cu ht
def U0 (C:Addr) (m:Str) (sp:Sp) (E:St->XK) (ta:TE) (t:TA):TE:=fun σ H Q=>ta σ H fun x H1=>∃a dx fs,x = .ref a/\H1 a=some (.ins C dx fs)/\fs.lookup m=none/\t σ H1 fun vs H2=>sp (x::vs) H2 Q (E σ)
theorem QZ {pins:List (Addr×Obj)} {σ:St} {H:Hp} {s:Shared} {Q:VK} {us:List Value} {vs:List V} {f:Addr} {fd:FuncData} (G:cu X.prog X.w X.K X.mg X.base (yG X.prog X.w) k f fd ps sp) (hx:X.ex=[]) (R:Rz X E) (hr:dg k X.A) (hb:Binds X.K fd ps [])
 (I:Inv X pins σ H s) (r:Vals vs us) (q:sp vs H Q (E σ)):wpAny (model X.prog X.w) X.A (call (.ref f) us) (EP X pins σ Q) X.xe s:=by
 have hlen:us.length=ps.length:=by rw [←r.length];exact G.len _ _ _ _ q
 have hbd:=hb s us I.lF (by rw [List.append_nil];exact hlen);rw [List.append_nil] at hbd;refine wpAny_call (codeAny_mono (G.run X.A X.stack s H ⟨us,[]⟩ us vs Q (E σ) hr I.env0 hbd r q) fun res s' hq=> ?_)
 match res,hq with
 | .error ev,hq=>exact Aa hx R I hq
 | .ok (.ret u),hq=>exact I.after hq
theorem Ck {pl:Sem Bool} (M:mU X.prog X.w X.K X.mg X.base k C m ps sp) (c:Cls X.K C) (hx:X.ex=[]) (R:Rz X E) (hr:dg k X.A) (he:PE X o ta) (ha:PA X (e::es) t)
 (hst:starEach (e::es) X.env=(false,eval e X.env)::starEach es X.env:=by rfl) (hpl:(backTo pos (starEach es X.env)).any (·.1)=false:=by rfl)
 (ht:eval (.Call (.Attribute o m apos) (e::es) [] pos) X.env=(do
   let ov ←eval o X.env
   standAt apos.atName
   let (f,first) ←holding [ov] (getMethod ov m pl)
   callWith pos f first (backTo pos (starEach (e::es) X.env)) (backToKw pos (keywordEach [] X.env))):=by rfl):
 PE X (.Call (.Attribute o m apos) (e::es) [] pos) (U0 C m sp E ta t):=by
 obtain ⟨f,fd,G,hm,hb⟩:=M;intro pins s σ H Q I h;refine PySem.W.methodCall_KW (pl:=pl) (cP (he pins s σ H _ I h) fun u s1 ⟨x,H1,I1,rx,a,dx,fs,ex,ea,l,q⟩=> ?_) ht;subst ex;obtain rfl:u=Value.ref a:=rx;refine qM I1 ea c hm l ?_;refine PySem.W.callWith_K (first:=[.ref a]) (h₀:=X.base) I.ok.mod.Ol hm.kp (cP (ha pos pins s1 σ H1 _ I1 q) fun us s2 ⟨vs,H2,I2,r,q2⟩=>⟨I2.lF, ?_⟩) hst hpl;exact QZ (us:= .ref a::us) (vs:= .ref a::vs) G hx R hr hb I2 (.cons rfl r) q2
theorem Cp (M:Bh X.prog X.w X.K X.mg X.base k C x ps m7 sp) (hr:dg (k+1) X.A) (hg:Gl X x) (ha:PA X (e::es) t) (hdb:(x==("__debug__" :Str))=false:=by decide)
 (he:starEach (e::es) X.env=(false,eval e X.env)::starEach es X.env:=by rfl) (hpl:(backTo pos (starEach es X.env)).any (·.1)=false:=by rfl):
 PE X (.Call (.Name x p) (e::es) [] pos) (TF C sp m7 E0 t):=by
 obtain ⟨f,fd,ds,G,mk,hm,hb,hd⟩:=M;exact Ri mk G hr hg hm hb hd Cu ha hdb he hpl
def U3 (C:Addr) (sp:Sp) (m7:List V) (E:St->XK) (t:TA):TE:=fun σ H Q=>t σ H fun vs H1=>∀x dx,H1 x=none->H1 dx=none->dx≠x ->
 sp (.ref x::(vs++m7)) (upd (upd H1 dx (.own x)) x (.ins C dx [])) (fun v H2=>v = .non/\Q (.ref x) H2) (E σ)
theorem JR {pins:List (Addr×Obj)} {σ:St} {H:Hp} {s:Shared} {Q:VK} {args:Args} {us:List Value} {vs:List V} {f:Addr} {fd:FuncData} (M:Mk X.K C f) (G:cu X.prog X.w X.K X.mg X.base (yG X.prog X.w) k f fd ps sp) (hx:X.ex=[]) (R:Rz X E) (hr:dg (k+1) X.A)
 (I:Inv X pins σ H s) (r:Vals vs us) (hb:∀s':Shared,X.K.In s'.heap -> ∀a:Addr,(Value.ref a::us).length=ps.length->BindsTo s' fd ⟨Value.ref a::args.pos,args.kw⟩ (ps.zip (Value.ref a::us)))
 (h:∀x dx,H x=none->H dx=none->dx≠x->sp (.ref x::vs) (upd (upd H dx (.own x)) x (.ins C dx [])) (fun v H2=>v = .non/\Q (.ref x) H2) (E σ)):
 wpAny (model X.prog X.w) X.A (call (.ref C) args.pos args.kw) (EP X pins σ Q) X.xe s:=by
 have hq:=h (s.heap.objs.size+1) s.heap.objs.size (I.hok.fresh (Nat.le_succ _)) (I.hok.fresh (Nat.le_refl _)) (Nat.ne_of_lt (Nat.lt_succ_self _));have I2:=Inv.made (C:=C) I;have r2:Vals (V.ref (s.heap.objs.size+1)::vs) (Value.ref (s.heap.objs.size+1)::us):= .cons rfl r
 have hl:(Value.ref (s.heap.objs.size+1)::us).length=ps.length:=by
  have e:=r2.length;rw [G.len _ _ _ _ hq] at e;exact e.symm
 refine wpAny_call (Dg (f:=f) I.lF M.makes M.init (beq_iff_eq.mp M.fn) (codeAny_mono (G.run _ X.stack _ _ ⟨Value.ref (s.heap.objs.size+1)::args.pos,args.kw⟩ (Value.ref (s.heap.objs.size+1)::us) _ _ (E σ) (hr.make C args.pos args.kw)
  (I2.env0.make C args.pos args.kw) (hb _ I2.lF _ hl) r2 hq) fun r s' hq'=> ?_))
 match r,hq' with
 | .error ev,hq'=>exact Aa hx R I2 hq'
 | .ok (.ret u),hq'=>
   obtain ⟨v,H',I3,rv,ev,q3⟩:=I2.after hq';subst ev;exact ⟨rv,⟨V.ref (s.heap.objs.size+1),H',I3,rfl,q3⟩⟩
theorem Nr (M:sW X.prog X.w X.K X.mg X.base k C x ps m7 sp) (hx:X.ex=[]) (R:Rz X E) (hr:dg (k+1) X.A) (hg:Gl X x) (ha:PA X (e::es) t) (hdb:(x==("__debug__" :Str))=false:=by decide)
 (he:starEach (e::es) X.env=(false,eval e X.env)::starEach es X.env:=by rfl) (hpl:(backTo pos (starEach es X.env)).any (·.1)=false:=by rfl):
 PE X (.Call (.Name x p) (e::es) [] pos) (U3 C sp m7 E t):=by
 obtain ⟨f,fd,ds,G,mk,hm,hb,hd⟩:=M;intro pins s σ H Q I h;refine wpAny_Call_Name_kw (mH I hg hm ?_ hdb);refine PySem.W.callWith_K (h₀:=X.base) I.ok.mod.Ol mk.kp (cP (ha pos pins s σ H _ I h) fun us s1 ⟨vs,H1,I1,r,q⟩=>⟨I1.lF, ?_⟩) he hpl;exact JR (args:=⟨us,[]⟩) (us:=us++ds) (vs:=vs++m7) mk G hx R hr I1 (r.append hd) (fun s' ki a hl=>hb s' (Value.ref a::us) ki hl) q
end
end L2
namespace L2
open PySem PySem.Spec PyProof.Rows PySem.Builtin PySem.Builtin.Str
section
variable {X:Cx} {K:PySem.W.Frag} {o e value:Expr} {f:Str} {pos pos' tpos:Pos} {ta tv:TE}
theorem bH (hK:X.K=K) (he:PE X e ta) (hb:attributeBase e f X.env (eval e X.env)=eval e X.env):PE X (.Attribute e f pos) (U4 K ta f):=by subst hK;exact Vk he hb
theorem jc (hK:X.K=K) (ha:PE X o ta) (hv:PE X value tv) (hs:swapsWith value (some (.Attribute o f pos')) pos.line X.env=pure false):PS X (.Assign [.Attribute o f pos'] value pos) (Xu K ta tv f):=by subst hK;exact Vg ha hv hs
end
section
variable {P:Program} {w:World} {K:PySem.W.Frag} {mg:Str->Option Value} {base:Heap}
end
section
variable {X:Cx} {k:Nat} {C:Addr} {x kn:Str} {ps:List Str} {sp:Sp} {e ke:Expr} {es:List Expr} {te:TE} {t:TA} {p pos kpos:Pos} {E:St->XK}
end
end L2
set_option Elab.async false
set_option linter.all false
set_option maxRecDepth 100000
set_option maxHeartbeats 4000000
namespace L2
open PySem PySem.Spec PyProof.Rows
theorem Cv {xc:Str}:∀(pre post:List (Str×NameKind)) (n:Nat) (acc:List (Str×Addr)) (h:Heap),(∀y∈pre++post,y.2 ≠ .cell) ->
 cellsFrom n (pre++(xc,.cell)::post) acc=(xc,n)::acc/\pushCells h (pre++(xc,.cell)::post)=h.push {cls:= .type "cell",data:= .cell none}
 | (m,k)::pre,post,n,acc,h,hn=>by
   have hk:(k==NameKind.cell)=false:=by simpa using hn (m,k) (by simp)
   have ih:=Cv (xc:=xc) pre post n acc h fun y hy=>hn y (by simp only [List.cons_append,List.mem_cons];exact .inr hy);rw [List.cons_append];unfold cellsFrom pushCells;simp only [hk,Bool.false_eq_true,if_false];exact ih
 | [],post,n,acc,h,hn=>by
   have Kd:∀(post:List (Str×NameKind)) (n:Nat) (acc:List (Str×Addr)) (h:Heap),(∀y∈post,y.2 ≠ .cell)->cellsFrom n post acc=acc/\pushCells h post=h:=by
    intro post
    induction post with
    | nil=>intro n acc h _;exact ⟨rfl,rfl⟩
    | cons y r ih=>
      intro n acc h hh;obtain ⟨m,k⟩:=y;have hk:(k==NameKind.cell)=false:=by simpa using hh (m,k) (by simp)
      unfold cellsFrom pushCells;simp only [hk,Bool.false_eq_true,if_false];exact ih n acc h fun y hy=>hh y (List.mem_cons_of_mem _ hy)
   rw [List.nil_append];unfold cellsFrom pushCells;simp only [beq_self_eq_true,if_true];exact Kd post (n+1) ((xc,n)::acc) _ fun y hy=>hn y (by simpa using hy)
structure bT (N own:List Str) (caps:List Nat) (XN:List Str) (outer scope:Scope) (xc:Str):Prop where
 kind:scope.kind = .function
 one:∃pre post,scope.names=pre++(xc,.cell)::post /\ ∀y∈pre++post,y.2 ≠ .cell
 xcl:scope.names.lookup xc=some .cell
 nof:(xc,NameKind.free)∉scope.names
 names:∀y∈scope.names,y.2 = .local->scope.names.lookup y.1=some .local
 free:∀y∈scope.names,y.2 = .free->outer.names.lookup y.1=some .cell\/outer.names.lookup y.1=some .free
 nd:N.Nodup
 len:N.length=own.length+caps.length
 cap:∀(j:Nat),j<caps.length->N[own.length+j]? = XN[caps.getD j 0]? /\ ∃x,N[own.length+j]? = some x/\(x,NameKind.free)∈scope.names/\scope.names.lookup x=some .free
def dR (X:Cx) (scope:Scope) (xc:Str) (C:Addr) (N:List Str) (s:Shared) (H:Hp) (fp:List Addr):Cx:=
 {X with N:=N,s₀:=s,H₀:=H,env:=compEnvC scope ((xc,Nat.succ C)::jR X.env scope.names []) C X.env,outer:=X.stack,ex:=fp,fn:=fun y=>decide (y=xc),pn:=[],xe:=fun _ _=>False}
section
variable {X:Cx} {pins:List (Addr×Obj)} {σ:St} {H:Hp} {s:Shared} {scope:Scope} {N own:List Str} {caps:List Nat} {fp:List Addr} {C:Nat} {xc:Str}
theorem bT.xV (S:bT N own caps X.N X.env.scope scope xc) (ok:X.Ok):∀y∈scope.names,y.2 = .free->(X.env.cells.lookup y.1).isSome=true:=fun y hy hf=>by
 obtain ⟨c,e⟩:=ok.has y.1 (S.free y hy hf);rw [e];rfl
theorem bT.csub (S:bT N own caps X.N X.env.scope scope xc) (ok:X.Ok) {x:Str} {c:Addr} (h:(jR X.env scope.names []).lookup x=some c):X.env.cells.lookup x=some c:=by
 rw [dY _ _ _ (S.xV ok)] at h;split at h
 ·exact h
 ·simp at h
theorem bT.look (S:bT N own caps X.N X.env.scope scope xc) (ok:X.Ok) {x:Str} {c:Addr} (h:((xc,Nat.succ C)::jR X.env scope.names []).lookup x=some c):(x=xc/\c=Nat.succ C)\/(x≠xc/\X.env.cells.lookup x=some c):=by
 rw [List.lookup_cons] at h;cases q:x==xc with
 | true=>rw [q] at h;exact .inl ⟨by simpa using q,(Option.some.inj h).symm⟩
 | false=>rw [q] at h;exact .inr ⟨by simpa using q,S.csub ok h⟩
theorem bT.Zd (S:bT N own caps X.N X.env.scope scope xc) {x:Str} (h:(x,NameKind.cell)∈scope.names):x=xc:=by
 obtain ⟨pre,post,e,no⟩:=S.one;rw [e] at h;rcases List.mem_append.mp h with h|h
 ·exact absurd rfl (no _ (List.mem_append_left _ h))
 ·rcases List.mem_cons.mp h with h|h
  ·exact congrArg Prod.fst h
  ·exact absurd rfl (no _ (List.mem_append_right _ h))
theorem bT.wW {S:bT N own caps X.N X.env.scope scope xc} {x:Str} (h:(relabel scope X.env).names.lookup x=some .cell\/(relabel scope X.env).names.lookup x=some .free):x=xc\/(x,NameKind.free)∈scope.names:=by
 have e:=fM X.env scope.names x;have e':(relabel scope X.env).names.lookup x=(scope.names.lookup x).map fun k=>if (k == .free&&X.env.scope.kind == .function&&X.env.kindOf x==some .cell)=true then NameKind.cell else k:=e;rw [e'] at h;cases q:scope.names.lookup x with
 | none=>rw [q] at h;simp at h
 | some k=>
   have hm:=PySem.mem_of_lookup q
   by_cases hk:k = .free
   ·subst hk;exact .inr hm
   ·rw [q] at h
    have hb:(k==NameKind.free)=false:=by simpa using hk
    simp only [Option.map_some,hb,Bool.false_and,Bool.false_eq_true,if_false] at h;rcases h with h|h
    ·have hc:=Option.some.inj h
     subst hc;exact .inl (S.Zd hm)
    ·exact absurd (Option.some.inj h) hk
theorem Inv.Zc {h1:Heap} {D:Nat} (I:Inv X pins σ H s) (S:bT N own caps X.N X.env.scope scope xc) (hfp:∀b∈fp,mV X pins H b) (hfo:∀b∈fp,∃o,s.heap.get? b=some o)
 (hD:D=s.heap.objs.size) (hC:C=s.heap.objs.size+1) (old:∀b o,s.heap.get? b=some o->h1.get? b=some o) (hns:h1.Ns C (fun _=>none)) (hl:h1.get? D=some {cls:= .type "list",data:= .seq #[]}) (hce:h1.IsCell (Nat.succ C) none) {t:Nat}:
 Inv (dR X scope xc C N s H fp) [] (st0 own caps σ) (upd H D (.lst [])) {s with heap:=h1,toks:=t}:=by
 have some':=S.xV I.ok;have look:∀{x c},((xc,Nat.succ C)::jR X.env scope.names []).lookup x=some c->(x=xc/\c=Nat.succ C)\/(x≠xc/\X.env.cells.lookup x=some c):=fun h=>S.look I.ok h;have freshD:H D=none:=I.hok.fresh (by rw [hD];exact Nat.le_refl _);have G6:H C=none:=I.hok.fresh (by rw [hC];exact Nat.le_succ _);have V9:H (Nat.succ C)=none:=I.hok.fresh (by show s.heap.objs.size<=Nat.succ C;omega)
 have xX:∀x c,X.env.cells.lookup x=some c->c<s.heap.objs.size:=fun x c e=>by
  obtain ⟨v,z⟩:=I.cell x c e;exact z.lt
 have Sg:∀b∈fp,b<s.heap.objs.size:=fun b hb=>by
  obtain ⟨o,e⟩:=hfo b hb;exact Heap.lt_size e
 have DC:D≠C:=by omega
 refine ⟨⟨I.ok.mod,S.kind,I.ok.glob,I.ok.blt,by show s.heap.objs.size<=C;omega,fun x y c e1 e2=> ?inj,fun x h=> ?_,fun x c h e=> ?cab,I.ok.hd,I.ok.frames,Or.inl rfl,fun b hb=>⟨?_,fun x c e=> ?_⟩,I.bs,Nat.le_trans I.ok.Eb I.sz,fun b o e hb=> ?_,fun b hb z=> ?_,I.stack,I.vA⟩,
  rfl,I.bare,Un.laid old (by show s.heap.objs.size<=D;omega) freshD,⟨_,hns,fun j x v e1 e2 e3=> ?_⟩,fun x c e=> ?_, ?_,fun x c e=> ?_,fun p hp=> ?_,I.hok.laid old (by omega) ?_, ?_⟩
 case inj=>
  rcases look e1 with ⟨a1,a2⟩|⟨a1,a2⟩
  ·rcases look e2 with ⟨b1,b2⟩|⟨b1,b2⟩
   ·exact a1.trans b1.symm
   ·have:=j8 (xX y c b2);omega
  ·rcases look e2 with ⟨b1,b2⟩|⟨b1,b2⟩
   ·have:=j8 (xX x c a2);omega
   ·exact I.ok.inj x y c a2 b2
 case cab=>
  rcases look e with ⟨a1,a2⟩|⟨a1,a2⟩
  ·show s.heap.objs.size<=c;omega
  ·exact absurd (of_decide_eq_true h) a1
 ·show ∃c,((xc,Nat.succ C)::jR X.env scope.names []).lookup x=some c
  by_cases ex:x=xc
  ·subst ex;exact ⟨Nat.succ C,by simp [List.lookup_cons]⟩
  ·have hm:=(bT.wW (S:=S) (X:=X) h).resolve_left ex
   obtain ⟨c,e⟩:=Option.isSome_iff_exists.mp (some' _ hm rfl);have q:(x==xc)=false:=by simpa using ex
   exact ⟨c,by rw [List.lookup_cons,q,dY _ _ _ some',if_pos hm];exact e⟩
 ·exact Nat.ne_of_lt (show @LT.lt Nat _ b C by have:=j8 (Sg b hb);omega)
 ·rcases look e with ⟨a1,a2⟩|⟨a1,a2⟩
  ·have:=j8 (Sg b hb)
   subst a2;exact Nat.ne_of_gt (show @LT.lt Nat _ b (Nat.succ C) by omega)
  ·exact (hfp b hb).2.2.2.2.1 x c a2
 ·rcases (hfp b hb).2.2.2.1 with z|z
  ·exact I.ok.yN b o e z
  ·exact absurd (Nat.lt_of_lt_of_le (Heap.lt_size e) (Nat.le_trans I.ok.Eb z)) (Nat.lt_irrefl _)
 ·rcases List.mem_cons.mp (I.qD b z) with q|q
  ·exact (hfp b hb).2.1 q
  ·exact (hfp b hb).2.2.1 q
 ·have e1:N[j]? = some x:=e1
  have hj:own.length<=j:=by
   by_cases q:own.length<=j
   ·exact q
   ·exfalso
    unfold st0 at e2;rw [List.getElem?_append_left (by simp;omega),List.getElem?_map] at e2;cases r:own[j]? with
    | none=>rw [r] at e2;cases e2
    | some a=>rw [r] at e2;cases e2
  have hjl:j<N.length:=(List.getElem?_eq_some_iff.mp e1).1;have hjc:j - own.length<caps.length:=by have:=S.len;omega
  obtain ⟨c1,x',c2,c3,c4⟩:=S.cap (j - own.length) hjc;rw [show own.length+(j - own.length)=j by omega] at c1 c2;rw [e1] at c2;cases c2
  have e2':(σ[caps.getD (j - own.length) 0]?).join=some v:=by
   unfold st0 at e2;rw [List.getElem?_append_right (by simp;omega),List.getElem?_map,List.length_map] at e2;rw [List.getD_eq_getElem?_getD];cases r:caps[j - own.length]? with
   | none=>rw [r] at e2;cases e2
   | some a=>rw [r] at e2;exact Option.some.inj e2
  have Wj:σ[caps.getD (j - own.length) 0]? = some (some v):=by
   cases r:σ[caps.getD (j - own.length) 0]? with
   | none=>rw [r] at e2';cases e2'
   | some a=>rw [r] at e2';exact congrArg Option.some e2'
  have kx:X.env.kindOf x=some .cell\/X.env.kindOf x=some .free:=S.free _ c3 rfl;obtain ⟨m,hn,hl'⟩:=I.loc;obtain ⟨u,r,l⟩:=hl' _ x v (by rw [←c1];exact e1) Wj (by rcases kx with z|z;exact .inr (.inl z);exact .inr (.inr z));refine ⟨u,r,.inr ⟨?_, ?_⟩⟩
  ·show (relabel scope X.env).names.lookup x=some .cell\/(relabel scope X.env).names.lookup x=some .free
   have e:(relabel scope X.env).names.lookup x=(scope.names.lookup x).map fun k=>if (k == .free&&X.env.scope.kind == .function&&X.env.kindOf x==some .cell)=true then NameKind.cell else k:=fM X.env scope.names x;rw [e,c4,Option.map_some];split
   ·exact .inl rfl
   ·exact .inr rfl
  ·rcases l with ⟨hk,_⟩|⟨_,c,hc,z⟩
   ·rcases kx with q|q<;>rw [hk] at q<;>cases q
   ·refine ⟨c, ?_, ?_⟩
    ·show ((xc,Nat.succ C)::jR X.env scope.names []).lookup x=_
     have nx:x≠xc:=fun z=>S.nof (z▸c3);have q:(x==xc)=false:=by simpa using nx
     rw [List.lookup_cons,q,dY _ _ _ some',if_pos c3];exact hc
    ·obtain ⟨o,ho,hd⟩:=z
     exact ⟨o,old c o ho,hd⟩
 ·rcases look e with ⟨a1,a2⟩|⟨a1,a2⟩
  ·subst a2;exact ⟨none,hce⟩
  ·obtain ⟨v,o,ho,hd⟩:=I.cell x c a2
   exact ⟨v,o,old c o ho,hd⟩
 ·show upd H D (.lst []) C=none
  rw [aN DC.symm];exact G6
 ·show upd H D (.lst []) c=none
  rcases look e with ⟨a1,a2⟩|⟨a1,a2⟩
  ·subst a2
   rw [aN (show Nat.succ C≠D by omega)];exact V9
  ·rw [aN (Nat.ne_of_lt (by have:=j8 (xX x c a2);omega))];exact I.gO x c a2
 ·cases hp
 ·exact ⟨Nat.zero_le _,[],0,.nil,hl⟩
 ·show (own.map (fun _=>none)++caps.map _).length=N.length
  rw [List.length_append,List.length_map,List.length_map,S.len]
theorem Inv.HN {j6:List (Addr×Obj)} {σ':St} {H':Hp} {s':Shared} {h':Heap} (I:Inv X pins σ H s) (hfp:∀b∈fp,mV X pins H b) (hC:s.heap.objs.size<=C) (J:Inv (dR X scope xc C N s H fp) j6 σ' H' s') (hs:Heap.SameBut C s'.heap h'):
 Inv X pins σ H' {s' with heap:=h'}:=by
 have nC:∀b o,s.heap.get? b=some o->b≠C:=fun b o e=>Nat.ne_of_lt (by have:=j8 (Heap.lt_size e);omega);have u:=J.base;have frC:H' C=none:=J.free;refine I.call' (ch:=fp) (s':={s' with heap:=h'}) J.os ⟨fun b o e n hb hx=> ?_,fun b o e n hb hx=> ?_,u.free,fun b o e hx=> ?_,u.tups,u.pH,u.rB⟩ (fun a o e=>(J.hok a o e).stay (fun b v hb q=> ?_) (fun _ q=>q) fun _ _ q=>q) J.bare fun b hb=> ?_
 ·exact (hs.2 b (nC b o e)).trans (u.keep b o e n hb hx)
 ·obtain ⟨sl,q⟩:=u.slot b o e n hb hx
  exact ⟨sl,(hs.2 b (nC b o e)).trans q⟩
 ·obtain ⟨o',q⟩:=u.there b o e hx
  exact ⟨o',(hs.2 b (nC b o e)).trans q⟩
 ·refine (hs.2 b ?_).trans q
  intro z;subst z;rcases hb with z|z
  ·subst z;rw [frC] at e;cases e
  ·rw [frC] at z;cases z
 ·exact ⟨(hfp b hb).2.2.2.1,(hfp b hb).2.1,(hfp b hb).2.2.2.2.1,(hfp b hb).2.2.2.2.2⟩
end
section
variable {M:Model} {A:Around} {E:Value->Shared->Prop} {s:Shared}
theorem Gy {scope:Scope} {globals:Addr} {cl:List (Str×Addr)} {qual:Str} {env:Env} {xc:Str} {Q:Env->Shared->Prop} (one:∃pre post,scope.names=pre++(xc,.cell)::post /\ ∀y∈pre++post,y.2 ≠ .cell)
 (h:Q (newEnv scope s.heap.objs.size globals ((xc,Nat.succ s.heap.objs.size)::cl) qual none .none (some env) builtinsNs) {s with heap:=(s.heap.push {cls:= .type "dict",data:= .dict #[]}).push {cls:= .type "cell",data:= .cell none}}):
 wpAny M A (newFunctionEnv scope globals cl [] qual none .none (some env)) Q E s:=by
 obtain ⟨pre,post,e,no⟩:=one;simp only [newFunctionEnv,Option.isSome_some,if_true];refine wpAny_bind (wpAny_alloc ?_);refine wpAny_bind (wpAny_layCells _ (fun name kind cells=>by cases hkc:kind==NameKind.cell<;>simp [hkc]) _ _ _ _ ?_);rw [e];have sz:(s.heap.push {cls:= .type "dict",data:= .dict #[]}).objs.size=Nat.succ s.heap.objs.size:=Heap.size_push ..;obtain ⟨e1,e2⟩:=Cv (xc:=xc) pre post (s.heap.push {cls:= .type "dict",data:= .dict #[]}).objs.size cl (s.heap.push {cls:= .type "dict",data:= .dict #[]}) no;show wpAny M A _ Q E _;dsimp only;rw [e1,e2,sz];rw [List.forIn_nil];exact wpAny_bind (wpAny_pure (wpAny_pure h))
end
section
variable {X:Cx} {elt tg iter:Expr} {ifs:List Expr} {scope:Scope} {pos:Pos} {N own:List Str} {caps:List Nat} {wi:TI} {g:TG} {tc:TT} {te:TE} {xc:Str}
theorem K1 {use:Option (Value->Sem Unit)} {Qv:Value->Shared->Prop} {pins:List (Addr×Obj)} {σ:St} {H:Hp} {s:Shared} {Q:VK} (hc:X.calm=true) (S:bT N own caps X.N X.env.scope scope xc)
 (hg:∀C s H fp,PG (dR X scope xc C N s H fp) tg g) (hcs:∀C s H fp,Wu (dR X scope xc C N s H fp) ifs tc) (he:∀C s H fp,PE (dR X scope xc C N s H fp) elt te)
 (hi:PI X tg iter wi) (hs:∀x,foldedSetIterable iter X.env x=pure x)
 (I:Inv X pins σ H s) (h:zf own caps wi g tc te σ H Q)
 (fin:∀(D C:Addr) (H':Hp) (s':Shared),(∃m,s'.heap.Ns C m)->Inv X pins σ H' s'->(∀h',Heap.SameBut C s'.heap h'->Inv X pins σ H' {s' with heap:=h'})->mV X pins H' C->Q (.ref D) H' ->
   compPost (model X.prog X.w) X.A X.xe use Qv (.ref D) C (.ok .next) s'):
 wpAny (model X.prog X.w) X.A (comprehension (.ListComp elt [⟨tg,iter,ifs,0⟩] scope pos) scope X.env (firstIterPos [⟨tg,iter,ifs,0⟩] pos) (newList []) false (eval iter X.env) use) Qv X.xe s:=by
 refine wpAny_comprehension_free (use:=use) rfl hs (xW (S.xV I.ok)) S.kind S.names (cP (hi pins s σ H _ I h) fun xv s1 h1=>cP h1 fun itv s2 h2=> ?_);obtain ⟨it,fp,tn,J,H2,e,I2,T,st2,f2,q2⟩:=h2;subst e;refine wpAny_newList ?_;refine Gy S.one ?_;have hD:H2 s2.heap.objs.size=none:=I2.hok.fresh (Nat.le_refl _);have hsz:(s2.heap.push {cls:= .type "list",data:= .seq ([]:List Value).toArray}).objs.size=s2.heap.objs.size+1:=Heap.size_push ..;obtain ⟨h1,hh1⟩:∃h1,h1=((s2.heap.push {cls:= .type "list",data:= .seq ([]:List Value).toArray}).push {cls:= .type "dict",data:= .dict #[]}).push {cls:= .type "cell",data:= .cell none}:=⟨_,rfl⟩
 have old:∀b o,s2.heap.get? b=some o->h1.get? b=some o:=fun b o e=>by
  rw [hh1];exact Heap.get?_push_of_some _ (Heap.get?_push_of_some _ (Heap.get?_push_of_some _ e))
 have hl:h1.get? s2.heap.objs.size=some {cls:= .type "list",data:= .seq #[]}:=by
  rw [hh1];exact Heap.get?_push_of_some _ (Heap.get?_push_of_some _ (Heap.get?_push_size _ rfl))
 have R5:h1.Ns (s2.heap.push {cls:= .type "list",data:= .seq ([]:List Value).toArray}).objs.size (fun _=>none):=by
  rw [hh1];exact (Heap.Ns.new _ (.type "dict")).keeps fun b o e=>Heap.get?_push_of_some _ e
 have hce:h1.IsCell (Nat.succ (s2.heap.push {cls:= .type "list",data:= .seq ([]:List Value).toArray}).objs.size) none:=by
  rw [hh1];refine ⟨{cls:= .type "cell",data:= .cell none}, ?_,rfl⟩;have e:Nat.succ (s2.heap.push {cls:= .type "list",data:= .seq ([]:List Value).toArray}).objs.size=((s2.heap.push {cls:= .type "list",data:= .seq ([]:List Value).toArray}).push {cls:= .type "dict",data:= .dict #[]}).objs.size:=(Heap.size_push ..).symm;rw [e];exact Heap.get?_push_size _ rfl
 rw [←hh1];have hfo:∀b∈fp,∃o,s2.heap.get? b=some o:=fun b hb=>let ⟨o,e,_⟩:=T.obj _ _ st2 b hb;⟨o,e⟩
 have I4:=Inv.Zc (C:=(s2.heap.push {cls:= .type "list",data:= .seq ([]:List Value).toArray}).objs.size) (t:=s2.toks) I2 S f2 hfo rfl hsz old R5 hl hce;obtain ⟨W,⟨m0,w0⟩,turn⟩:=q2 _ hD;generalize hCe:(s2.heap.push {cls:= .type "list",data:= .seq ([]:List Value).toArray}).objs.size=C at *;generalize hDe:s2.heap.objs.size=D at *;have hDC:D≠C:=by omega
 have loop:∀s3:Shared,s3={s2 with heap:=h1} ->
  codeAny (model X.prog X.w) X.A (.compLoop (.ListComp elt [⟨tg,iter,ifs,0⟩] scope pos) 0 (.ref it) (.ref D) (dR X scope xc C N s2 H2 fp).env) (compPost (model X.prog X.w) X.A X.xe use Qv (.ref D) C) s3:=by
  rintro s3 rfl
  have m6:∀b∈fp,(upd H2 D (.lst [])) b=none:=fun b hb=>by
   obtain ⟨o,e⟩:=hfo b hb;rw [aN (Nat.ne_of_lt (by have:=j8 (Heap.lt_size e);omega))];exact (f2 b hb).1
  have stat:∀{H':Hp},(∀b∈fp,H' b=none) -> ∀b∈fp,mV (dR X scope xc C N s2 H2 fp) [] H' b:=fun hn b hb=>by
   obtain ⟨o,e⟩:=hfo b hb;have hlt:=j8 (Heap.lt_size e);refine ⟨hn b hb, ?_,fun z=> ?_,.inl hb,fun x c e'=> ?_,fun p hp=>(by cases hp)⟩
   ·exact Nat.ne_of_lt (show @LT.lt Nat _ b C by omega)
   ·rcases List.mem_cons.mp (I2.qD b z) with q|q
    ·exact (f2 b hb).2.1 q
    ·exact (f2 b hb).2.2.1 q
   ·rcases S.look (C:=C) I2.ok e' with ⟨_,a2⟩|⟨_,a2⟩
    ·subst a2
     exact Nat.ne_of_gt (show @LT.lt Nat _ b (Nat.succ C) by omega)
    ·exact (f2 b hb).2.2.2.2.1 x c a2
  refine sG (fun n s'=>∃i σ' H',Inv (dR X scope xc C N s2 H2 fp) [] σ' H' s'/\tn i s'.heap/\(∀b∈fp,H' b=none)/\W i n σ' H') ?_ m0
   ⟨0,_,_,I4,T.keep _ _ _ st2 fun b _ o e=>old b o e,m6,w0⟩
  rintro n s3 ⟨i,σ3,H3,I3,st3,Um,w3⟩;rcases turn i n σ3 H3 w3 with ⟨stop,qn⟩|⟨go,Nx,hNx,step⟩
  ·refine cP (T.done (dR X scope xc C N s2 H2 fp) rfl rfl rfl hc i [] s3 σ3 H3 _ I3 (stat Um) st3 stop) fun r s4 ⟨hr,J4⟩=> ?_
   subst hr;obtain ⟨m4,Du,_⟩:=J4.loc;exact fin D C H3 s4 ⟨m4,Du⟩ (I2.HN f2 (by omega) J4 (Heap.SameBut.refl _ _)) (fun h' hs'=>I2.HN f2 (by omega) J4 hs') (I2.Ar (show s2.heap.objs.size<=C by omega) J4.free) qn
  ·refine cP (T.item (dR X scope xc C N s2 H2 fp) rfl rfl rfl hc i [] s3 σ3 H3 _ I3 (stat Um) st3 go) fun r s4 ⟨u,hr,h4⟩=> ?_
   subst hr;refine cP h4 fun _ s5 ⟨x,H5,I5,r5,y5,yE,YC⟩=> ?_;have Z_:=I5.pinned (stat YC) (T.obj _ _ yE);refine cP (hg C s2 H2 fp _ s5 σ3 H5 x u _ Z_ r5 (step x H5 y5)) fun _ s6 ⟨σ6,H6,I6,q6⟩=> ?_;refine cP (hcs C s2 H2 fp _ s6 σ6 H6 _ I6 q6) fun ok s7 ⟨H7,I7,q7⟩=> ?_
   have again:∀{σ8:St} {H8:Hp} {s8:Shared},Inv (dR X scope xc C N s2 H2 fp) ([]++tZ fp s5.heap) σ8 H8 s8->Nx σ8 H8 -> ∃m,m<n /\ ∃i σ' H',Inv (dR X scope xc C N s2 H2 fp) [] σ' H' s8/\tn i s8.heap/\(∀b∈fp,H' b=none)/\W i m σ' H':=fun {σ8 H8 s8} I8 n8=>by
    obtain ⟨m',hm,w8⟩:=hNx _ _ n8;refine ⟨m',hm,i+1,σ8,H8,I8.nu,T.keep _ _ _ yE fun b hb o e=>(I8.pin (b,o) (List.mem_append_right _ (List.mem_append_right _ (iU hb e)))).1,fun b hb=> ?_,w8⟩;obtain ⟨o,e,d⟩:=T.obj _ _ yE b hb;exact (I8.pin (b,o) (List.mem_append_right _ (List.mem_append_right _ (iU hb e)))).2.1
   cases ok with
   | false=>
     rw [if_neg (by decide)] at q7;exact again I7 q7
   | true=>
     rw [if_pos rfl] at q7;refine cP (he C s2 H2 fp _ s7 σ6 H7 _ I7 q7) fun y s8 ⟨yv,H8,I8,r8,acc,ha,hlen,q8⟩=> ?_;exact cP (ud _ s8 σ6 H8 (.ref D) [yv] (.ref D) [y] (fun v H9=>Nx σ6 H9) I8 rfl (.cons r8 .nil) ⟨D,acc,yv,rfl,rfl,ha,hlen,q8⟩) fun _ s9 ⟨_,H9,I9,_,q9⟩=>again I9 q9
 exact codeAny_compStart_list (loop _ rfl) (T.self _ 0 _ _ _ (T.keep _ _ _ st2 fun b _ o e=>old b o e) (loop _ rfl))
theorem Nh {i:Nat} {x:Str} {px sp:Pos} (hc:X.calm=true) (hN:X.N.Nodup) (hx:X.N[i]? = some x) (hl:Loc X.env.scope x) (S:bT N own caps X.N X.env.scope scope xc) (hi:PI X tg iter wi)
 (hg:∀C s H fp,PG (dR X scope xc C N s H fp) tg g) (hcs:∀C s H fp,Wu (dR X scope xc C N s H fp) ifs tc) (he:∀C s H fp,PE (dR X scope xc C N s H fp) elt te)
 (hsw:swapsWith (.ListComp elt [⟨tg,iter,ifs,0⟩] scope pos) (some (.Name x px)) sp.line X.env=pure true:=by rfl)
 (hs:∀x,foldedSetIterable iter X.env x=pure x:=by intro _;rfl) (hf:X.fn x=true\/X.env.scope.names.lookup x=some .local:=by first |exact .inl rfl|exact .inr rfl|assumption):
 PS X (.Assign [.Name x px] (.ListComp elt [⟨tg,iter,ifs,0⟩] scope pos) sp) (QJ (zf own caps wi g tc te) (gM i)):=by
 intro pins s σ H D I h;rw [exec_Assign_Name_used _ _ _ _ hsw];refine wpAny_bind (wpAny_standAt (wpAny_bind ?_));show wpAny _ X.A (do let _ ←comprehension (.ListComp elt [⟨tg,iter,ifs,0⟩] scope pos) scope X.env (firstIterPos [⟨tg,iter,ifs,0⟩] pos) (newList []) false (eval iter X.env) (some (assign (.Name x px) X.env))) _ _ s;refine wpAny_bind (wpAny_mono (K1 (use:=some (assign (.Name x px) X.env)) (Qv:=fun _ s'=>SP X pins D .next s') hc S hg hcs he hi hs I h ?_) (fun _ s' hq=>wpAny_pure (wpAny_pure hq)) fun _ _ e=>e);intro E C H' s' hn I' hk fC q;obtain ⟨m,hn⟩:=hn;obtain ⟨f0,f1,f2,f3,f4,f5⟩:=fC;show wpAny _ X.A (assign (.Name x px) X.env (.ref E)) _ _ _;refine wpAny_assign_Name (tK I' hN hx hl (v:= .ref E) rfl (fun s2 I2 k=> ?_) hf);refine ⟨m, ?_,fun h' hs'=> ?_⟩
 ·obtain ⟨o,es,ep,ho,r⟩:=hn
  obtain ⟨a,ks,ka⟩:=k
  have hCa:C≠a:=fun z=>by
   rcases ka with q'|q'
   ·exact f1 (z.trans q')
   ·exact f4 x a q' z.symm
  exact ⟨o,es,ep,(ks.2 C hCa).trans ho,r⟩
 ·exact ⟨_,H',I2.turned (t':=s2.toks) (fun b o hb e=>(hs'.2 b hb).trans e) f0 f1 f3 f4 f5,q⟩
end
def Jo (N own:List Str) (caps:List Nat) (XN:List Str) (outer scope:Scope) (xc:Str):Bool:=
 decide (scope.kind = .function)&&(scope.names.filter fun y=>decide (y.2 = .cell)).length==1&&decide (scope.names.lookup xc=some .cell)&&decide ((xc,NameKind.free)∉scope.names)&&scope.names.all (fun y=>decide (y.2 ≠ .local)||decide (scope.names.lookup y.1=some .local)) &&
 scope.names.all (fun y=>decide (y.2 ≠ .free)||decide (outer.names.lookup y.1=some .cell)||decide (outer.names.lookup y.1=some .free))&&decide N.Nodup&&decide (N.length=own.length+caps.length) &&
 (List.range caps.length).all (fun j=>match N[own.length+j]? with |some x=>decide (XN[caps.getD j 0]? = some x)&&decide ((x,NameKind.free)∈scope.names)&&decide (scope.names.lookup x=some .free)|none=>false)
theorem bT.of {N own:List Str} {caps:List Nat} {XN:List Str} {outer scope:Scope} {xc:Str} (h:Jo N own caps XN outer scope xc=true):bT N own caps XN outer scope xc:=by
 unfold Jo at h;simp only [Bool.and_eq_true,decide_eq_true_eq,List.all_eq_true,Bool.or_eq_true,beq_iff_eq] at h;obtain ⟨⟨⟨⟨⟨⟨⟨⟨h1,h2⟩,h2a⟩,h2b⟩,h3⟩,h4⟩,h5⟩,h6⟩,h7⟩:=h;refine ⟨h1, ?_,h2a,h2b,fun y hy e=> ?_,fun y hy e=> ?_,h5,h6,fun j hj=> ?_⟩
 ·have hm:(xc,NameKind.cell)∈scope.names:=mem_of_lookup h2a
  obtain ⟨pre,post,e⟩:=List.append_of_mem hm;refine ⟨pre,post,e,fun y hy z=> ?_⟩;rw [e,List.filter_append,List.length_append,List.filter_cons] at h2;simp only [decide_true,if_true,List.length_cons] at h2;have l1:(pre.filter fun y=>decide (y.2 = .cell)).length=0:=by omega
  have l2:(post.filter fun y=>decide (y.2 = .cell)).length=0:=by omega
  rcases List.mem_append.mp hy with q|q
  ·have:=List.filter_eq_nil_iff.mp (List.eq_nil_of_length_eq_zero l1) y q
   simp [z] at this
  ·have:=List.filter_eq_nil_iff.mp (List.eq_nil_of_length_eq_zero l2) y q
   simp [z] at this
 ·rcases h3 y hy with z|z
  ·exact absurd e z
  ·exact z
 ·rcases h4 y hy with (z|z)|z
  ·exact absurd e z
  ·exact .inl z
  ·exact .inr z
 ·have q:=h7 j (List.mem_range.mpr hj)
  cases e:N[own.length+j]? with
  | none=>rw [e] at q;cases q
  | some x=>
    rw [e] at q;simp only [Bool.and_eq_true,decide_eq_true_eq] at q;exact ⟨q.1.1.symm,x,rfl,q.1.2,q.2⟩
theorem G9 {X:Cx} {scope:Scope} {xc:Str} {C:Addr} {N:List Str} {s:Shared} {H:Hp} {fp:List Addr}:(dR X scope xc C N s H fp).fn xc=true:=decide_eq_true (p:=xc=xc) rfl
end L2
set_option Elab.async false
set_option linter.all false
set_option maxRecDepth 100000
set_option maxHeartbeats 4000000
namespace Tim
open PySem PyProof.Rows
def j_:Bool->Keyed->Array Keyed->Nat->Nat->Nat->StateT SortSt Sem (Option Nat):=sortPriv% PySem.Builtin.gallop
def mL (left:Bool) (key:Keyed) (arr:Array Keyed) (base i:Nat):StateT SortSt Sem (Option Bool):=do
 let x ←elem' arr (base+i)
 if left then lt' x key else return (←lt' key x).map (!·)
theorem G5 (left:Bool) (key:Keyed) (arr:Array Keyed) (base n hint:Nat):j_ left key arr base n hint=(do
 let mut lastofs:=0
 let mut ofs:=1
 let mut lo:=0
 let mut hi:=0
 let some right ←mL left key arr base hint|return none
 if right then
  let maxofs:=n - hint
  for _ in [0:n] do
   if ofs≥maxofs then break
   let some more ←mL left key arr base (hint+ofs)|return none
   if !more then break
   lastofs:=ofs
   ofs:=2*ofs+1
  lo:=hint+lastofs+1
  hi:=hint+min ofs maxofs
 else
  let maxofs:=hint+1
  for _ in [0:n] do
   if ofs≥maxofs then break
   let some found ←mL left key arr base (hint - ofs)|return none
   if found then break
   lastofs:=ofs
   ofs:=2*ofs+1
  lo:=hint+1 - min ofs maxofs
  hi:=hint - lastofs
 for _ in [0:n] do
  if lo≥hi then break
  let m:=lo+(hi - lo) / 2
  let some more ←mL left key arr base m|return none
  if more then lo:=m+1 else hi:=m
 return some hi):=rfl
section
variable {prog:Program} {w:World} {A:Around} {E:Value->Shared->Prop} {s:Shared} {κ:SortKind} {a₀:Array Keyed} {rk:Value->Nat}
structure HJ (prog:Program) (w:World) (A:Around) (s:Shared) (κ:SortKind) (a₀:Array Keyed) (rk:Value->Nat):Prop where
 ask:∀p∈a₀.toList,∀q∈a₀.toList,∀(E:Value->Shared->Prop) (Q:Bool->Shared->Prop),Q (decide (rk p.1<rk q.1)) s->wpAny (model prog w) A (keyLt' κ p.1 q.1) Q E s
def R (rk:Value->Nat) (xs:Array Keyed) (i:Nat):Nat:=match xs[i]? with
 | some p=>rk p.1
 | none=>0
theorem yt {xs:Array Keyed} {i:Nat} {p:Keyed} (h:xs[i]? = some p):R rk xs i=rk p.1:=by unfold R;rw [h]
theorem fW {xs ys:Array Keyed} {i j:Nat} (h:xs[i]? = ys[j]?):R rk xs i=R rk ys j:=by unfold R;rw [h]
theorem vY {st:SortSt} {p q:Keyed} {Q:Option Bool->SortSt->Prop} (C:HJ prog w A s κ a₀ rk) (hk:kindOf st=κ) (hp:p∈a₀.toList) (hq:q∈a₀.toList) (h:Q (some (decide (rk p.1<rk q.1))) st):
 wpS (model prog w) A E s (lt' p q) Q st:=by
 rw [lt'_eq];refine wpS_bind (wpS_get ?_);rw [hk];refine wpS_bind (wpS_lift (wpAny_attempt (C.ask p hp q hq _ _ ⟨rfl, ?_⟩)));exact wpS_pure h
theorem bR {st:SortSt} {arr:Array Keyed} {i:Nat} {p:Keyed} {Q:Keyed->SortSt->Prop} (hi:arr[i]? = some p) (h:Q p st):wpS (model prog w) A E s (elem' arr i) Q st:=by
 rw [elem'_eq,hi];exact wpS_pure h
def By (left:Bool) (k r:Nat):Bool:=if left then decide (r<k) else !decide (k<r)
theorem lY {st:SortSt} {left:Bool} {key:Keyed} {arr:Array Keyed} {base i:Nat} {Q:Option Bool->SortSt->Prop} (C:HJ prog w A s κ a₀ rk) (hk:kindOf st=κ) (hkey:key∈a₀.toList) (rY:∀p∈arr.toList,p∈a₀.toList)
 (hi:base+i<arr.size) (h:Q (some (By left (rk key.1) (R rk arr (base+i)))) st):wpS (model prog w) A E s (mL left key arr base i) Q st:=by
 unfold mL;have e:arr[base+i]? = some arr[base+i]:=getElem?_pos arr (base+i) hi;have hm:arr[base+i]∈a₀.toList:=rY _ (by simp);rw [yt e] at h;refine wpS_bind (bR e ?_);cases left with
 | true=>exact vY C hk hm hkey h
 | false=>exact wpS_bind (vY C hk hkey hm (wpS_pure h))
theorem Bl {left:Bool} {k r r':Nat} (h:By left k r=true) (le:r'<=r):By left k r'=true:=by
 unfold By at *;cases left<;>simp at * <;> omega
theorem yD {left:Bool} {k r r':Nat} (h:By left k r=false) (le:r<=r'):By left k r'=false:=by
 unfold By at *;cases left<;>simp at * <;> omega
def Seg (rk:Value->Nat) (xs:Array Keyed) (lo hi:Nat):Prop:=∀i j,lo<=i->i<=j->j<hi->R rk xs i<=R rk xs j
abbrev GSt:=Option (Option Nat)×Nat×Nat
theorem uJ {st:SortSt} {left:Bool} {key:Keyed} {arr:Array Keyed} {base n lo hi:Nat} {Q:GSt->SortSt->Prop} (C:HJ prog w A s κ a₀ rk) (hk:kindOf st=κ) (hkey:key∈a₀.toList) (rY:∀p∈arr.toList,p∈a₀.toList)
 (hn:base+n<=arr.size) (hs:Seg rk arr base (base+n)) (hlh:lo<=hi) (hhn:hi<=n)
 (h1:∀i,i<lo->By left (rk key.1) (R rk arr (base+i))=true) (h2:∀i,hi<=i->i<n->By left (rk key.1) (R rk arr (base+i))=false)
 (h:∀k l,k<=n->(∀i,i<k->By left (rk key.1) (R rk arr (base+i))=true)->(∀i,k<=i->i<n->By left (rk key.1) (R rk arr (base+i))=false)->Q (none,l,k) st):
 wpS (model prog w) A E s (forIn [0:n] ((none,lo,hi):GSt) fun _ __s=>
       if __s.snd.fst≥__s.snd.snd then pure (ForInStep.done (none,__s.snd.fst,__s.snd.snd))
       else do
        let __x ←mL left key arr base (__s.snd.fst+(__s.snd.snd - __s.snd.fst) / 2)
        match __x with
         | some more=>
           if more=true then
            pure (ForInStep.yield (none,__s.snd.fst+(__s.snd.snd - __s.snd.fst) / 2+1,__s.snd.snd))
           else pure (ForInStep.yield (none,__s.snd.fst,__s.snd.fst+(__s.snd.snd - __s.snd.fst) / 2))
         | _=>pure (ForInStep.done (some none,__s.snd.fst,__s.snd.snd))) Q st:=by
 refine wpS_forRange (I:=fun x c st'=>st'=st /\ ∃lo hi,c=(none,lo,hi)/\lo<=hi/\hi<=n/\hi - lo<=n - x/\(∀i,i<lo->By left (rk key.1) (R rk arr (base+i))=true)/\(∀i,hi<=i->i<n->By left (rk key.1) (R rk arr (base+i))=false)) ?step ?fin ⟨rfl,lo,hi,rfl,hlh,hhn,by omega,h1,h2⟩
 case fin=>
  rintro c st' ⟨rfl,lo,hi,rfl,a1,a2,a3,a4,a5⟩;have:lo=hi:=by omega
  subst this;exact h _ _ a2 a4 a5
 case step=>
  rintro x c st' _ hx ⟨rfl,lo,hi,rfl,a1,a2,a3,a4,a5⟩;dsimp only
  by_cases hge:lo≥hi
  ·rw [if_pos hge]
   have:lo=hi:=by omega
   subst this;exact wpS_pure (h _ _ a2 a4 a5)
  ·rw [if_neg hge]
   refine wpS_bind (lY C hk hkey rY (by omega) ?_);dsimp only;cases hb:By left (rk key.1) (R rk arr (base+(lo+(hi - lo) / 2))) with
   | true=>
     simp only [if_true];refine wpS_pure ⟨rfl,_,_,rfl,by omega,a2,by omega,fun i hi'=> ?_,a5⟩;exact Bl hb (hs _ _ (by omega) (by omega) (by omega))
   | false=>
     simp only [Bool.false_eq_true,if_false];refine wpS_pure ⟨rfl,_,_,rfl,by omega,by omega,by omega,a4,fun i hi' hin=> ?_⟩;exact yD hb (hs _ _ (by omega) (by omega) (by omega))
theorem iQ {st:SortSt} {left:Bool} {key:Keyed} {arr:Array Keyed} {base n hint:Nat} {Q:Option Nat->SortSt->Prop} (C:HJ prog w A s κ a₀ rk) (hk:kindOf st=κ) (hkey:key∈a₀.toList) (rY:∀p∈arr.toList,p∈a₀.toList)
 (hn:base+n<=arr.size) (hh:hint<n) (hs:Seg rk arr base (base+n))
 (h:∀k,k<=n->(∀i,i<k->By left (rk key.1) (R rk arr (base+i))=true)->(∀i,k<=i->i<n->By left (rk key.1) (R rk arr (base+i))=false)->Q (some k) st):
 wpS (model prog w) A E s (j_ left key arr base n hint) Q st:=by
 rw [G5];refine wpS_bind (lY C hk hkey rY (by omega) ?_);dsimp only;cases hr:By left (rk key.1) (R rk arr (base+hint)) with
 | true=>
   simp only [if_true]
   refine wpS_bind (wpS_mono (wpS_forRange (I:=fun x c st'=>st'=st /\ ∃l o,c=(none,l,o)/\l<o/\x<o/\hint+l<n/\By left (rk key.1) (R rk arr (base+(hint+l)))=true)
    (Q:=fun c st'=>st'=st /\ ∃l o,c=(none,l,o)/\l<o/\hint+l<n/\By left (rk key.1) (R rk arr (base+(hint+l)))=true/\(o<n - hint->By left (rk key.1) (R rk arr (base+(hint+o)))=false)) ?step ?fin ⟨rfl,0,1,rfl,by omega,by omega,by omega,hr⟩) ?post)
   case fin=>
    rintro c st' ⟨rfl,l,o,rfl,a1,a2,a3,a4⟩;exact ⟨rfl,l,o,rfl,a1,a3,a4,fun z=>by omega⟩
   case step=>
    rintro x c st' _ hx ⟨rfl,l,o,rfl,a1,a2,a3,a4⟩;dsimp only
    by_cases hge:o≥n - hint
    ·rw [if_pos hge]
     exact wpS_pure ⟨rfl,l,o,rfl,a1,a3,a4,fun z=>by omega⟩
    ·rw [if_neg hge]
     refine wpS_bind (lY C hk hkey rY (by omega) ?_);dsimp only;cases hb:By left (rk key.1) (R rk arr (base+(hint+o))) with
     | true=>
       simp only [Bool.not_true,Bool.false_eq_true,if_false];exact wpS_pure ⟨rfl,o,2*o+1,rfl,by omega,by omega,by omega,hb⟩
     | false=>
       simp only [Bool.not_false,if_true];exact wpS_pure ⟨rfl,l,o,rfl,a1,a3,a4,fun _=>hb⟩
   case post=>
    rintro c st' ⟨rfl,l,o,rfl,a1,a2,a3,a4⟩;dsimp only;refine wpS_bind (uJ C hk hkey rY hn hs (by omega) (by omega) (fun i hi=> ?_) (fun i hi hin=> ?_) fun k l' b1 b2 b3=>wpS_pure (h k b1 b2 b3))
    ·exact Bl a3 (hs _ _ (by omega) (by omega) (by omega))
    ·exact yD (a4 (by omega)) (hs _ _ (by omega) (by omega) (by omega))
 | false=>
   simp only [Bool.false_eq_true,if_false]
   refine wpS_bind (wpS_mono (wpS_forRange (I:=fun x c st'=>st'=st /\ ∃l o,c=(none,l,o)/\l<o/\x<o/\l<=hint/\By left (rk key.1) (R rk arr (base+(hint - l)))=false)
    (Q:=fun c st'=>st'=st /\ ∃l o,c=(none,l,o)/\l<o/\l<=hint/\By left (rk key.1) (R rk arr (base+(hint - l)))=false/\(o<hint+1->By left (rk key.1) (R rk arr (base+(hint - o)))=true)) ?step ?fin ⟨rfl,0,1,rfl,by omega,by omega,by omega,hr⟩) ?post)
   case fin=>
    rintro c st' ⟨rfl,l,o,rfl,a1,a2,a3,a4⟩;exact ⟨rfl,l,o,rfl,a1,a3,a4,fun z=>by omega⟩
   case step=>
    rintro x c st' _ hx ⟨rfl,l,o,rfl,a1,a2,a3,a4⟩;dsimp only
    by_cases hge:o≥hint+1
    ·rw [if_pos hge]
     exact wpS_pure ⟨rfl,l,o,rfl,a1,a3,a4,fun z=>by omega⟩
    ·rw [if_neg hge]
     refine wpS_bind (lY C hk hkey rY (by omega) ?_);dsimp only;cases hb:By left (rk key.1) (R rk arr (base+(hint - o))) with
     | true=>
       simp only [if_true];exact wpS_pure ⟨rfl,l,o,rfl,a1,a3,a4,fun _=>hb⟩
     | false=>
       simp only [Bool.false_eq_true,if_false];exact wpS_pure ⟨rfl,o,2*o+1,rfl,by omega,by omega,by omega,hb⟩
   case post=>
    rintro c st' ⟨rfl,l,o,rfl,a1,a2,a3,a4⟩;dsimp only;refine wpS_bind (uJ C hk hkey rY hn hs (by omega) (by omega) (fun i hi=> ?_) (fun i hi hin=> ?_) fun k l' b1 b2 b3=>wpS_pure (h k b1 b2 b3))
    ·exact Bl (a4 (by omega)) (hs _ _ (by omega) (by omega) (by omega))
    ·exact yD a3 (hs _ _ (by omega) (by omega) (by omega))
end
end Tim
set_option Elab.async false
set_option linter.all false
set_option maxRecDepth 100000
set_option maxHeartbeats 4000000
namespace Tim
open PySem PyProof.Rows
def eY:Nat->StateT SortSt Sem Unit:=sortPriv% PySem.Builtin.setMinGallop
theorem tW (g:Nat):eY g=modify fun s=>SortSt.mk' (kindOf s) (arrOf s) (pendingOf s) g (failedOf s):=rfl
def wR:Array Keyed->Array Keyed->StateT SortSt Sem (Array Keyed):=sortPriv% PySem.Builtin.mergeLo
def wU:Array Keyed->Array Keyed->StateT SortSt Sem (Array Keyed):=sortPriv% PySem.Builtin.mergeHi
abbrev fZ (a b out:Array Keyed) (ia ib:Nat):Array Keyed:=out++a.extract ia a.size++b.extract ib b.size
abbrev qK (a b out:Array Keyed) (ia ib:Nat):Array Keyed:=out++b.extract ib b.size++a.extract ia a.size
theorem CZ (a b:Array Keyed):wR a b=(do
 rule "list.sort.merge-lo"
 let total:=a.size+b.size
 let mut out:Array Keyed:= #[←elem' b 0]
 let mut ia:=0
 let mut ib:=1
 if ib==b.size then return fZ a b out ia ib
 if ia+1==a.size then return qK a b out ia ib
 let mut minGallop:=gallopOf (←get)
 for _ in [0:total] do
  let mut acount:=0
  let mut bcount:=0
  for _ in [0:total] do
   let some bWins ←lt' (←elem' b ib) (←elem' a ia)|return fZ a b out ia ib
   if bWins then
    out:=out.push (←elem' b ib);ib:=ib+1;bcount:=bcount+1;acount:=0
    if ib==b.size then return fZ a b out ia ib
    if bcount≥minGallop then break
   else
    out:=out.push (←elem' a ia);ia:=ia+1;acount:=acount+1;bcount:=0
    if ia+1==a.size then return qK a b out ia ib
    if acount≥minGallop then break
  rule "list.sort.gallop"
  minGallop:=minGallop+1
  for _ in [0:total] do
   if minGallop>1 then minGallop:=minGallop - 1
   eY minGallop
   let some k ←j_ false (←elem' b ib) a ia (a.size - ia) 0|return fZ a b out ia ib
   acount:=k
   if k>0 then
    out:=out++a.extract ia (ia+k);ia:=ia+k
    if ia+1==a.size then return qK a b out ia ib
    if ia==a.size then return fZ a b out ia ib
   out:=out.push (←elem' b ib);ib:=ib+1
   if ib==b.size then return fZ a b out ia ib
   let some k ←j_ true (←elem' a ia) b ib (b.size - ib) 0|return fZ a b out ia ib
   bcount:=k
   if k>0 then
    out:=out++b.extract ib (ib+k);ib:=ib+k
    if ib==b.size then return fZ a b out ia ib
   out:=out.push (←elem' a ia);ia:=ia+1
   if ia+1==a.size then return qK a b out ia ib
   if acount<7&&bcount<7 then break
  minGallop:=minGallop+1
  eY minGallop
 unsupported "internal:list.sort.merge-bound"):=rfl
section
variable {rk:Value->Nat} {a b out:Array Keyed} {ia ib k:Nat}
def Le (rk:Value->Nat) (x y:Keyed):Prop:=rk x.1<=rk y.1
def Ls (rk:Value->Nat) (l:List Keyed):Prop:=l.Pairwise (Le rk)
structure MI (rk:Value->Nat) (a b out:Array Keyed) (ia ib:Nat):Prop where
 perm:(out.toList++(a.toList.drop ia++b.toList.drop ib)).Perm (a.toList++b.toList)
 sa:Ls rk (out.toList++a.toList.drop ia)
 sb:Ls rk (out.toList++b.toList.drop ib)
structure Mg (rk:Value->Nat) (a b r:Array Keyed):Prop where
 perm:r.toList.Perm (a.toList++b.toList)
 srt:Ls rk r.toList
theorem cQ (a:Array Keyed) (i j:Nat):(a.extract i j).toList=(a.toList.drop i).take (j - i):=by
 rw [Array.toList_extract,List.extract_eq_take_drop]
theorem xQ (l:List Keyed) (i k:Nat):l.drop i=(l.drop i).take k++l.drop (i+k):=by
 rw [←List.drop_drop,List.take_append_drop]
theorem iG {a:Array Keyed} {i:Nat} (h:i<a.size):R rk a i=rk (a[i]).1:=yt (getElem?_pos a i h)
theorem Oe {a:Array Keyed} {x:Keyed} (h:x∈a.toList.drop ia):∃j,ia<=j/\j<a.size/\R rk a j=rk x.1:=by
 obtain ⟨j,hj,e⟩:=List.getElem_of_mem h;rw [List.length_drop,Array.length_toList] at hj;rw [List.getElem_drop,Array.getElem_toList] at e;exact ⟨ia+j,by (clear e hj;omega),by (clear e;omega),by rw [iG (by (clear e;omega)),e]⟩
theorem je {a:Array Keyed} {x:Keyed} (h:x∈(a.toList.drop ia).take k):∃j,j<k/\ia+j<a.size/\R rk a (ia+j)=rk x.1:=by
 obtain ⟨j,hj,e⟩:=List.getElem_of_mem h;rw [List.length_take,List.length_drop,Array.length_toList] at hj;rw [List.getElem_take,List.getElem_drop,Array.getElem_toList] at e;exact ⟨j,by (clear e;omega),by (clear e;omega),by rw [iG (by (clear e;omega)),e]⟩
theorem iZ {x y:List Keyed}:Ls rk (x++y)↔Ls rk x/\Ls rk y /\ ∀p∈x,∀q∈y,rk p.1<=rk q.1:=List.pairwise_append
theorem MI.uD (m:MI rk a b out ia ib) (hle:∀i,i<k->ib+i<b.size -> ∀j,ia<=j->j<a.size->R rk b (ib+i)<=R rk a j):MI rk a b (out++b.extract ib (ib+k)) ia (ib+k):=by
 have e:(out++b.extract ib (ib+k)).toList=out.toList++(b.toList.drop ib).take k:=by rw [Array.toList_append,cQ];congr 2;omega
 have sp:=xQ b.toList ib k;refine ⟨?_, ?_, ?_⟩
 ·rw [e]
  refine List.Perm.trans ?_ m.perm;rw [List.append_assoc];refine List.Perm.append_left _ ?_;refine List.Perm.trans ?_ (List.Perm.of_eq (congrArg (a.toList.drop ia ++ ·) sp.symm));rw [←List.append_assoc];refine List.Perm.trans (List.Perm.append_right _ (List.perm_append_comm)) (List.Perm.of_eq (List.append_assoc _ _ _))
 ·rw [e,List.append_assoc]
  have h1:=iZ.mp m.sa;have h2:=m.sb;rw [sp] at h2;have h3:=iZ.mp h2;have h4:=iZ.mp h3.2.1;refine iZ.mpr ⟨h1.1,iZ.mpr ⟨h4.1,h1.2.1,fun p hp q hq=> ?_⟩,fun p hp q hq=> ?_⟩
  ·obtain ⟨i,i1,i2,i3⟩:=je (rk:=rk) hp
   obtain ⟨j,j1,j2,j3⟩:=Oe (rk:=rk) hq;rw [←i3,←j3];exact hle i i1 i2 j j1 j2
  ·rcases List.mem_append.mp hq with hq|hq
   ·exact h3.2.2 p hp q (List.mem_append_left _ hq)
   ·exact h1.2.2 p hp q hq
 ·rw [e,List.append_assoc,←sp]
  exact m.sb
theorem MI.swap (m:MI rk a b out ia ib):MI rk b a out ib ia:=⟨(List.Perm.append_left _ List.perm_append_comm).trans (m.perm.trans List.perm_append_comm),m.sb,m.sa⟩
theorem MI.uE (m:MI rk a b out ia ib) (hle:∀i,i<k->ia+i<a.size -> ∀j,ib<=j->j<b.size->R rk a (ia+i)<=R rk b j):MI rk a b (out++a.extract ia (ia+k)) (ia+k) ib:=(m.swap.uD hle).swap
theorem Ce (h:ib<b.size):out.push b[ib]=out++b.extract ib (ib+1):=by
 apply Array.toList_inj.mp;rw [Array.toList_push,Array.toList_append,cQ];congr 1;rw [show ib+1 - ib=1 by (clear h;omega),List.drop_eq_getElem_cons (by rw [Array.length_toList];exact h)];rfl
theorem MI.wH (m:MI rk a b out ia ib) (h:ib<b.size) (hle:∀j,ia<=j->j<a.size->R rk b ib<=R rk a j):MI rk a b (out.push b[ib]) ia (ib+1):=by
 rw [Ce h];refine m.uD (k:=1) fun i hi hb j j1 j2=> ?_;have:i=0:=by (clear j2 j1 hb h;omega)
 subst this;exact hle j j1 j2
theorem MI.wI (m:MI rk a b out ia ib) (h:ia<a.size) (hle:∀j,ib<=j->j<b.size->R rk a ia<=R rk b j):MI rk a b (out.push a[ia]) (ia+1) ib:=(m.swap.wH h hle).swap
theorem MI.done (m:MI rk a b out ia ib) (h:ia=a.size\/ib=b.size):Mg rk a b (fZ a b out ia ib):=by
 have e:(fZ a b out ia ib).toList=out.toList++(a.toList.drop ia++b.toList.drop ib):=by
  unfold fZ;rw [Array.toList_append,Array.toList_append,cQ,cQ,List.append_assoc];congr 2
  ·rw [List.take_of_length_le];rw [List.length_drop,Array.length_toList];exact Nat.le_refl _
  ·rw [List.take_of_length_le];rw [List.length_drop,Array.length_toList];exact Nat.le_refl _
 refine ⟨by rw [e];exact m.perm, ?_⟩;rw [e];rcases h with h|h
 ·rw [h,show a.toList.drop a.size=[] by rw [List.drop_eq_nil_of_le];rw [Array.length_toList];exact Nat.le_refl _,List.nil_append]
  exact m.sb
 ·rw [h,show b.toList.drop b.size=[] by rw [List.drop_eq_nil_of_le];rw [Array.length_toList];exact Nat.le_refl _,List.append_nil]
  exact m.sa
theorem MI.last (m:MI rk a b out ia ib) (h:∀i j,ib<=i->i<b.size->ia<=j->j<a.size->R rk b i<=R rk a j):Mg rk a b (qK a b out ia ib):=by
 have m2:=m.uD (k:=b.size - ib) fun i hi hb j j1 j2=>h _ _ (by (clear j2 j1 hb hi;omega)) hb j1 j2
 have e:(qK a b out ia ib)=fZ a b (out++b.extract ib (ib+(b.size - ib))) ia (ib+(b.size - ib)):=by
  unfold fZ qK;apply Array.toList_inj.mp;simp only [Array.toList_append,cQ]
  have e1:(b.toList.drop (ib+(b.size - ib))).take (b.size - (ib+(b.size - ib)))=[]:=by
   rw [List.take_eq_nil_iff];left;omega
  rw [e1,List.append_nil];congr 3
  (clear e1;omega)
 rw [e]
 by_cases hb:ib<=b.size
 ·exact m2.done (.inr (by (clear e;omega)))
 ·refine ⟨?_, ?_⟩
  ·have:=m2.perm
   have e2:(fZ a b (out++b.extract ib (ib+(b.size - ib))) ia (ib+(b.size - ib))).toList=(out++b.extract ib (ib+(b.size - ib))).toList++(a.toList.drop ia++b.toList.drop (ib+(b.size - ib))):=by
    unfold fZ;rw [Array.toList_append,Array.toList_append,cQ,cQ,List.append_assoc];congr 2
    ·rw [List.take_of_length_le];rw [List.length_drop,Array.length_toList];exact Nat.le_refl _
    ·rw [List.take_of_length_le];rw [List.length_drop,Array.length_toList];exact Nat.le_refl _
   rw [e2];exact this
  ·unfold fZ
   rw [Array.toList_append,Array.toList_append,cQ (a:=b) (i:=ib+(b.size - ib)),show b.size - (ib+(b.size - ib))=0 by (clear hb e;omega),List.take_zero,List.append_nil,cQ (a:=a)];rw [List.take_of_length_le (by rw [List.length_drop,Array.length_toList];exact Nat.le_refl _)];exact m2.sa
end
end Tim
set_option Elab.async false
set_option linter.all false
set_option maxRecDepth 100000
set_option maxHeartbeats 4000000
namespace Tim
open PySem PyProof.Rows
section
variable {prog:Program} {w:World} {A:Around} {E:Value->Shared->Prop} {s:Shared} {κ:SortKind} {a₀:Array Keyed} {rk:Value->Nat}
structure Br (st st':SortSt):Prop where
 k:kindOf st'=kindOf st
 a:arrOf st'=arrOf st
 p:pendingOf st'=pendingOf st
 f:failedOf st'=failedOf st
theorem Br.refl (st:SortSt):Br st st:=⟨rfl,rfl,rfl,rfl⟩
theorem Br.trans {a b c:SortSt} (h:Br a b) (g:Br b c):Br a c:=⟨g.k.trans h.k,g.a.trans h.a,g.p.trans h.p,g.f.trans h.f⟩
theorem oJ {st:SortSt} {g:Nat} {Q:Unit->SortSt->Prop} (h:∀st',Br st st'->Q () st'):wpS (model prog w) A E s (eY g) Q st:=by
 rw [tW];exact wpS_modify (h _ ⟨rfl,rfl,rfl,rfl⟩)
theorem aP {α:Type} {c:Prop} [Decidable c] {x y:StateT SortSt Sem α} {Q:α->SortSt->Prop} {st:SortSt} (h1:c->wpS (model prog w) A E s x Q st) (h2:¬c->wpS (model prog w) A E s y Q st):wpS (model prog w) A E s (if c then x else y) Q st:=by
 by_cases hc:c
 ·rw [if_pos hc];exact h1 hc
 ·rw [if_neg hc];exact h2 hc
theorem WD {k r:Nat} (h:By true k r=true):r<k:=by simpa [By] using h
theorem Tv {k r:Nat} (h:By false k r=true):r<=k:=by simpa [By] using h
theorem Et {k r:Nat} (h:By true k r=false):k<=r:=by simpa [By] using h
theorem Qn {k r:Nat} (h:By false k r=false):k<r:=by simpa [By] using h
theorem Bs {st:SortSt} {a b:Array Keyed} {Q:Array Keyed->SortSt->Prop} (C:HJ prog w A s κ a₀ rk) (hk:kindOf st=κ) (ha:∀p∈a.toList,p∈a₀.toList) (hb:∀p∈b.toList,p∈a₀.toList)
 (ha1:1<=a.size) (hb1:1<=b.size) (sa:Seg rk a 0 a.size) (sb:Seg rk b 0 b.size) (h0:R rk b 0<=R rk a 0) (hl:R rk b (b.size - 1)<=R rk a (a.size - 1))
 (h:∀r st',Br st st'->Mg rk a b r->Q r st'):wpS (model prog w) A E s (wR a b) Q st:=by
 have Yt:∀i,i<b.size -> ∃p,b[i]? = some p/\p∈a₀.toList/\R rk b i=rk p.1:=fun i hi=>⟨b[i],getElem?_pos b i hi,hb _ (by simp),iG hi⟩;have Uh:∀i,i<a.size -> ∃p,a[i]? = some p/\p∈a₀.toList/\R rk a i=rk p.1:=fun i hi=>⟨a[i],getElem?_pos a i hi,ha _ (by simp),iG hi⟩
 have mid:∀i j,i<b.size->j+1=a.size->R rk b i<=R rk a j:=fun i j hi hj=>by
  have:=sb i (b.size - 1) (by (clear hj hi hl h0 hb1 ha1 hk;lia)) (by (clear hj hl h0 hb1 ha1 hk;lia)) (by (clear hj hi hl h0 ha1 hk;lia));have e:a.size - 1=j:=by (clear this hi hl h0 hb1 ha1 hk;lia)
  rw [e] at hl
  (clear e hj hi h0 hb1 ha1 hk;lia)
 have m0:MI rk a b #[b[0]] 0 1:=by
  have m:MI rk a b #[] 0 0:=by
   refine ⟨by simp, ?_, ?_⟩
   ·show Ls rk ([]++a.toList.drop 0)
    rw [List.nil_append,List.drop_zero];refine List.pairwise_iff_getElem.mpr fun i j hi hj hij=> ?_;rw [Array.length_toList] at hi hj;have:=sa i j (by (clear hij hj hi hl h0 hb1 ha1 hk;lia)) (by (clear hj hi hl h0 hb1 ha1 hk;lia)) hj;rw [iG hi,iG hj] at this;simpa [Le] using this
   ·show Ls rk ([]++b.toList.drop 0)
    rw [List.nil_append,List.drop_zero];refine List.pairwise_iff_getElem.mpr fun i j hi hj hij=> ?_;rw [Array.length_toList] at hi hj;have:=sb i j (by (clear hij hj hi hl h0 hb1 ha1 hk;lia)) (by (clear hj hi hl h0 hb1 ha1 hk;lia)) hj;rw [iG hi,iG hj] at this;simpa [Le] using this
  exact m.wH (by (clear hl h0 ha1 hk;lia)) fun j _ j2=>Nat.le_trans h0 (sa 0 j (by (clear j2 hl h0 hb1 ha1 hk;lia)) (by (clear j2 hl h0 hb1 ha1 hk;lia)) j2)
 rw [CZ];refine wpS_bind (wpS_lift (wpAny_rule ⟨rfl, ?_⟩));refine wpS_bind (bR (p:=b[0]) (getElem?_pos b 0 (by (clear hl h0 ha1 hk;lia))) ?_);dsimp only;refine aP (fun e=> ?_) (fun e=> ?_)
 ·have e:1=b.size:=by simpa using e
  exact wpS_pure (h _ _ (.refl _) (m0.done (.inr e)))
 have eb:¬1=b.size:=by simpa using e
 refine aP (fun e=> ?_) (fun e=> ?_)
 ·have e:1=a.size:=by simpa using e
  exact wpS_pure (h _ _ (.refl _) (m0.last fun i j _ hi _ hj=>mid i j hi (by (clear hi eb hl h0 ha1 hk;lia))))
 have ea:¬1=a.size:=by simpa using e
 refine wpS_bind (wpS_get ?_)
 refine wpS_bind (wpS_mono (wpS_forRange (I:=fun x c st'=>Br st st' /\ ∃out ia ib mg,c=(none,out,ia,ib,mg)/\MI rk a b out ia ib/\ia+2<=a.size/\ib+1<=b.size/\(a.size - ia)+(b.size - ib)+x<=a.size+b.size)
  (Q:=fun c st'=>Br st st' /\ ∃r cc,c=(some r,cc)/\Mg rk a b r) ?step ?fin ⟨.refl _,_,_,_,_,rfl,m0,by (clear e eb hl h0 hk;lia),by (clear ea e hl h0 ha1 hk;lia),by (clear ea e eb hl h0 ha1 hk;lia)⟩) ?post)
 case post=>
  rintro c st' ⟨kp,r,cc,rfl,m⟩;exact wpS_pure (h _ _ kp m)
 case fin=>
  rintro c st' ⟨kp,out,ia,ib,mg,rfl,m,a1,b1,le⟩
  (clear b1 ea e eb hl h0 ha1 hk;lia)
 case step=>
  rintro x c st' _ hx ⟨kp,out,ia,ib,mg,rfl,m,a1,b1,le⟩;dsimp only
  refine wpS_bind (wpS_mono (wpS_forRange (I:=fun y c st2=>st2=st' /\ ∃out ia ib ac bc,c=(none,out,ia,ib,ac,bc)/\MI rk a b out ia ib/\ia+2<=a.size/\ib+1<=b.size/\(a.size - ia)+(b.size - ib)+x+y<=a.size+b.size)
   (Q:=fun c st2=>st2=st'/\((∃r cc,c=(some r,cc)/\Mg rk a b r) \/ ∃out ia ib ac bc,c=(none,out,ia,ib,ac,bc)/\MI rk a b out ia ib/\ia+2<=a.size/\ib+1<=b.size/\(a.size - ia)+(b.size - ib)+x+1<=a.size+b.size)) ?step1 ?Wb ⟨rfl,_,_,_,_,_,rfl,m,a1,b1,by (clear b1 a1 hx ea e eb hl h0 ha1 hk;lia)⟩) ?Nj)
  case Wb=>
   rintro c st2 ⟨rfl,out,ia,ib,ac,bc,rfl,m,a1,b1,le⟩
   (clear b1 hx ea e eb hl h0 ha1 hk;lia)
  case step1=>
   rintro y c st2 _ hy ⟨rfl,out,ia,ib,ac,bc,rfl,m,a1,b1,le⟩;dsimp only;obtain ⟨p,ep,mp,rp⟩:=Yt ib (by (clear le a1 hy hx ea e eb hl h0 ha1 hk;lia));obtain ⟨q,eq,mq,rq⟩:=Uh ia (by (clear rp ep le b1 hy hx ea e eb hl h0 ha1 hk;lia));refine wpS_bind (bR ep (wpS_bind (bR eq (wpS_bind (vY C (kp.k.trans hk) mp mq ?_)))));dsimp only;have cC:p=b[ib]:=by rw [getElem?_pos b ib (by (clear rq eq rp ep le a1 hy hx ea e eb hl h0 ha1 hk;lia))] at ep;exact (Option.some.inj ep).symm
   have gR:q=a[ia]:=by rw [getElem?_pos a ia (by (clear cC rq eq rp ep le b1 hy hx ea e eb hl h0 ha1 hk;lia))] at eq;exact (Option.some.inj eq).symm
   refine aP (fun lt=> ?_) (fun lt=> ?_)
   ·have lt:R rk b ib<R rk a ia:=by rw [rp,rq];simpa using lt
    have m2:MI rk a b (out.push p) ia (ib+1):=by
     rw [cC];exact m.wH (by (clear lt gR cC rq eq rp ep le a1 hy hx ea e eb hl h0 ha1 hk;lia)) fun j j1 j2=>by have:=sa ia j (by (clear j2 j1 lt gR cC rq eq rp ep le b1 a1 hy hx ea e eb hl h0 ha1 hk;lia)) j1 j2;(clear j2 j1 gR cC rq eq rp ep le b1 a1 hy hx ea e eb hl h0 ha1 hk;lia)
    refine wpS_bind (bR ep ?_);refine aP (fun e=> ?_) (fun e=> ?_)
    ·exact wpS_pure ⟨rfl,.inl ⟨_,_,rfl,m2.done (.inr (by simpa using e))⟩⟩
    have e:¬ib+1=b.size:=by simpa using e
    refine aP (fun _=> ?_) (fun _=> ?_)
    ·exact wpS_pure ⟨rfl,.inr ⟨_,_,_,_,_,rfl,m2,a1,by (clear lt gR cC rq eq rp ep le a1 hy hx ea eb hl h0 ha1 hk;lia),by (clear e lt gR cC rq eq rp ep a1 hy hx ea eb hl h0 ha1 hk;lia)⟩⟩
    ·exact wpS_pure ⟨rfl,_,_,_,_,_,rfl,m2,a1,by (clear lt gR cC rq eq rp ep le a1 hy hx ea eb hl h0 ha1 hk;lia),by (clear e lt gR cC rq eq rp ep a1 hy hx ea eb hl h0 ha1 hk;lia)⟩
   ·have lt:R rk a ia<=R rk b ib:=by rw [rp,rq];simpa using lt
    have m2:MI rk a b (out.push q) (ia+1) ib:=by
     rw [gR];exact m.wI (by (clear lt gR cC rq eq rp ep le b1 hy hx ea e eb hl h0 ha1 hk;lia)) fun j j1 j2=>by have:=sb ib j (by (clear j2 j1 lt gR cC rq eq rp ep le b1 a1 hy hx ea e eb hl h0 ha1 hk;lia)) j1 j2;(clear j2 j1 gR cC rq eq rp ep le b1 a1 hy hx ea e eb hl h0 ha1 hk;lia)
    refine wpS_bind (bR eq ?_);refine aP (fun e=> ?_) (fun e=> ?_)
    ·have e:ia+1+1=a.size:=by simpa using e
     exact wpS_pure ⟨rfl,.inl ⟨_,_,rfl,m2.last fun i j _ hi _ hj=>mid i j hi (by (clear hi lt gR cC rq eq rp ep le b1 a1 hy hx ea eb hl h0 ha1 hk;lia))⟩⟩
    have e:¬ia+1+1=a.size:=by simpa using e
    refine aP (fun _=> ?_) (fun _=> ?_)
    ·exact wpS_pure ⟨rfl,.inr ⟨_,_,_,_,_,rfl,m2,by (clear lt gR cC rq eq rp ep le b1 hy hx ea eb hl h0 ha1 hk;lia),b1,by (clear e lt gR cC rq eq rp ep b1 hy hx ea eb hl h0 ha1 hk;lia)⟩⟩
    ·exact wpS_pure ⟨rfl,_,_,_,_,_,rfl,m2,by (clear lt gR cC rq eq rp ep le b1 hy hx ea eb hl h0 ha1 hk;lia),b1,by (clear e lt gR cC rq eq rp ep b1 hy hx ea eb hl h0 ha1 hk;lia)⟩
  case Nj=>
   rintro c st2 ⟨rfl,(⟨r,cc,rfl,mr⟩|⟨out,ia,ib,ac,bc,rfl,m,a1,b1,le⟩)⟩
   ·exact wpS_pure ⟨kp,r,_,rfl,mr⟩
   dsimp only;refine wpS_bind (wpS_lift (wpAny_rule ⟨rfl, ?_⟩))
   refine wpS_bind (wpS_mono (wpS_forRange (I:=fun y c st3=>Br st st3 /\ ∃out ia ib mg ac bc,c=(none,out,ia,ib,mg,ac,bc)/\MI rk a b out ia ib/\ia+2<=a.size/\ib+1<=b.size/\(a.size - ia)+(b.size - ib)+x+1+y<=a.size+b.size)
    (Q:=fun c st3=>Br st st3/\((∃r cc,c=(some r,cc)/\Mg rk a b r) \/ ∃out ia ib mg ac bc,c=(none,out,ia,ib,mg,ac,bc)/\MI rk a b out ia ib/\ia+2<=a.size/\ib+1<=b.size/\(a.size - ia)+(b.size - ib)+x+1<=a.size+b.size)) ?Mz ?fin2 ⟨kp,_,_,_,_,_,_,rfl,m,a1,b1,by (clear b1 a1 hx ea e eb hl h0 ha1 hk;lia)⟩) ?post2)
   case fin2=>
    rintro c st3 ⟨I_,out,ia,ib,mg,ac,bc,rfl,m,a1,b1,le⟩
    (clear b1 a1 hx ea e eb hl h0 ha1 hk;lia)
   case post2=>
    rintro c st3 ⟨I_,(⟨r,cc,rfl,mr⟩|⟨out,ia,ib,mg,ac,bc,rfl,m,a1,b1,le⟩)⟩
    ·exact wpS_pure ⟨I_,r,_,rfl,mr⟩
    dsimp only;refine wpS_bind (oJ fun nA k4=>wpS_pure ⟨I_.trans k4,_,_,_,_,rfl,m,a1,b1,by (clear b1 a1 hx ea e eb hl h0 ha1 hk;lia)⟩)
   case Mz=>
    rintro y c st3 _ hy ⟨I_,out,ia,ib,mg,ac,bc,rfl,m,a1,b1,le⟩;dsimp only;refine aP (fun _=> ?_) (fun _=> ?_)
    all_goals
     refine wpS_bind (oJ fun nA k4=> ?_);have wZ:=I_.trans k4;obtain ⟨p,ep,mp,rp⟩:=Yt ib (by (clear le a1 hy hx ea e eb hl h0 ha1 hk;lia));have cC:p=b[ib]:=by rw [getElem?_pos b ib (by (clear rp ep le a1 hy hx ea e eb hl h0 ha1 hk;lia))] at ep;exact (Option.some.inj ep).symm
     refine wpS_bind (bR ep (wpS_bind (iQ C (wZ.k.trans hk) mp ha (by (clear cC rp ep le b1 hy hx ea e eb hl h0 ha1 hk;lia)) (by (clear cC rp ep le b1 hy hx ea e eb hl h0 ha1 hk;lia)) (fun i j h1 h2 h3=>sa i j (by (clear h3 h2 h1 cC rp ep le b1 a1 hy hx ea e eb hl h0 ha1 hk;lia)) h2 (by (clear h2 h1 cC rp ep le b1 hy hx ea e eb hl h0 ha1 hk;lia))) fun k k1 k2 k3=> ?_)));dsimp only
     have mA:MI rk a b (out++a.extract ia (ia+k)) (ia+k) ib:=m.uE (k:=k) fun i hi hs j j1 j2=>by
      have e1:=Tv (k2 i hi);have e2:=sb ib j (by (clear e1 j2 j1 hs hi k1 cC rp ep le b1 a1 hy hx ea e eb hl h0 ha1 hk;lia)) j1 j2;rw [rp] at e2
      (clear j2 j1 hs hi k1 cC rp ep le b1 a1 hy hx ea e eb hl h0 ha1 hk;lia)
     have nxt:∀j,ia+k<=j->j<a.size->R rk b ib<=R rk a j:=fun j j1 j2=>by
      have:=Qn (k3 (j - ia) (by (clear j2 k1 cC rp ep le b1 a1 hy hx ea e eb hl h0 ha1 hk;lia)) (by (clear j1 k1 cC rp ep le b1 hy hx ea e eb hl h0 ha1 hk;lia)));rw [show ia+(j - ia)=j by (clear this j2 k1 cC rp ep le b1 a1 hy hx ea e eb hl h0 ha1 hk;lia)] at this;rw [rp];(clear j2 j1 k1 cC rp ep le b1 a1 hy hx ea e eb hl h0 ha1 hk;lia)
     apply aP
     case' h1=>
      intro kpos;refine aP (fun e=> ?_) (fun e=> ?_)
      ·have e:ia+k+1=a.size:=by simpa using e
       exact wpS_pure ⟨wZ,.inl ⟨_,_,rfl,mA.last fun i j _ hi _ hj=>mid i j hi (by (clear hi kpos k1 cC rp ep le b1 a1 hy hx ea eb hl h0 ha1 hk;lia))⟩⟩
      have e1:¬ia+k+1=a.size:=by simpa using e
      refine aP (fun e=> ?_) (fun e=> ?_)
      ·exact wpS_pure ⟨wZ,.inl ⟨_,_,rfl,mA.done (.inl (by simpa using e))⟩⟩
      have e2:¬ia+k=a.size:=by simpa using e
      have a3:ia+k+2<=a.size:=by (clear e kpos cC rp ep le b1 hy hx ea eb hl h0 ha1 hk;lia)
      have gH:(a.size - (ia+k))+(b.size - ib)+x+1+y<=a.size+b.size:=by (clear a3 e2 e e1 kpos k1 cC rp ep b1 a1 hy hx ea eb hl h0 ha1 hk;lia)
      generalize out++a.extract ia (ia+k)=ajs at mA ⊢;generalize ia+k=ia3 at mA nxt a3 gH ⊢
     case' h2=>
      intro kpos;have k0:k=0:=by (clear k1 cC rp ep le b1 a1 hy hx ea e eb hl h0 ha1 hk;lia)
      have a3:ia+2<=a.size:=by (clear k0 kpos k1 cC rp ep le b1 hy hx ea e eb hl h0 ha1 hk;lia)
      have gH:(a.size - ia)+(b.size - ib)+x+1+y<=a.size+b.size:=by (clear a3 k0 kpos k1 cC rp ep b1 a1 hy hx ea e eb hl h0 ha1 hk;lia)
      subst k0
      replace nxt:∀j,ia<=j->j<a.size->R rk b ib<=R rk a j:=nxt
      replace mA:=m
     all_goals
      have mB:=mA.wH (by (clear kpos k1 gH a3 cC rp ep le a1 hy hx ea e eb hl h0 ha1 hk;lia)) nxt;rw [←cC] at mB;refine wpS_bind (bR ep ?_);refine aP (fun e=> ?_) (fun e=> ?_)
      ·exact wpS_pure ⟨wZ,.inl ⟨_,_,rfl,mB.done (.inr (by simpa using e))⟩⟩
      have e3:¬ib+1=b.size:=by simpa using e
      obtain ⟨q,eq,mq,rq⟩:=Uh _ (show _<a.size from Nat.lt_of_lt_of_le (Nat.lt_succ_of_lt (Nat.lt_succ_self _)) a3);refine wpS_bind (bR eq (wpS_bind (iQ C (wZ.k.trans hk) mq hb (by (clear rq eq e3 e kpos k1 gH a3 cC rp ep le a1 hy hx ea eb hl h0 ha1 hk;lia)) (by (clear rq eq e kpos k1 gH a3 cC rp ep le a1 hy hx ea eb hl h0 ha1 hk;lia)) (fun i j h1 h2 h3=>sb i j (by (clear h3 h2 h1 rq eq e3 e kpos k1 gH a3 cC rp ep le b1 a1 hy hx ea eb hl h0 ha1 hk;lia)) h2 (by (clear h2 h1 rq eq e3 e kpos k1 gH a3 cC rp ep le a1 hy hx ea eb hl h0 ha1 hk;lia))) fun k' l1 l2 l3=> ?_)));dsimp only
      have mC:=mB.uD (k:=k') fun i hi hs j j1 j2=>by
       have e1:=WD (l2 i hi);have e2:=sa _ j (by (clear e1 j2 j1 hs hi l1 rq eq e3 e kpos k1 gH a3 cC rp ep le b1 a1 hy hx ea eb hl h0 ha1 hk;lia)) j1 j2;rw [rq] at e2
       (clear j2 j1 hs hi l1 rq eq e3 e kpos k1 gH a3 cC rp ep le b1 a1 hy hx ea eb hl h0 ha1 hk;lia)
      apply aP
      case' h1=>
       intro kpos;refine aP (fun e=> ?_) (fun e=> ?_)
       ·exact wpS_pure ⟨wZ,.inl ⟨_,_,rfl,mC.done (.inr (by simpa using e))⟩⟩
       have e5:¬ib+1+k'=b.size:=by simpa using e
       have nx:∀j,ib+1+k'<=j->j<b.size->rk q.1<=R rk b j:=fun j j1 j2=>by
        have:=Et (l3 (j - (ib+1)) (by (clear j2 e5 e kpos l1 rq eq e3 k1 gH a3 cC rp ep le b1 a1 hy hx ea eb hl h0 ha1 hk;lia)) (by (clear j1 e5 e kpos l1 rq eq k1 gH a3 cC rp ep le a1 hy hx ea eb hl h0 ha1 hk;lia)));rw [show ib+1+(j - (ib+1))=j by (clear this j2 e5 e kpos l1 rq eq e3 k1 gH a3 cC rp ep le b1 a1 hy hx ea eb hl h0 ha1 hk;lia)] at this
        (clear j2 j1 e5 e kpos l1 rq eq e3 k1 gH a3 cC rp ep le b1 a1 hy hx ea eb hl h0 ha1 hk;lia)
       have b3:ib+1+k'+1<=b.size:=by (clear e kpos rq eq e3 k1 gH a3 cC rp ep le a1 hy hx ea eb hl h0 ha1 hk;lia)
      case' h2=>
       intro kpos;have k0:k'=0:=by (clear l1 rq eq e3 e k1 gH a3 cC rp ep le b1 a1 hy hx ea eb hl h0 ha1 hk;lia)
       have nx:∀j,ib+1<=j->j<b.size->rk q.1<=R rk b j:=fun j j1 j2=>by
        have:=Et (l3 (j - (ib+1)) (by (clear j2 j1 k0 l1 rq eq e3 e k1 gH a3 cC rp ep le b1 a1 hy hx ea eb hl h0 ha1 hk;lia)) (by (clear j1 k0 kpos l1 rq eq e k1 gH a3 cC rp ep le a1 hy hx ea eb hl h0 ha1 hk;lia)));rw [show ib+1+(j - (ib+1))=j by (clear this j2 k0 kpos l1 rq eq e3 e k1 gH a3 cC rp ep le b1 a1 hy hx ea eb hl h0 ha1 hk;lia)] at this
        (clear j2 j1 k0 kpos l1 rq eq e3 e k1 gH a3 cC rp ep le b1 a1 hy hx ea eb hl h0 ha1 hk;lia)
       have b3:ib+1+1<=b.size:=by (clear k0 kpos l1 rq eq e k1 gH a3 cC rp ep le a1 hy hx ea eb hl h0 ha1 hk;lia)
       replace mC:=mB
      all_goals
       have mD:=mC.wI (by (clear b3 kpos l1 rq eq e3 e k1 gH cC rp ep le b1 hy hx ea eb hl h0 ha1 hk;lia)) (fun j j1 j2=>by rw [rq];exact nx j j1 j2);have gR:=Option.some.inj ((getElem?_pos a _ (by (clear b3 kpos l1 rq eq e3 e k1 gH cC rp ep le b1 hy hx ea eb hl h0 ha1 hk;lia))).symm.trans eq);rw [gR] at mD;refine wpS_bind (bR eq ?_);refine aP (fun e=> ?_) (fun e=> ?_)
       ·exact wpS_pure ⟨wZ,.inl ⟨_,_,rfl,mD.last fun i j _ hi _ hj=>mid i j hi (by have e:=eq_of_beq e;(clear hi gR b3 kpos l1 rq eq e3 k1 gH a3 cC rp ep le b1 a1 hy hx ea eb hl h0 ha1 hk;lia))⟩⟩
       have e6:¬_=a.size:=fun z=>e (beq_iff_eq.mpr z);refine aP (fun _=> ?_) (fun _=> ?_)
       ·exact wpS_pure ⟨wZ,.inr ⟨_,_,_,_,_,_,rfl,mD,by (clear e gR b3 kpos l1 rq eq e3 k1 gH cC rp ep le b1 hy hx ea eb hl h0 ha1 hk;lia),by (clear e6 e gR b3 kpos rq eq k1 gH a3 cC rp ep le a1 hy hx ea eb hl h0 ha1 hk;lia),by (clear e6 e gR b3 kpos l1 rq eq e3 k1 a3 cC rp ep b1 a1 hy hx ea eb hl h0 ha1 hk;lia)⟩⟩
       ·exact wpS_pure ⟨wZ,_,_,_,_,_,_,rfl,mD,by (clear e gR b3 kpos l1 rq eq e3 k1 gH cC rp ep le b1 hy hx ea eb hl h0 ha1 hk;lia),by (clear e6 e gR b3 kpos rq eq k1 gH a3 cC rp ep le a1 hy hx ea eb hl h0 ha1 hk;lia),by (clear e6 e gR b3 kpos l1 rq eq e3 k1 a3 cC rp ep hy hx ea eb hl h0 ha1 hk;lia)⟩
end
end Tim
set_option Elab.async false
set_option linter.all false
set_option maxRecDepth 100000
set_option maxHeartbeats 4000000
namespace Tim
open PySem PyProof.Rows
abbrev ju (a b out:Array Keyed) (na nb:Nat):Array Keyed:=a.extract 0 na++b.extract 0 nb++out.reverse
abbrev o7 (a b out:Array Keyed) (na nb:Nat):Array Keyed:=b.extract 0 nb++a.extract 0 na++out.reverse
theorem C_ (a b:Array Keyed):wU a b=(do
 rule "list.sort.merge-hi"
 let total:=a.size+b.size
 let mut na:=a.size - 1
 let mut nb:=b.size
 let mut out:Array Keyed:= #[←elem' a na]
 if na==0 then return ju a b out na nb
 if nb==1 then return o7 a b out na nb
 let mut minGallop:=gallopOf (←get)
 for _ in [0:total] do
  let mut acount:=0
  let mut bcount:=0
  for _ in [0:total] do
   let some aWins ←lt' (←elem' b (nb - 1)) (←elem' a (na - 1))|return ju a b out na nb
   if aWins then
    na:=na - 1;out:=out.push (←elem' a na);acount:=acount+1;bcount:=0
    if na==0 then return ju a b out na nb
    if acount≥minGallop then break
   else
    nb:=nb - 1;out:=out.push (←elem' b nb);bcount:=bcount+1;acount:=0
    if nb==1 then return o7 a b out na nb
    if bcount≥minGallop then break
  rule "list.sort.gallop"
  minGallop:=minGallop+1
  for _ in [0:total] do
   if minGallop>1 then minGallop:=minGallop - 1
   eY minGallop
   let some at_ ←j_ false (←elem' b (nb - 1)) a 0 na (na - 1)|return ju a b out na nb
   let k:=na - at_
   acount:=k
   if k>0 then
    out:=out++(a.extract at_ na).reverse;na:=at_
    if na==0 then return ju a b out na nb
   nb:=nb - 1;out:=out.push (←elem' b nb)
   if nb==1 then return o7 a b out na nb
   let some at_ ←j_ true (←elem' a (na - 1)) b 0 nb (nb - 1)|return ju a b out na nb
   let k:=nb - at_
   bcount:=k
   if k>0 then
    out:=out++(b.extract at_ nb).reverse;nb:=at_
    if nb==1 then return o7 a b out na nb
    if nb==0 then return ju a b out na nb
   na:=na - 1;out:=out.push (←elem' a na)
   if na==0 then return ju a b out na nb
   if acount<7&&bcount<7 then break
  minGallop:=minGallop+1
  eY minGallop
 unsupported "internal:list.sort.merge-bound"):=rfl
section
variable {rk:Value->Nat} {a b out:Array Keyed} {na nb k:Nat}
structure MH (rk:Value->Nat) (a b out:Array Keyed) (na nb:Nat):Prop where
 perm:(a.toList.take na++(b.toList.take nb++out.toList.reverse)).Perm (a.toList++b.toList)
 sa:Ls rk (a.toList.take na++out.toList.reverse)
 sb:Ls rk (b.toList.take nb++out.toList.reverse)
theorem Fp (l:List Keyed) {i j:Nat} (h:i<=j):l.take j=l.take i++(l.drop i).take (j - i):=by
 rw [List.take_drop,show i+(j - i)=j by lia];have:=(List.take_append_drop i (l.take j)).symm;rwa [List.take_take,Nat.min_eq_left h] at this
theorem Kf {a:Array Keyed} {x:Keyed} (h:x∈a.toList.take na):∃j,j<na/\j<a.size/\R rk a j=rk x.1:=by
 have h':x∈(a.toList.drop 0).take na:=by rw [List.drop_zero];exact h
 obtain ⟨j,j1,j2,j3⟩:=je (rk:=rk) h';rw [Nat.zero_add] at j2 j3;exact ⟨j,j1,j2,j3⟩
theorem MH.uE (m:MH rk a b out na nb) {at_:Nat} (hat:at_<=na) (hle:∀i,at_<=i->i<na->i<a.size -> ∀j,j<nb->j<b.size->R rk b j<=R rk a i):MH rk a b (out++(a.extract at_ na).reverse) at_ nb:=by
 have e:(out++(a.extract at_ na).reverse).toList.reverse=(a.toList.drop at_).take (na - at_)++out.toList.reverse:=by
  rw [Array.toList_append,List.reverse_append,Array.toList_reverse,List.reverse_reverse,cQ]
 have sp:=Fp a.toList hat;refine ⟨?_, ?_, ?_⟩
 ·rw [e]
  refine List.Perm.trans ?_ m.perm;rw [sp,List.append_assoc];refine List.Perm.append_left _ ?_;rw [←List.append_assoc,←List.append_assoc];exact List.Perm.append_right _ List.perm_append_comm
 ·rw [e,←List.append_assoc,←sp]
  exact m.sa
 ·rw [e]
  have h1:=m.sa;rw [sp,List.append_assoc] at h1;have h2:=iZ.mp (iZ.mp h1).2.1;have h3:=iZ.mp m.sb;refine iZ.mpr ⟨h3.1,iZ.mpr ⟨h2.1,h3.2.1,h2.2.2⟩,fun p hp q hq=> ?_⟩;rcases List.mem_append.mp hq with hq|hq
  ·obtain ⟨i,i1,i2,i3⟩:=Kf (rk:=rk) hp
   obtain ⟨j,j1,j2,j3⟩:=je (rk:=rk) hq;rw [←i3,←j3];exact hle _ (by (clear j3 j2 j1 i3 i2 i1 h3 h2 sp e hat;lia)) (by (clear j3 j2 i3 i2 i1 h3 h2 sp e hat;lia)) j2 i i1 i2
  ·exact h3.2.2 p hp q hq
theorem MH.swap (m:MH rk a b out na nb):MH rk b a out nb na:=by
 refine ⟨?_,m.sb,m.sa⟩;refine List.Perm.trans ?_ (m.perm.trans List.perm_append_comm);rw [←List.append_assoc,←List.append_assoc];exact List.Perm.append_right _ List.perm_append_comm
theorem MH.uD (m:MH rk a b out na nb) {at_:Nat} (hat:at_<=nb) (hle:∀i,at_<=i->i<nb->i<b.size -> ∀j,j<na->j<a.size->R rk a j<=R rk b i):MH rk a b (out++(b.extract at_ nb).reverse) na at_:=(m.swap.uE hat hle).swap
theorem M_ (h1:1<=na) (h:na<=a.size):out.push (a[na - 1]'(by lia))=out++(a.extract (na - 1) na).reverse:=by
 have e:=Ce (out:= #[]) (b:=a) (ib:=na - 1) (by lia);rw [show na - 1+1=na by (clear e h;lia)] at e
 have e2:a.extract (na - 1) na = #[a[na - 1]'(by (clear e;lia))]:=by
  apply Array.toList_inj.mp;have:=congrArg Array.toList e;rw [Array.toList_append] at this;simpa using this.symm
 rw [e2];apply Array.toList_inj.mp;simp
theorem MH.wI (m:MH rk a b out na nb) (h1:1<=na) (h:na<=a.size) (hle:∀j,j<nb->j<b.size->R rk b j<=R rk a (na - 1)):MH rk a b (out.push (a[na - 1]'(by lia))) (na - 1) nb:=by
 rw [M_ h1 h];refine m.uE (by (clear h h1;lia)) fun i i1 i2 i3 j j1 j2=> ?_;have:i=na - 1:=by (clear j2 j1 i3 h h1;lia)
 subst this;exact hle j j1 j2
theorem MH.wH (m:MH rk a b out na nb) (h1:1<=nb) (h:nb<=b.size) (hle:∀j,j<na->j<a.size->R rk a j<=R rk b (nb - 1)):MH rk a b (out.push (b[nb - 1]'(by lia))) na (nb - 1):=(m.swap.wI h1 h hle).swap
theorem vQ:(ju a b out na nb).toList=a.toList.take na++(b.toList.take nb++out.toList.reverse):=by
 unfold ju;rw [Array.toList_append,Array.toList_append,cQ,cQ,Array.toList_reverse,List.append_assoc];rfl
theorem MH.done (m:MH rk a b out na nb) (h:na=0\/nb=0):Mg rk a b (ju a b out na nb):=by
 refine ⟨by rw [vQ];exact m.perm, ?_⟩;rw [vQ];rcases h with h|h
 ·subst h
  exact m.sb
 ·subst h
  exact m.sa
theorem MH.first (m:MH rk a b out na nb) (h:∀i j,i<nb->i<b.size->j<na->j<a.size->R rk b i<=R rk a j):Mg rk a b (o7 a b out na nb):=by
 have m2:=m.uE (at_:=0) (by lia) fun i _ i2 i3 j j1 j2=>h j i j1 j2 i2 i3
 have e:o7 a b out na nb=ju a b (out++(a.extract 0 na).reverse) 0 nb:=by
  apply Array.toList_inj.mp;rw [vQ,vQ,Array.toList_append,List.reverse_append,Array.toList_reverse,List.reverse_reverse,cQ];simp
 rw [e];exact m2.done (.inl rfl)
end
section
variable {prog:Program} {w:World} {A:Around} {E:Value->Shared->Prop} {s:Shared} {κ:SortKind} {a₀:Array Keyed} {rk:Value->Nat}
theorem Bu {st:SortSt} {a b:Array Keyed} {Q:Array Keyed->SortSt->Prop} (C:HJ prog w A s κ a₀ rk) (hk:kindOf st=κ) (ha:∀p∈a.toList,p∈a₀.toList) (hb:∀p∈b.toList,p∈a₀.toList)
 (ha1:1<=a.size) (hb1:1<=b.size) (sa:Seg rk a 0 a.size) (sb:Seg rk b 0 b.size) (h0:R rk b 0<=R rk a 0) (hl:R rk b (b.size - 1)<=R rk a (a.size - 1))
 (h:∀r st',Br st st'->Mg rk a b r->Q r st'):wpS (model prog w) A E s (wU a b) Q st:=by
 have Yt:∀i,i<b.size -> ∃p,b[i]? = some p/\p∈a₀.toList/\R rk b i=rk p.1:=fun i hi=>⟨b[i],getElem?_pos b i hi,hb _ (by simp),iG hi⟩;have Uh:∀i,i<a.size -> ∃p,a[i]? = some p/\p∈a₀.toList/\R rk a i=rk p.1:=fun i hi=>⟨a[i],getElem?_pos a i hi,ha _ (by simp),iG hi⟩
 have mid:∀i j nb,i<nb->nb=1->j<a.size->R rk b i<=R rk a j:=fun i j nb hi hn hj=>by
  have:=sa 0 j (by (clear hj hn hi hl h0 hb1 ha1 hk;lia)) (by (clear hj hn hi hl h0 hb1 ha1 hk;lia)) hj;have e:i=0:=by (clear this hj hl h0 hb1 ha1 hk;lia)
  subst e
  (clear hi hj hn hl hb1 ha1 hk;lia)
 have m0:MH rk a b #[a[a.size - 1]] (a.size - 1) b.size:=by
  have m:MH rk a b #[] a.size b.size:=by
   refine ⟨?_, ?_, ?_⟩
   ·rw [←Array.length_toList,←Array.length_toList,List.take_length,List.take_length];simp
   ·rw [←Array.length_toList,List.take_length]
    show Ls rk (a.toList++[]);rw [List.append_nil];refine List.pairwise_iff_getElem.mpr fun i j hi hj hij=> ?_;rw [Array.length_toList] at hi hj;have:=sa i j (by (clear hij hj hi hl h0 hb1 ha1 hk;lia)) (by (clear hj hi hl h0 hb1 ha1 hk;lia)) hj;rw [iG hi,iG hj] at this;simpa [Le] using this
   ·rw [←Array.length_toList,List.take_length]
    show Ls rk (b.toList++[]);rw [List.append_nil];refine List.pairwise_iff_getElem.mpr fun i j hi hj hij=> ?_;rw [Array.length_toList] at hi hj;have:=sb i j (by (clear hij hj hi hl h0 hb1 ha1 hk;lia)) (by (clear hj hi hl h0 hb1 ha1 hk;lia)) hj;rw [iG hi,iG hj] at this;simpa [Le] using this
  exact m.wI ha1 (Nat.le_refl _) fun j j1 j2=>Nat.le_trans (sb j (b.size - 1) (by (clear j2 j1 hl h0 hb1 ha1 hk;lia)) (by (clear j2 hl h0 hb1 ha1 hk;lia)) (by (clear j2 j1 hl h0 ha1 hk;lia))) hl
 rw [C_];refine wpS_bind (wpS_lift (wpAny_rule ⟨rfl, ?_⟩));refine wpS_bind (bR (p:=a[a.size - 1]) (getElem?_pos a _ (by (clear hl h0 hb1 hk;lia))) ?_);dsimp only;refine aP (fun e=> ?_) (fun e=> ?_)
 ·exact wpS_pure (h _ _ (.refl _) (m0.done (.inl (by simpa using e))))
 have ea:¬a.size - 1=0:=fun z=>e (beq_iff_eq.mpr z);refine aP (fun e=> ?_) (fun e=> ?_)
 ·exact wpS_pure (h _ _ (.refl _) (m0.first fun i j i1 i2 j1 j2=>mid i j _ i1 (by simpa using e) j2))
 have eb:¬b.size=1:=by simpa using e
 refine wpS_bind (wpS_get ?_)
 refine wpS_bind (wpS_mono (wpS_forRange (I:=fun x c st'=>Br st st' /\ ∃na nb out mg,c=(none,na,nb,out,mg)/\MH rk a b out na nb/\1<=na/\2<=nb/\na<=a.size/\nb<=b.size/\na+nb+x<=a.size+b.size)
  (Q:=fun c st'=>Br st st' /\ ∃r cc,c=(some r,cc)/\Mg rk a b r) ?step ?fin ⟨.refl _,_,_,_,_,rfl,m0,by (clear eb e hl h0 hb1 hk;lia),by (clear e ea hl h0 hk;lia),by (clear eb e ea hl h0 hb1 hk;lia),by (clear eb e ea hl h0 hb1 hk;lia),by (clear eb e ea hl h0 hb1 hk;lia)⟩) ?post)
 case post=>
  rintro c st' ⟨kp,r,cc,rfl,m⟩;exact wpS_pure (h _ _ kp m)
 case fin=>
  rintro c st' ⟨kp,na,nb,out,mg,rfl,m,a1,b1,a2,b2,le⟩
  (clear b2 a2 b1 eb e ea hl h0 hb1 hk;lia)
 case step=>
  rintro x c st' _ hx ⟨kp,na,nb,out,mg,rfl,m,a1,b1,a2,b2,le⟩;dsimp only
  refine wpS_bind (wpS_mono (wpS_forRange (I:=fun y c st2=>st2=st' /\ ∃na nb out ac bc,c=(none,na,nb,out,ac,bc)/\MH rk a b out na nb/\1<=na/\2<=nb/\na<=a.size/\nb<=b.size/\na+nb+x+y<=a.size+b.size)
   (Q:=fun c st2=>st2=st'/\((∃r cc,c=(some r,cc)/\Mg rk a b r) \/ ∃na nb out ac bc,c=(none,na,nb,out,ac,bc)/\MH rk a b out na nb/\1<=na/\2<=nb/\na<=a.size/\nb<=b.size/\na+nb+x+1<=a.size+b.size)) ?step1 ?Wb ⟨rfl,_,_,_,_,_,rfl,m,a1,b1,a2,b2,by (clear b2 a2 b1 a1 hx eb e ea hl h0 hb1 hk;lia)⟩) ?Nj)
  case Wb=>
   rintro c st2 ⟨rfl,na,nb,out,ac,bc,rfl,m,a1,b1,a2,b2,le⟩
   (clear b2 a2 b1 hx eb e ea hl h0 hb1 hk;lia)
  case step1=>
   rintro y c st2 _ hy ⟨rfl,na,nb,out,ac,bc,rfl,m,a1,b1,a2,b2,le⟩;dsimp only;obtain ⟨p,ep,mp,rp⟩:=Yt (nb - 1) (by (clear le a2 b1 a1 hy hx eb e ea hl h0 hb1 hk;lia));obtain ⟨q,eq,mq,rq⟩:=Uh (na - 1) (by (clear rp ep le b2 b1 a1 hy hx eb e ea hl h0 hb1 hk;lia));refine wpS_bind (bR ep (wpS_bind (bR eq (wpS_bind (vY C (kp.k.trans hk) mp mq ?_)))));dsimp only;have cC:b[nb - 1]=p:=Option.some.inj ((getElem?_pos b _ (by (clear rq eq rp ep le a2 b1 a1 hy hx eb e ea hl h0 hb1 hk;lia))).symm.trans ep);have gR:a[na - 1]=q:=Option.some.inj ((getElem?_pos a _ (by (clear cC rq eq rp ep le b2 b1 a1 hy hx eb e ea hl h0 hb1 hk;lia))).symm.trans eq);refine aP (fun lt=> ?_) (fun lt=> ?_)
   ·have lt:R rk b (nb - 1)<R rk a (na - 1):=by rw [rp,rq];simpa using lt
    have m2:=m.wI a1 a2 fun j j1 j2=>by have:=sb j (nb - 1) (by (clear j2 j1 lt gR cC rq eq rp ep le b2 a2 b1 a1 hy hx eb e ea hl h0 hb1 hk;lia)) (by (clear j2 lt gR cC rq eq rp ep le b2 a2 b1 a1 hy hx eb e ea hl h0 hb1 hk;lia)) (by (clear j2 j1 lt gR cC rq eq rp ep le a2 b1 a1 hy hx eb e ea hl h0 hb1 hk;lia));(clear j2 j1 gR cC rq eq rp ep le b2 a2 b1 a1 hy hx eb e ea hl h0 hb1 hk;lia)
    rw [gR] at m2;refine wpS_bind (bR eq ?_);refine aP (fun e=> ?_) (fun e=> ?_)
    ·exact wpS_pure ⟨rfl,.inl ⟨_,_,rfl,m2.done (.inl (by simpa using e))⟩⟩
    have e:¬na - 1=0:=fun z=>e (beq_iff_eq.mpr z);refine aP (fun _=> ?_) (fun _=> ?_)
    ·exact wpS_pure ⟨rfl,.inr ⟨_,_,_,_,_,rfl,m2,by (clear lt gR cC rq eq rp ep le b2 a2 b1 a1 hy hx eb ea hl h0 hb1 hk;lia),b1,by (clear e lt gR cC rq eq rp ep le b2 b1 a1 hy hx eb ea hl h0 hb1 hk;lia),b2,by (clear e lt gR cC rq eq rp ep b2 a2 b1 hy hx eb ea hl h0 hb1 hk;lia)⟩⟩
    ·exact wpS_pure ⟨rfl,_,_,_,_,_,rfl,m2,by (clear lt gR cC rq eq rp ep le b2 a2 b1 a1 hy hx eb ea hl h0 hb1 hk;lia),b1,by (clear e lt gR cC rq eq rp ep le b2 b1 a1 hy hx eb ea hl h0 hb1 hk;lia),b2,by (clear e lt gR cC rq eq rp ep b2 a2 b1 hy hx eb ea hl h0 hb1 hk;lia)⟩
   ·have lt:R rk a (na - 1)<=R rk b (nb - 1):=by rw [rp,rq];simpa using lt
    have m2:=m.wH (by (clear lt gR cC rq eq rp ep le b2 a2 a1 hy hx eb e ea hl h0 hb1 hk;lia)) b2 fun j j1 j2=>by have:=sa j (na - 1) (by (clear j2 j1 lt gR cC rq eq rp ep le b2 a2 b1 a1 hy hx eb e ea hl h0 hb1 hk;lia)) (by (clear j2 lt gR cC rq eq rp ep le b2 a2 b1 a1 hy hx eb e ea hl h0 hb1 hk;lia)) (by (clear j2 j1 lt gR cC rq eq rp ep le b2 b1 a1 hy hx eb e ea hl h0 hb1 hk;lia));(clear j2 j1 gR cC rq eq rp ep le b2 a2 b1 a1 hy hx eb e ea hl h0 hb1 hk;lia)
    rw [cC] at m2;refine wpS_bind (bR ep ?_);refine aP (fun e=> ?_) (fun e=> ?_)
    ·exact wpS_pure ⟨rfl,.inl ⟨_,_,rfl,m2.first fun i j i1 i2 j1 j2=>mid i j _ i1 (eq_of_beq e) j2⟩⟩
    have e:¬nb - 1=1:=fun z=>e (beq_iff_eq.mpr z);refine aP (fun _=> ?_) (fun _=> ?_)
    ·exact wpS_pure ⟨rfl,.inr ⟨_,_,_,_,_,rfl,m2,a1,by (clear lt gR cC rq eq rp ep le b2 a2 a1 hy hx eb ea hl h0 hb1 hk;lia),a2,by (clear e lt gR cC rq eq rp ep le a2 b1 a1 hy hx eb ea hl h0 hb1 hk;lia),by (clear e lt gR cC rq eq rp ep b2 a2 a1 hy hx eb ea hl h0 hb1 hk;lia)⟩⟩
    ·exact wpS_pure ⟨rfl,_,_,_,_,_,rfl,m2,a1,by (clear lt gR cC rq eq rp ep le b2 a2 a1 hy hx eb ea hl h0 hb1 hk;lia),a2,by (clear e lt gR cC rq eq rp ep le a2 b1 a1 hy hx eb ea hl h0 hb1 hk;lia),by (clear e lt gR cC rq eq rp ep b2 a2 a1 hy hx eb ea hl h0 hb1 hk;lia)⟩
  case Nj=>
   rintro c st2 ⟨rfl,(⟨r,cc,rfl,mr⟩|⟨na,nb,out,ac,bc,rfl,m,a1,b1,a2,b2,le⟩)⟩
   ·exact wpS_pure ⟨kp,r,_,rfl,mr⟩
   dsimp only;refine wpS_bind (wpS_lift (wpAny_rule ⟨rfl, ?_⟩))
   refine wpS_bind (wpS_mono (wpS_forRange (I:=fun y c st3=>Br st st3 /\ ∃na nb out mg ac bc,c=(none,na,nb,out,mg,ac,bc)/\MH rk a b out na nb/\1<=na/\2<=nb/\na<=a.size/\nb<=b.size/\na+nb+x+1+y<=a.size+b.size)
    (Q:=fun c st3=>Br st st3/\((∃r cc,c=(some r,cc)/\Mg rk a b r) \/ ∃na nb out mg ac bc,c=(none,na,nb,out,mg,ac,bc)/\MH rk a b out na nb/\1<=na/\2<=nb/\na<=a.size/\nb<=b.size/\na+nb+x+1<=a.size+b.size)) ?Mz ?fin2 ⟨kp,_,_,_,_,_,_,rfl,m,a1,b1,a2,b2,by (clear b2 a2 b1 a1 hx eb e ea hl h0 hb1 hk;lia)⟩) ?post2)
   case fin2=>
    rintro c st3 ⟨I_,na,nb,out,mg,ac,bc,rfl,m,a1,b1,a2,b2,le⟩
    (clear b2 a2 b1 a1 hx eb e ea hl h0 hb1 hk;lia)
   case post2=>
    rintro c st3 ⟨I_,(⟨r,cc,rfl,mr⟩|⟨na,nb,out,mg,ac,bc,rfl,m,a1,b1,a2,b2,le⟩)⟩
    ·exact wpS_pure ⟨I_,r,_,rfl,mr⟩
    dsimp only;refine wpS_bind (oJ fun nA k4=>wpS_pure ⟨I_.trans k4,_,_,_,_,rfl,m,a1,b1,a2,b2,by (clear b2 a2 b1 a1 hx eb e ea hl h0 hb1 hk;lia)⟩)
   case Mz=>
    rintro y c st3 _ hy ⟨I_,na,nb,out,mg,ac,bc,rfl,m,a1,b1,a2,b2,le⟩;dsimp only;refine aP (fun _=> ?_) (fun _=> ?_)
    all_goals
     refine wpS_bind (oJ fun nA k4=> ?_);have wZ:=I_.trans k4;obtain ⟨p,ep,mp,rp⟩:=Yt (nb - 1) (by (clear le a2 b1 a1 hy hx eb e ea hl h0 hb1 hk;lia));have cC:b[nb - 1]=p:=Option.some.inj ((getElem?_pos b _ (by (clear rp ep le a2 b1 a1 hy hx eb e ea hl h0 hb1 hk;lia))).symm.trans ep);refine wpS_bind (bR ep (wpS_bind (iQ C (wZ.k.trans hk) mp ha (by (clear cC rp ep le b2 b1 a1 hy hx eb e ea hl h0 hb1 hk;lia)) (by (clear cC rp ep le b2 a2 b1 hy hx eb e ea hl h0 hb1 hk;lia)) (fun i j h1 h2 h3=>sa i j (by (clear h3 h2 h1 cC rp ep le b2 a2 b1 a1 hy hx eb e ea hl h0 hb1 hk;lia)) h2 (by (clear h2 h1 cC rp ep le b2 b1 a1 hy hx eb e ea hl h0 hb1 hk;lia))) fun k k1 k2 k3=> ?_)));dsimp only;simp only [Nat.zero_add] at k2 k3
     have mA:=m.uE k1 fun i i1 i2 i3 j j1 j2=>by
      have e1:=Qn (k3 i i1 i2);have e2:=sb j (nb - 1) (by (clear e1 j2 j1 i3 i2 i1 k1 cC rp ep le b2 a2 b1 a1 hy hx eb e ea hl h0 hb1 hk;lia)) (by (clear e1 j2 i3 i2 i1 k1 cC rp ep le b2 a2 b1 a1 hy hx eb e ea hl h0 hb1 hk;lia)) (by (clear e1 j2 j1 i3 i2 i1 k1 cC rp ep le a2 b1 a1 hy hx eb e ea hl h0 hb1 hk;lia))
      (clear j2 j1 i3 i2 i1 k1 cC ep le b2 a2 b1 a1 hy hx eb e ea hl h0 hb1 hk;lia)
     have nxt:∀j,j<k->j<a.size->R rk a j<=R rk b (nb - 1):=fun j j1 j2=>by
      have:=Tv (k2 j j1)
      (clear j2 j1 k1 cC ep le b2 a2 b1 a1 hy hx eb e ea hl h0 hb1 hk;lia)
     apply aP
     case' h1=>
      intro kpos;refine aP (fun e=> ?_) (fun e=> ?_)
      ·exact wpS_pure ⟨wZ,.inl ⟨_,_,rfl,mA.done (.inl (by simpa using e))⟩⟩
      have e1:¬k=0:=fun z=>e (beq_iff_eq.mpr z);have a3:1<=k:=by (clear e kpos k1 cC rp ep le b2 a2 b1 a1 hy hx eb ea hl h0 hb1 hk;lia)
      have a4:k<=a.size:=by (clear a3 e1 e kpos cC rp ep le b2 b1 a1 hy hx eb ea hl h0 hb1 hk;lia)
      have gH:k+nb+x+1+y<=a.size+b.size:=by (clear a4 a3 e1 e kpos cC rp ep b2 a2 b1 a1 hy hx eb ea hl h0 hb1 hk;lia)
     case' h2=>
      intro kpos;have k0:k=na:=by (clear cC rp ep le b2 a2 b1 a1 hy hx eb e ea hl h0 hb1 hk;lia)
      have a3:1<=na:=a1;have a4:na<=a.size:=a2;have gH:na+nb+x+1+y<=a.size+b.size:=by (clear a4 a3 k0 kpos k1 cC rp ep b2 a2 b1 a1 hy hx eb e ea hl h0 hb1 hk;lia)
      rw [k0] at nxt
      replace mA:=m
     all_goals
      have mB:=mA.wH (by (clear gH a4 a3 kpos k1 cC rp ep le b2 a2 a1 hy hx eb e ea hl h0 hb1 hk;lia)) b2 nxt;rw [cC] at mB;refine wpS_bind (bR ep ?_);refine aP (fun e=> ?_) (fun e=> ?_)
      ·exact wpS_pure ⟨wZ,.inl ⟨_,_,rfl,mB.first fun i j i1 i2 j1 j2=>mid i j _ i1 (eq_of_beq e) j2⟩⟩
      have e3:¬nb - 1=1:=fun z=>e (beq_iff_eq.mpr z);obtain ⟨q,eq,mq,rq⟩:=Uh _ (Nat.lt_of_lt_of_le (Nat.sub_lt a3 Nat.one_pos) a4);refine wpS_bind (bR eq (wpS_bind (iQ C (wZ.k.trans hk) mq hb (by (clear rq eq e3 e gH a4 a3 kpos k1 cC rp ep le a2 b1 a1 hy hx eb ea hl h0 hb1 hk;lia)) (by (clear rq eq e3 e gH a4 a3 kpos k1 cC rp ep le b2 a2 a1 hy hx eb ea hl h0 hb1 hk;lia)) (fun i j h1 h2 h3=>sb i j (by (clear h3 h2 h1 rq eq e3 e gH a4 a3 kpos k1 cC rp ep le b2 a2 b1 a1 hy hx eb ea hl h0 hb1 hk;lia)) h2 (by (clear h2 h1 rq eq e3 e gH a4 a3 kpos k1 cC rp ep le a2 b1 a1 hy hx eb ea hl h0 hb1 hk;lia))) fun k' l1 l2 l3=> ?_)));dsimp only;simp only [Nat.zero_add] at l2 l3
      have mC:=mB.uD l1 fun i i1 i2 i3 j j1 j2=>by
       have e1:=Et (l3 i i1 i2);have e2:=sa j _ (by (clear e1 j2 j1 i3 i2 i1 l1 rq eq e3 e gH a4 a3 kpos k1 cC rp ep le b2 a2 b1 a1 hy hx eb ea hl h0 hb1 hk;lia)) (Nat.le_sub_one_of_lt j1) (by (clear e1 j2 j1 i3 i2 i1 l1 rq eq e3 e gH a4 a3 kpos cC rp ep le b2 b1 a1 hy hx eb ea hl h0 hb1 hk;lia))
       (clear j2 j1 i3 i2 i1 l1 eq e3 e gH a4 a3 kpos k1 cC rp ep le b2 a2 b1 a1 hy hx eb ea hl h0 hb1 hk;lia)
      have nx:∀j,j<k'->j<b.size->R rk b j<=rk q.1:=fun j j1 j2=>by
       have:=WD (l2 j j1)
       (clear j2 j1 l1 rq eq e3 e gH a4 a3 kpos k1 cC rp ep le b2 a2 b1 a1 hy hx eb ea hl h0 hb1 hk;lia)
      apply aP
      case' h1=>
       intro kpos;refine aP (fun e=> ?_) (fun e=> ?_)
       ·exact wpS_pure ⟨wZ,.inl ⟨_,_,rfl,mC.first fun i j i1 i2 j1 j2=>mid i j _ i1 (eq_of_beq e) j2⟩⟩
       have e4:¬k'=1:=fun z=>e (beq_iff_eq.mpr z);refine aP (fun e=> ?_) (fun e=> ?_)
       ·exact wpS_pure ⟨wZ,.inl ⟨_,_,rfl,mC.done (.inr (by simpa using e))⟩⟩
       have e5:¬k'=0:=fun z=>e (beq_iff_eq.mpr z);have b3:2<=k':=by (clear e kpos l1 rq eq e3 gH a4 a3 k1 cC rp ep le b2 a2 b1 a1 hy hx eb ea hl h0 hb1 hk;lia)
      case' h2=>
       intro kpos;have k0:k'=nb - 1:=by (clear rq eq e3 e gH a4 a3 k1 cC rp ep le b2 a2 b1 a1 hy hx eb ea hl h0 hb1 hk;lia)
       rw [k0] at nx;have b3:2<=nb - 1:=by (clear k0 kpos l1 rq eq e gH a4 a3 k1 cC rp ep le b2 a2 a1 hy hx eb ea hl h0 hb1 hk;lia)
       replace mC:=mB
      all_goals
       have mD:=mC.wI a3 a4 (fun j j1 j2=>by rw [rq];exact nx j j1 j2);have gR:=Option.some.inj ((getElem?_pos a _ (by (clear b3 kpos l1 rq eq e3 e gH k1 cC rp ep le b2 a2 b1 a1 hy hx eb ea hl h0 hb1 hk;lia))).symm.trans eq);rw [gR] at mD;refine wpS_bind (bR eq ?_);refine aP (fun e=> ?_) (fun e=> ?_)
       ·exact wpS_pure ⟨wZ,.inl ⟨_,_,rfl,mD.done (.inl (eq_of_beq e))⟩⟩
       have e6:¬_=0:=fun z=>e (beq_iff_eq.mpr z);refine aP (fun _=> ?_) (fun _=> ?_)
       ·exact wpS_pure ⟨wZ,.inr ⟨_,_,_,_,_,_,rfl,mD,by (clear e gR b3 kpos l1 rq eq e3 gH a4 a3 k1 cC rp ep le b2 a2 b1 a1 hy hx eb ea hl h0 hb1 hk;lia),by (clear e6 e gR b3 kpos l1 rq eq gH a4 a3 k1 cC rp ep le b2 a2 a1 hy hx eb ea hl h0 hb1 hk;lia),by (clear e6 e gR b3 kpos l1 rq eq e3 gH a4 a3 k1 cC rp ep le b2 b1 a1 hy hx eb ea hl h0 hb1 hk;lia),by (clear e6 e gR b3 kpos rq eq e3 gH a4 a3 k1 cC rp ep le a2 b1 a1 hy hx eb ea hl h0 hb1 hk;lia),by (clear e6 e gR b3 kpos rq eq e3 gH a4 a3 k1 cC rp ep b2 a2 b1 a1 hy hx eb ea hl h0 hb1 hk;lia)⟩⟩
       ·exact wpS_pure ⟨wZ,_,_,_,_,_,_,rfl,mD,by (clear e gR b3 kpos l1 rq eq e3 gH a4 a3 k1 cC rp ep le b2 a2 b1 a1 hy hx eb ea hl h0 hb1 hk;lia),by (clear e6 e gR b3 kpos l1 rq eq gH a4 a3 k1 cC rp ep le b2 a2 a1 hy hx eb ea hl h0 hb1 hk;lia),by (clear e6 e gR b3 kpos l1 rq eq e3 gH a4 a3 k1 cC rp ep le b2 b1 a1 hy hx eb ea hl h0 hb1 hk;lia),by (clear e6 e gR b3 kpos rq eq e3 gH a4 a3 k1 cC rp ep le a2 b1 a1 hy hx eb ea hl h0 hb1 hk;lia),by (clear e6 e gR b3 kpos rq eq e3 gH a4 a3 k1 cC rp ep b2 a2 b1 hy hx eb ea hl h0 hb1 hk;lia)⟩
end
end Tim
set_option Elab.async false
set_option linter.all false
set_option maxRecDepth 100000
set_option maxHeartbeats 4000000
namespace Tim
open PySem PyProof.Rows
section
variable {prog:Program} {w:World} {A:Around} {E:Value->Shared->Prop} {s:Shared} {κ:SortKind} {a₀:Array Keyed} {rk:Value->Nat} {pd:Array (Nat×Nat×Nat)}
structure SB (κ:SortKind) (a₀:Array Keyed) (pd:Array (Nat×Nat×Nat)) (st:SortSt):Prop where
 perm:(arrOf st).Perm a₀
 kind:kindOf st=κ
 failed:failedOf st=none
 pend:pendingOf st=pd
theorem SB.size {st:SortSt} (h:SB κ a₀ pd st):(arrOf st).size=a₀.size:=h.perm.size_eq
theorem SB.setArr {st:SortSt} (h:SB κ a₀ pd st) {xs:Array Keyed} (hp:xs.Perm (arrOf st)):SB κ a₀ pd (setArr st xs):=⟨hp.trans h.perm,h.kind,h.failed,h.pend⟩
theorem SB.mem {st:SortSt} (h:SB κ a₀ pd st) {p:Keyed} (hp:p∈(arrOf st).toList):p∈a₀.toList:=(Array.perm_iff_toList_perm.mp h.perm).mem_iff.mp hp
theorem jL {st:SortSt} {i j:Nat} {Q:Option Bool->SortSt->Prop} (C:HJ prog w A s κ a₀ rk) (hB:SB κ a₀ pd st) (hi:i<a₀.size) (hj:j<a₀.size) (h:Q (some (decide (R rk (arrOf st) i<R rk (arrOf st) j))) st):
 wpS (model prog w) A E s (ltAt' i j) Q st:=by
 rw [ltAt'_eq];refine wpS_bind (wpS_get ?_);have hi':i<(arrOf st).size:=by rw [hB.size];exact hi
 have hj':j<(arrOf st).size:=by rw [hB.size];exact hj
 rw [iG hi',iG hj'] at h;exact wpS_bind (bR (getElem?_pos (arrOf st) i hi') (wpS_bind (bR (getElem?_pos (arrOf st) j hj') (vY C hB.kind (hB.mem (by simp)) (hB.mem (by simp)) h))))
def Kb (lo:Nat) (st st':SortSt):Prop:=∀i,i<lo->(arrOf st')[i]? = (arrOf st)[i]?
theorem Kb.refl {lo:Nat} {st:SortSt}:Kb lo st st:=fun _ _=>rfl
theorem Kb.trans {lo:Nat} {a b c:SortSt} (h:Kb lo a b) (g:Kb lo b c):Kb lo a c:=fun i hi=>(g i hi).trans (h i hi)
theorem yu {xs:Array Keyed} {i j:Nat} (hj:j<=xs.size) (k:Nat):R rk (mirror xs i j ((j - i) / 2)) k=if i<=k/\k<j then R rk xs (i+j - 1 - k) else R rk xs k:=by
 have e:=getElem?_mirror_all (i:=i) hj k
 by_cases h1:i<=k/\k<j
 ·rw [if_pos h1] at e ⊢;exact fW e
 ·rw [if_neg h1] at e ⊢;exact fW e
theorem oZ {st:SortSt} {lo i j:Nat} (hj:j<=(arrOf st).size) (hi:lo<=i):Kb lo st (setArr st (mirror (arrOf st) i j ((j - i) / 2))):=fun k hk=>by
 show (mirror (arrOf st) i j ((j - i) / 2))[k]? = _;rw [getElem?_mirror_all hj,if_neg (by (clear hj;lia))]
theorem jm {xs:Array Keyed} {i j:Nat} (hj:j<=xs.size) (heq:∀k,i<=k->k<j->R rk xs k=R rk xs (j - 1)) (k:Nat):R rk (mirror xs i j ((j - i) / 2)) k=R rk xs k:=by
 rw [yu hj];split
 ·rw [heq _ (by (clear hj;lia)) (by (clear hj;lia)),heq k (by (clear hj;lia)) (by (clear hj;lia))]
 ·rfl
theorem Eo {xs:Array Keyed} {src d:Nat} (hs:src<xs.size) (hd:d<=src) (k:Nat):
 R rk (bubble xs src d) k=if k=src - d then R rk xs src else if src - d<k/\k<=src then R rk xs (k - 1) else R rk xs k:=by
 have e:=getElem?_bubble hs d hd k
 by_cases h1:k=src - d
 ·rw [if_pos h1] at e ⊢;exact fW e
 ·rw [if_neg h1] at e ⊢
  by_cases h2:src - d<k/\k<=src
  ·rw [if_pos h2] at e ⊢;exact fW e
  ·rw [if_neg h2] at e ⊢;exact fW e
def Xc (rk:Value->Nat) (xs:Array Keyed) (lo hi:Nat):Prop:=∀i j,lo<=i->i<=j->j<hi->R rk xs j<=R rk xs i
theorem wpS_countRun {st:SortSt} {lo nrem:Nat} {Q:Option Nat->SortSt->Prop} (C:HJ prog w A s κ a₀ rk) (hn:lo+nrem<=a₀.size) (h1:1<=nrem) (hB:SB κ a₀ pd st)
 (h:∀m st',SB κ a₀ pd st'->Kb lo st st'->1<=m->m<=nrem->Seg rk (arrOf st') lo (lo+m)->Q (some m) st'):wpS (model prog w) A E s (countRun' lo nrem) Q st:=by
 rw [countRun'_eq]
 refine wpS_bind (wpS_mono (wpS_forRange (I:=fun x c st'=>st'=st/\c=(none,x)/\Seg rk (arrOf st) lo (lo+x))
  (Q:=fun c st'=>st'=st /\ ∃n,c=(none,n)/\1<=n/\n<=nrem/\Seg rk (arrOf st) lo (lo+n)/\(n=nrem\/R rk (arrOf st) (lo+n)<R rk (arrOf st) (lo+n - 1))) ?step ?fin ⟨rfl,rfl,fun i j a b c=>by rw [show i=j by (clear h1 hn;lia)];exact Nat.le_refl _⟩) ?post)
 case fin=>
  rintro c st' ⟨rfl,rfl,hs⟩;rw [show max 1 nrem=nrem by (clear hn;lia)] at hs ⊢;exact ⟨rfl,nrem,rfl,h1,Nat.le_refl _,hs,.inl rfl⟩
 case step=>
  rintro x c st' x1 xn ⟨rfl,rfl,hs⟩;dsimp only;refine wpS_bind (jL C hB (by (clear x1 h1;lia)) (by (clear x1 h1;lia)) ?_);dsimp only;refine aP (fun lt=> ?_) (fun lt=> ?_)
  ·exact wpS_pure ⟨rfl,x,rfl,x1,by (clear lt x1 h1 hn;lia),hs,.inr (of_decide_eq_true lt)⟩
  ·have lt:R rk (arrOf st') (lo+x - 1)<=R rk (arrOf st') (lo+x):=Nat.le_of_not_lt fun z=>lt (decide_eq_true z)
   refine wpS_pure ⟨rfl,rfl,fun i j a b c=> ?_⟩
   by_cases hj:j<lo+x
   ·exact hs i j a b hj
   ·have:j=lo+x:=by (clear b a lt xn x1 h1 hn;lia)
    subst this
    by_cases hi:i=lo+x
    ·rw [hi];exact Nat.le_refl _
    ·exact Nat.le_trans (hs i (lo+x - 1) a (by (clear hj c a lt xn x1 h1 hn;lia)) (by (clear hi hj c b a lt xn h1 hn;lia))) lt
 case post=>
  rintro c st' ⟨rfl,n,rfl,n1,nn,hs,hor⟩;dsimp only;have hsz:(arrOf st').size=a₀.size:=hB.size;refine aP (fun e=> ?_) (fun e=> ?_)
  ·exact wpS_pure (h n _ hB Kb.refl n1 nn hs)
  have e:¬n=nrem:=fun z=>e (beq_iff_eq.mpr z);have lt:=hor.resolve_left e;have n2:n+1<=nrem:=by (clear lt hsz hor n1 h1 hn;lia)
  apply aP
  case' h1=>
   intro gt;refine wpS_bind (jL C hB (by (clear gt n2 lt e hsz hor nn n1;lia)) (by (clear gt n2 lt e hsz hor n1;lia)) ?_);dsimp only;refine aP (fun rose=> ?_) (fun rose=> ?_)
   ·exact wpS_pure (h n _ hB Kb.refl n1 nn hs)
   have rose:R rk (arrOf st') (lo+n - 1)<=R rk (arrOf st') lo:=Nat.le_of_not_lt fun z=>rose (decide_eq_true z)
   have all:∀k,lo<=k->k<lo+n->R rk (arrOf st') k=R rk (arrOf st') (lo+n - 1):=fun k k1 k2=>by
    have a1:=hs lo k (Nat.le_refl _) k1 k2;have a2:=hs k (lo+n - 1) k1 (by (clear a1 k1 rose gt n2 lt e hsz hor nn n1 h1 hn;lia)) (by (clear a1 k2 k1 rose gt n2 lt e hsz hor nn h1 hn;lia))
    (clear k2 k1 gt n2 lt e hsz hor nn n1 h1 hn;lia)
   rw [reverseSlice'_eq];refine wpS_bind (wpS_modify ?_);have lG:SB κ a₀ pd (setArr st' (mirror (arrOf st') lo (lo+n) ((lo+n - lo) / 2))):=hB.setArr (mirror_perm _ _ _ _);have k1:Kb lo st' (setArr st' (mirror (arrOf st') lo (lo+n) ((lo+n - lo) / 2))):=oZ (by (clear rose gt n2 lt e hor n1 h1;lia)) (Nat.le_refl _)
   have dw:Xc rk (arrOf (setArr st' (mirror (arrOf st') lo (lo+n) ((lo+n - lo) / 2)))) lo (lo+n+1):=fun i j a b c=>by
    show R rk (mirror _ _ _ _) j<=R rk (mirror _ _ _ _) i;rw [jm (by (clear c b a rose gt n2 lt e hor n1 h1;lia)) all,jm (by (clear c b a rose gt n2 lt e hor n1 h1;lia)) all]
    by_cases hj:j<lo+n
    ·rw [all i a (by (clear c a rose gt n2 lt e hsz hor nn n1 h1 hn;lia)),all j (by (clear hj c rose gt n2 lt e hsz hor nn n1 h1 hn;lia)) hj];exact Nat.le_refl _
    ·have:j=lo+n:=by (clear b a rose gt n2 lt e hsz hor nn n1 h1 hn;lia)
     subst this
     by_cases hi:i=lo+n
     ·rw [hi];exact Nat.le_refl _
     ·rw [all i a (by (clear hj c a rose gt n2 lt e hsz hor nn n1 h1 hn;lia))];(clear hi hj c b a rose gt n2 lt hsz nn n1 h1 hn;lia)
   generalize setArr st' (mirror (arrOf st') lo (lo+n) ((lo+n - lo) / 2))=st1 at lG k1 dw ⊢
  case' h2=>
   intro gt;have lG:=hB;have k1:Kb lo st' st':=Kb.refl
   have dw:Xc rk (arrOf st') lo (lo+n+1):=fun i j a b c=>by
    have e1:n=1:=by (clear c b a n2 lt e hsz hor nn h1 hn;lia)
    subst e1
    by_cases hi:i=j
    ·rw [hi];exact Nat.le_refl _
    ·have:i=lo+1 - 1:=by (clear gt n2 lt e hor nn n1 hsz h1 hn;lia)
     have:j=lo+1:=by (clear this gt n2 lt e hor nn n1 hsz h1 hn;lia)
     subst_vars
     (clear hi b c a gt n2 lt nn n1 hsz h1 hn;lia)
   revert lG k1 dw;generalize hst:st'=st1;intro lG k1 dw
  all_goals
   refine wpS_bind (wpS_lift (wpAny_rule ⟨rfl, ?_⟩))
   refine wpS_bind (wpS_mono (wpS_forRange (I:=fun x c st2=>∃neq,c=(none,x,neq)/\SB κ a₀ pd st2/\Kb lo st1 st2/\Xc rk (arrOf st2) lo (lo+x)/\neq+1<=x/\(∀i,lo+x - (neq+1)<=i->i<lo+x->R rk (arrOf st2) i=R rk (arrOf st2) (lo+x - 1)))
    (Q:=fun c st2=>∃x neq,c=(none,x,neq)/\n+1<=x/\x<=nrem/\SB κ a₀ pd st2/\Kb lo st1 st2/\Xc rk (arrOf st2) lo (lo+x)/\neq+1<=x/\(∀i,lo+x - (neq+1)<=i->i<lo+x->R rk (arrOf st2) i=R rk (arrOf st2) (lo+x - 1))) ?_ ?_ ⟨0,rfl,lG,Kb.refl,dw,by (clear gt n2 lt e hsz hor nn n1 h1 hn;lia),fun i a b=>by congr 1;(clear gt n2 lt e hsz hor nn n1 h1 hn;lia)⟩) ?_)
   ·rintro x c st2 x1 xn ⟨neq,rfl,hB2,k2,d2,q2,e2⟩
    dsimp only;have lE:(arrOf st2).size=a₀.size:=hB2.size;refine wpS_bind (jL C hB2 (by (clear lE q2 x1 gt n2 lt e hsz hor nn n1 h1;lia)) (by (clear lE q2 x1 gt n2 lt e hsz hor nn n1 h1;lia)) ?_);dsimp only;refine aP (fun lt=> ?_) (fun lt=> ?_)
    ·have lt:R rk (arrOf st2) (lo+x)<R rk (arrOf st2) (lo+x - 1):=of_decide_eq_true lt
     have step1:∀xs:Array Keyed,(∀k,R rk xs k=R rk (arrOf st2) k)->Xc rk xs lo (lo+(x+1)):=by
      intro xs hk i j a b c;rw [hk,hk]
      by_cases hj:j<lo+x
      ·exact d2 i j a b hj
      ·have:j=lo+x:=by (clear b a lt lE q2 xn x1 gt n2 e hsz hor nn n1 h1 hn;lia)
       subst this
       by_cases hi:i=lo+x
       ·rw [hi];exact Nat.le_refl _
       ·exact Nat.le_trans (Nat.le_of_lt lt) (d2 i (lo+x - 1) a (by (clear hj c a lt lE q2 xn x1 gt n2 e hsz hor nn n1 h1 hn;lia)) (by (clear hi hj c b a lt lE q2 xn gt n2 e hsz hor nn n1 h1 hn;lia)))
     refine aP (fun _=> ?_) (fun _=> ?_)
     ·rw [reverseSlice'_eq]
      refine wpS_bind (wpS_modify (wpS_pure ⟨0,rfl,hB2.setArr (mirror_perm _ _ _ _),k2.trans (oZ (by (clear lt q2 x1 gt n2 e hsz hor nn n1 h1;lia)) (by (clear lt lE xn x1 gt n2 e hsz hor nn n1 h1 hn;lia))),step1 _ (jm (by (clear lt q2 x1 gt n2 e hsz hor nn n1 h1;lia)) e2),by (clear lt lE q2 xn x1 gt n2 e hsz hor nn n1 h1 hn;lia),fun i a b=>by congr 1;(clear lt lE q2 xn x1 gt n2 e hsz hor nn n1 h1 hn;lia)⟩))
     ·exact wpS_pure ⟨0,rfl,hB2,k2,step1 _ (fun _=>rfl),by (clear lt lE q2 xn x1 gt n2 e hsz hor nn n1 h1 hn;lia),fun i a b=>by congr 1;(clear lt lE q2 xn x1 gt n2 e hsz hor nn n1 h1 hn;lia)⟩
    ·have ge:R rk (arrOf st2) (lo+x - 1)<=R rk (arrOf st2) (lo+x):=Nat.le_of_not_lt fun z=>lt (decide_eq_true z)
     refine wpS_bind (jL C hB2 (by (clear ge lt lE q2 x1 gt n2 e hsz hor nn n1 h1;lia)) (by (clear ge lt lE q2 x1 gt n2 e hsz hor nn n1 h1;lia)) ?_);dsimp only;refine aP (fun lg=> ?_) (fun lg=> ?_)
     ·exact wpS_pure ⟨x,neq,rfl,x1,by (clear lg ge lt lE q2 x1 gt n2 e hsz hor nn n1 h1 hn;lia),hB2,k2,d2,q2,e2⟩
     ·have le:R rk (arrOf st2) (lo+x)<=R rk (arrOf st2) (lo+x - 1):=Nat.le_of_not_lt fun z=>lg (decide_eq_true z)
      have Sv:R rk (arrOf st2) (lo+x)=R rk (arrOf st2) (lo+x - 1):=by (clear lg lt lE q2 xn x1 gt n2 e hsz hor nn n1 h1 hn;lia)
      refine wpS_pure ⟨neq+1,rfl,hB2,k2,fun i j a b c=> ?_,by (clear Sv le lg ge lt lE xn x1 gt n2 e hsz hor nn n1 h1 hn;lia),fun i a b=> ?_⟩
      ·by_cases hj:j<lo+x
       ·exact d2 i j a b hj
       ·have:j=lo+x:=by (clear b a Sv le lg ge lt lE q2 xn x1 gt n2 e hsz hor nn n1 h1 hn;lia)
        subst this
        by_cases hi:i=lo+x
        ·rw [hi];exact Nat.le_refl _
        ·rw [Sv];exact d2 i (lo+x - 1) a (by (clear hj c a Sv le lg ge lt lE q2 xn x1 gt n2 e hsz hor nn n1 h1 hn;lia)) (by (clear hi hj c b a Sv le lg ge lt lE q2 xn gt n2 e hsz hor nn n1 h1 hn;lia))
      ·rw [show lo+(x+1) - 1=lo+x by (clear b a Sv le lg ge lt lE q2 xn x1 gt n2 e hsz hor nn n1 h1 hn;lia)]
       by_cases hi:i=lo+x
       ·rw [hi]
       ·rw [Sv];exact e2 i (by (clear hi b Sv le lg ge lt lE q2 xn x1 gt n2 e hsz hor nn n1 h1 hn;lia)) (by (clear a Sv le lg ge lt lE q2 xn x1 gt n2 e hsz hor nn n1 h1 hn;lia))
   ·rintro c st2 ⟨neq,rfl,hB2,k2,d2,q2,e2⟩
    rw [show max (n+1) nrem=nrem by (clear q2 gt n2 lt hsz hor n1 h1 hn;lia)] at d2 q2 e2 ⊢;exact ⟨nrem,neq,rfl,n2,Nat.le_refl _,hB2,k2,d2,q2,e2⟩
   ·rintro c st2 ⟨x,neq,rfl,x1,xn,hB2,k2,d2,q2,e2⟩
    dsimp only;have lE:(arrOf st2).size=a₀.size:=hB2.size;apply aP
    case' h1=>
     intro _;rw [reverseSlice'_eq];refine wpS_bind (wpS_modify ?_);have hB3:SB κ a₀ pd (setArr st2 (mirror (arrOf st2) (lo+x - (neq+1)) (lo+x) ((lo+x - (lo+x - (neq+1))) / 2))):=hB2.setArr (mirror_perm _ _ _ _);have k3:=k2.trans (oZ (st:=st2) (lo:=lo) (i:=lo+x - (neq+1)) (j:=lo+x) (by (clear q2 x1 gt n2 lt e hsz hor nn n1 h1;lia)) (by (clear lE xn x1 gt n2 lt e hsz hor nn n1 h1 hn;lia)))
     have d3:Xc rk (arrOf (setArr st2 (mirror (arrOf st2) (lo+x - (neq+1)) (lo+x) ((lo+x - (lo+x - (neq+1))) / 2)))) lo (lo+x):=fun i j a b c=>by
      show R rk (mirror _ _ _ _) j<=R rk (mirror _ _ _ _) i;rw [jm (by (clear c b a q2 x1 gt n2 lt e hsz hor nn n1 h1;lia)) e2,jm (by (clear c b a q2 x1 gt n2 lt e hsz hor nn n1 h1;lia)) e2];exact d2 i j a b c
     generalize setArr st2 (mirror (arrOf st2) (lo+x - (neq+1)) (lo+x) ((lo+x - (lo+x - (neq+1))) / 2))=st3 at hB3 k3 d3 ⊢
    case' h2=>
     intro _;have hB3:=hB2;have k3:=k2;have d3:=d2;revert hB3 k3 d3;generalize st2=st3;intro hB3 k3 d3
    all_goals
     have Ia:(arrOf st3).size=a₀.size:=hB3.size;rw [reverseSlice'_eq];refine wpS_bind (wpS_modify ?_);have uw:SB κ a₀ pd (setArr st3 (mirror (arrOf st3) lo (lo+x) ((lo+x - lo) / 2))):=hB3.setArr (mirror_perm _ _ _ _);have k4:=k3.trans (oZ (st:=st3) (lo:=lo) (i:=lo) (j:=lo+x) (by (clear lE q2 x1 gt n2 lt e hsz hor nn n1 h1;lia)) (by (clear Ia lE q2 xn x1 gt n2 lt e hsz hor nn n1 h1 hn;lia)))
     have s4:Seg rk (arrOf (setArr st3 (mirror (arrOf st3) lo (lo+x) ((lo+x - lo) / 2)))) lo (lo+x):=fun i j a b c=>by
      show R rk (mirror _ _ _ _) i<=R rk (mirror _ _ _ _) j;rw [yu (by (clear c b a lE q2 x1 gt n2 lt e hsz hor nn n1 h1;lia)),yu (by (clear c b a lE q2 x1 gt n2 lt e hsz hor nn n1 h1;lia)),if_pos (by (clear Ia lE q2 xn x1 gt n2 lt e hsz hor nn n1 h1 hn;lia)),if_pos (by (clear Ia lE q2 xn x1 gt n2 lt e hsz hor nn n1 h1 hn;lia))];exact d3 _ _ (by (clear b a Ia lE q2 xn x1 gt n2 lt e hsz hor nn n1 h1 hn;lia)) (by (clear c a Ia lE q2 xn x1 gt n2 lt e hsz hor nn n1 h1 hn;lia)) (by (clear c b Ia lE q2 xn gt n2 lt e hsz hor nn n1 h1 hn;lia))
     generalize setArr st3 (mirror (arrOf st3) lo (lo+x) ((lo+x - lo) / 2))=nA at uw k4 s4 ⊢
     refine wpS_bind (wpS_mono (wpS_forRange (I:=fun y c yE=>yE=nA/\c=(none,y)/\Seg rk (arrOf nA) lo (lo+y))
      (Q:=fun c yE=>yE=nA /\ ∃y,c=(none,y)/\x<=y/\y<=nrem/\Seg rk (arrOf nA) lo (lo+y)) ?_ ?_ ⟨rfl,rfl,s4⟩) ?_)
     ·rintro y c yE y1 yn ⟨rfl,rfl,Uk⟩
      dsimp only;refine wpS_bind (jL C uw (by (clear y1 Ia lE q2 xn x1 gt n2 lt e hsz hor nn n1 h1;lia)) (by (clear y1 Ia lE q2 xn x1 gt n2 lt e hsz hor nn n1 h1;lia)) ?_);dsimp only;refine aP (fun lt=> ?_) (fun lt=> ?_)
      ·exact wpS_pure ⟨rfl,y,rfl,y1,by (clear lt y1 Ia lE q2 xn x1 gt n2 e hsz hor nn n1 h1 hn;lia),Uk⟩
      ·have lt:R rk (arrOf yE) (lo+y - 1)<=R rk (arrOf yE) (lo+y):=Nat.le_of_not_lt fun z=>lt (decide_eq_true z)
       refine wpS_pure ⟨rfl,rfl,fun i j a b c=> ?_⟩
       by_cases hj:j<lo+y
       ·exact Uk i j a b hj
       ·have:j=lo+y:=by (clear b a lt yn y1 Ia lE q2 xn x1 gt n2 e hsz hor nn n1 h1 hn;lia)
        subst this
        by_cases hi:i=lo+y
        ·rw [hi];exact Nat.le_refl _
        ·exact Nat.le_trans (Uk i (lo+y - 1) a (by (clear hj c a lt yn y1 Ia lE q2 xn x1 gt n2 e hsz hor nn n1 h1 hn;lia)) (by (clear hi hj c b a lt yn Ia lE q2 xn gt n2 e hsz hor nn n1 h1 hn;lia))) lt
     ·rintro c yE ⟨rfl,rfl,Uk⟩
      rw [show max x nrem=nrem by (clear Ia lE q2 x1 gt n2 lt e hsz hor nn n1 h1 hn;lia)] at Uk ⊢;exact ⟨rfl,nrem,rfl,xn,Nat.le_refl _,Uk⟩
     ·rintro c yE ⟨rfl,y,rfl,y1,yn,Uk⟩
      exact wpS_pure (h y _ uw (by first |exact k1.trans k4|(subst hst;exact k4)) (by (clear yn Ia lE q2 xn gt n2 lt e hsz hor nn n1 h1 hn;lia)) yn Uk)
theorem wpS_binarySort {st:SortSt} {lo n ok:Nat} {Q:Bool->SortSt->Prop} (C:HJ prog w A s κ a₀ rk) (hn:lo+n<=a₀.size) (hok:ok<=n) (hB:SB κ a₀ pd st) (hs:Seg rk (arrOf st) lo (lo+ok))
 (h:∀st',SB κ a₀ pd st'->Kb lo st st'->Seg rk (arrOf st') lo (lo+n)->Q true st'):wpS (model prog w) A E s (binarySort' lo n ok) Q st:=by
 rw [binarySort'_eq]
 refine wpS_bind (wpS_mono (wpS_forRange (I:=fun k c st'=>c=(none,())/\SB κ a₀ pd st'/\Kb lo st st'/\Seg rk (arrOf st') lo (lo+min k n))
  (Q:=fun c st'=>c=(none,())/\SB κ a₀ pd st'/\Kb lo st st'/\Seg rk (arrOf st') lo (lo+n)) ?step ?fin ?init) ?post)
 case post=>
  rintro c st' ⟨rfl,hB',k',hs'⟩;exact wpS_pure (h st' hB' k' hs')
 case init=>
  refine ⟨rfl,hB,Kb.refl,fun i j a b c=> ?_⟩
  by_cases h1:ok=0
  ·rw [show i=j by (clear hok hn;lia)];exact Nat.le_refl _
  ·exact hs i j a b (by (clear b a hok hn;lia))
 case fin=>
  rintro c st' ⟨hc,hB',k',hs'⟩;refine ⟨hc,hB',k', ?_⟩;rwa [show min (max (max ok 1) n) n=n by (clear hc hok hn;lia)] at hs'
 case step=>
  rintro k c st' hak hkn ⟨rfl,hB',k',hs'⟩;rw [show min k n=k by (clear hak hok hn;lia)] at hs';have sz:(arrOf st').size=a₀.size:=hB'.size
  refine wpS_bind (wpS_mono (wpS_forRange (I:=fun x c st''=>st''=st' /\ ∃l r,c=(none,l,r)/\l<=r/\r<=k/\r - l<=k - x /\
   (∀i,i<l->R rk (arrOf st') (lo+i)<=R rk (arrOf st') (lo+k))/\(∀i,r<=i->i<k->R rk (arrOf st') (lo+k)<R rk (arrOf st') (lo+i)))
   (Q:=fun c st''=>st''=st' /\ ∃l r,c=(none,l,r)/\l<=k /\
     (∀i,i<l->R rk (arrOf st') (lo+i)<=R rk (arrOf st') (lo+k))/\(∀i,l<=i->i<k->R rk (arrOf st') (lo+k)<R rk (arrOf st') (lo+i))) ?istep ?ifin ?iinit) ?ipost)
  case iinit=>exact ⟨rfl,0,k,rfl,by (clear sz hkn hak hok hn;lia),by (clear sz hkn hak hok hn;lia),by (clear sz hkn hak hok hn;lia),fun i hi=>by (clear sz hkn hak hok hn;lia),fun i h1 h2=>by (clear sz hkn hak hok hn;lia)⟩
  case ifin=>
   rintro c st'' ⟨rfl,l,r,rfl,hlr,hrk,hm,hlo,hhi⟩;have:l=r:=by (clear hrk sz hkn hak hok hn;lia)
   subst this;exact ⟨rfl,l,l,rfl,hrk,hlo,hhi⟩
  case istep=>
   rintro x c st'' _ hxk ⟨rfl,l,r,rfl,hlr,hrk,hm,hlo,hhi⟩;dsimp only;refine aP (fun hge=> ?_) (fun hge=> ?_)
   ·have:l=r:=by (clear hm hrk sz hxk hkn hak hok hn;lia)
    subst this;exact wpS_pure ⟨rfl,l,l,rfl,hrk,hlo,hhi⟩
   ·refine wpS_bind (jL C hB' (by (clear hge hm hrk hlr sz hxk hak hok;lia)) (by (clear hge hm sz hxk hak hok;lia)) ?_)
    dsimp only;refine aP (fun lt=> ?_) (fun lt=> ?_)
    ·have lt:=of_decide_eq_true lt
     refine wpS_pure ⟨rfl,l,(l+r) / 2,rfl,by (clear lt hge hm hrk sz hxk hkn hak hok hn;lia),by (clear lt hge hm sz hxk hkn hak hok hn;lia),by (clear lt hge hrk hlr sz hxk hkn hak hok hn;lia),hlo,fun i h1 h2=> ?_⟩;exact Nat.lt_of_lt_of_le lt (hs' _ _ (by (clear h2 h1 lt hge hm hrk hlr sz hxk hkn hak hok hn;lia)) (by (clear h2 lt hge hm hrk hlr sz hxk hkn hak hok hn;lia)) (by (clear h1 lt hge hm hrk hlr sz hxk hkn hak hok hn;lia)))
    ·have lt:R rk (arrOf st'') (lo+(l+r) / 2)<=R rk (arrOf st'') (lo+k):=Nat.le_of_not_lt fun z=>lt (decide_eq_true z)
     refine wpS_pure ⟨rfl,(l+r) / 2+1,r,rfl,by (clear lt hm hrk hlr sz hxk hkn hak hok hn;lia),by (clear lt hge hm hlr sz hxk hkn hak hok hn;lia),by (clear lt hge hrk hlr sz hxk hkn hak hok hn;lia),fun i h1=> ?_,hhi⟩;exact Nat.le_trans (hs' (lo+i) (lo+(l+r) / 2) (by (clear h1 lt hge hm hrk hlr sz hxk hkn hak hok hn;lia)) (by (clear lt hge hm hrk hlr sz hxk hkn hak hok hn;lia)) (by (clear h1 lt hm hlr sz hxk hkn hak hok hn;lia))) lt
  case ipost=>
   rintro c st'' ⟨rfl,l,r,rfl,hlk,hlo,hhi⟩;show wpS _ _ _ _ (do moveDown' (lo+k) (lo+l);pure (ForInStep.yield (none,()))) _ _;rw [moveDown'_eq];refine wpS_bind (wpS_modify (wpS_pure ⟨rfl,hB'.setArr (bubble_perm _ _ _),k'.trans ?_, ?_⟩))
   ·intro i hi
    show (bubble (arrOf st'') (lo+k) (lo+k - (lo+l)))[i]? = _;rw [getElem?_bubble (by (clear hi hlk hak hok;lia)) _ (by (clear hi hlk sz hkn hak hok hn;lia)),if_neg (by (clear hlk sz hkn hak hok hn;lia)),if_neg (by (clear hlk sz hkn hak hok hn;lia))]
   rw [show min (k+1) n=k+1 by (clear hlk sz hak hok hn;lia)];intro i j a b c;show R rk (bubble (arrOf st'') (lo+k) (lo+k - (lo+l))) i<=R rk (bubble (arrOf st'') (lo+k) (lo+k - (lo+l))) j;rw [Eo (by (clear c b a hlk hak hok;lia)) (by (clear c b a hlk sz hkn hak hok hn;lia)),Eo (by (clear c b a hlk hak hok;lia)) (by (clear c b a hlk sz hkn hak hok hn;lia)),show lo+k - (lo+k - (lo+l))=lo+l by (clear c b a sz hkn hak hok hn;lia)]
   have L1:∀i,lo<=i->i<lo+l->R rk (arrOf st'') i<=R rk (arrOf st'') (lo+k):=fun i i1 i2=>by
    have:=hlo (i - lo) (by (clear c b a hlk sz hkn hak hok hn;lia));rwa [show lo+(i - lo)=i by (clear this i2 c b a hlk sz hkn hak hok hn;lia)] at this
   have L2:∀i,lo+l<=i->i<lo+k->R rk (arrOf st'') (lo+k)<R rk (arrOf st'') i:=fun i i1 i2=>by
    have:=hhi (i - lo) (by (clear i2 c b a hlk sz hkn hak hok hn;lia)) (by (clear i1 c b a hlk sz hkn hok hn;lia));rwa [show lo+(i - lo)=i by (clear this i2 c b a hlk sz hkn hak hok hn;lia)] at this
   repeat' split
   all_goals first
    | (exfalso;(clear a hlk sz hkn hak hok hn;lia))
    | exact Nat.le_refl _
    | exact L1 _ (by (clear c b hlk sz hkn hak hok hn;lia)) (by (clear c a hlk sz hkn hak hok hn;lia))
    | exact Nat.le_of_lt (L2 _ (by (clear c b a hlk sz hkn hak hok hn;lia)) (by (clear c b a hlk sz hkn hak hok hn;lia)))
    | exact hs' _ _ (by (clear c b hlk sz hkn hak hok hn;lia)) (by (clear c a hlk sz hkn hak hok hn;lia)) (by (clear b a sz hkn hak hok hn;lia))
end
end Tim
set_option Elab.async false
set_option linter.all false
set_option maxRecDepth 100000
set_option maxHeartbeats 4000000
namespace Tim
open PySem PyProof.Rows
theorem Dd (i:Nat):mergeAt' i=(do
 let s ←get
 let (some (sa,na,power),some (sb,nb,_)):=((pendingOf s)[i]?,(pendingOf s)[i+1]?)|unsupported "internal:list.sort.pending"
 set (SortSt.mk' (kindOf s) (arrOf s) (((pendingOf s).setIfInBounds i (sa,na+nb,power)).eraseIdxIfInBounds (i+1)) (gallopOf s) (failedOf s))
 let some k ←j_ false (←elem' (arrOf s) sb) (arrOf s) sa na 0|return false
 let (sa,na):=(sa+k,na - k)
 if na==0 then return true
 let some nb ←j_ true (←elem' (arrOf s) (sa+na - 1)) (arrOf s) sb nb (nb - 1)|return false
 if nb==0 then return true
 let x:=(arrOf s).extract sa sb
 let y:=(arrOf s).extract sb (sb+nb)
 let merged ←if na<=nb then wR x y else wU x y
 modify fun s=>setArr s (merged.toList.zipIdx.foldl (fun a (p,j)=>a.setIfInBounds (sa+j) p) (arrOf s))
 return (failedOf (←get)).isNone):=rfl
section
variable {prog:Program} {w:World} {A:Around} {E:Value->Shared->Prop} {s:Shared} {κ:SortKind} {a₀:Array Keyed} {rk:Value->Nat} {pd:Array (Nat×Nat×Nat)}
theorem Im (b:Nat) (m:List Keyed):∀(n:Nat) (xs:Array Keyed) (j:Nat),b+n+m.length<=xs.size->((m.zipIdx n).foldl (fun a x=>a.setIfInBounds (b+x.2) x.1) xs)[j]? = if b+n<=j/\j<b+n+m.length then m[j - (b+n)]? else xs[j]? :=by
 induction m with
 | nil=>intro n xs j h;rw [if_neg (by simp)];rfl
 | cons p m ih=>
   intro n xs j h;rw [List.length_cons] at h;rw [List.zipIdx_cons,List.foldl_cons,ih (n+1) _ j (by rw [Array.size_setIfInBounds];lia)]
   by_cases e:j=b+n
   ·subst e
    rw [if_neg (by (clear h;lia)),if_pos (by rw [List.length_cons];(clear h;lia)),Nat.sub_self];rw [Array.getElem?_setIfInBounds_self_of_lt (by lia)];rfl
   ·by_cases c:b+(n+1)<=j/\j<b+(n+1)+m.length
    ·rw [if_pos c,if_pos (by rw [List.length_cons];(clear e h;lia)),show j - (b+n)=(j - (b+(n+1)))+1 by (clear e h;lia),List.getElem?_cons_succ]
    ·rw [if_neg c,if_neg (by rw [List.length_cons];(clear h;lia)),Array.getElem?_setIfInBounds_ne (Ne.symm e)]
theorem M9 {b n:Nat} {m:List Keyed} {xs:Array Keyed} (hl:m.length=n) (hb:b+n<=xs.size) (hp:m.Perm ((xs.toList.drop b).take n)):((m.zipIdx).foldl (fun a x=>a.setIfInBounds (b+x.2) x.1) xs).Perm xs:=by
 have e:((m.zipIdx).foldl (fun a x=>a.setIfInBounds (b+x.2) x.1) xs).toList=xs.toList.take b++(m++xs.toList.drop (b+n)):=by
  have hx:xs.toList.length=xs.size:=Array.length_toList;apply List.ext_getElem?;intro j;rw [Array.getElem?_toList,Im b m 0 xs j (by (clear hx;lia))]
  by_cases j1:j<b
  ·rw [if_neg (by (clear hx hb hl;lia)),List.getElem?_append_left (by rw [List.length_take,hx];(clear hx hl;lia)),List.getElem?_take_of_lt j1,Array.getElem?_toList]
  ·rw [List.getElem?_append_right (by rw [List.length_take,hx];(clear hx hb hl;lia)),List.length_take,hx,Nat.min_eq_left (by (clear j1 hx hl;lia))]
   by_cases j2:j<b+n
   ·rw [if_pos (by (clear hx hb;lia)),List.getElem?_append_left (by (clear hx hb;lia))];rfl
   ·rw [if_neg (by (clear j1 hx hb;lia)),List.getElem?_append_right (by (clear j1 hx hb;lia)),List.getElem?_drop,Array.getElem?_toList]
    congr 1
    (clear j1 hx hb;lia)
 refine Array.perm_iff_toList_perm.mpr ?_;rw [e]
 have sp:xs.toList=xs.toList.take b++((xs.toList.drop b).take n++xs.toList.drop (b+n)):=by
  rw [←xQ,List.take_append_drop]
 refine List.Perm.trans ?_ (List.Perm.of_eq sp.symm);exact List.Perm.append_left _ (List.Perm.append_right _ hp)
theorem uY {xs:Array Keyed} {lo hi i:Nat} (h:lo+i<hi) (hh:hi<=xs.size):R rk (xs.extract lo hi) i=R rk xs (lo+i):=by
 apply fW;rw [Array.getElem?_extract];rw [if_pos (by lia)]
theorem Qz {σ:Type} {M:Model} {A:Around} {E:Value->Shared->Prop} {s:Shared} {x:σ} {Q:PUnit->σ->Prop} {st:σ} (h:Q ⟨⟩ x):wpS M A E s (set x:StateT σ Sem PUnit) Q st:=by
 unfold wpS;rw [StateT.run_set];exact wpAny_pure ⟨rfl,h⟩
theorem Bv {st:SortSt} {i sa na pw sb nb pw2:Nat} {Q:Bool->SortSt->Prop} (C:HJ prog w A s κ a₀ rk) (hB:SB κ a₀ pd st) (h1:pd[i]? = some (sa,na,pw)) (h2:pd[i+1]? = some (sb,nb,pw2)) (hsb:sb=sa+na) (na1:1<=na) (dH:1<=nb) (hz:sb+nb<=a₀.size)
 (s1:Seg rk (arrOf st) sa (sa+na)) (s2:Seg rk (arrOf st) sb (sb+nb))
 (h:∀st',SB κ a₀ ((pd.setIfInBounds i (sa,na+nb,pw)).eraseIdxIfInBounds (i+1)) st'->(∀j,j<sa\/sb+nb<=j->(arrOf st')[j]? = (arrOf st)[j]?)->Seg rk (arrOf st') sa (sb+nb)->Q true st'):
 wpS (model prog w) A E s (mergeAt' i) Q st:=by
 rw [Dd];refine wpS_bind (wpS_get ?_);rw [hB.pend,h1,h2];dsimp only;have sz:(arrOf st).size=a₀.size:=hB.size;have rY:∀p∈(arrOf st).toList,p∈a₀.toList:=fun p hp=>hB.mem hp;have Uh:∀i,i<a₀.size -> ∃p,(arrOf st)[i]? = some p/\p∈a₀.toList/\R rk (arrOf st) i=rk p.1:=fun i hi=>⟨(arrOf st)[i]'(by (clear hz dH na1 hsb h2 h1;lia)),getElem?_pos (arrOf st) i (by (clear hz dH na1 hsb h2 h1;lia)),hB.mem (by simp),iG (by (clear hz dH na1 hsb h2 h1;lia))⟩;refine wpS_bind (Qz ?_);have lG:SB κ a₀ ((pd.setIfInBounds i (sa,na+nb,pw)).eraseIdxIfInBounds (i+1)) (SortSt.mk' (kindOf st) (arrOf st) ((pd.setIfInBounds i (sa,na+nb,pw)).eraseIdxIfInBounds (i+1)) (gallopOf st) (failedOf st)):=⟨hB.perm,hB.kind,hB.failed,rfl⟩;have cZ:arrOf (SortSt.mk' (kindOf st) (arrOf st) ((pd.setIfInBounds i (sa,na+nb,pw)).eraseIdxIfInBounds (i+1)) (gallopOf st) (failedOf st))=arrOf st:=rfl;generalize (pd.setIfInBounds i (sa,na+nb,pw)).eraseIdxIfInBounds (i+1)=pd1 at lG cZ h ⊢;generalize SortSt.mk' (kindOf st) (arrOf st) pd1 (gallopOf st) (failedOf st)=st1 at lG cZ ⊢;obtain ⟨p,ep,mp,rp⟩:=Uh sb (by (clear cZ sz na1 hsb h2 h1;lia));refine wpS_bind (bR ep (wpS_bind (iQ C lG.kind mp rY (by (clear rp ep cZ dH na1 h2 h1;lia)) (by (clear rp ep cZ sz hz dH hsb h2 h1;lia)) s1 fun k k1 k2 k3=> ?_)));dsimp only;refine aP (fun e=> ?_) (fun e=> ?_)
 ·have e:na - k=0:=eq_of_beq e
  refine wpS_pure (h st1 lG (fun j _=>by rw [cZ]) fun i j a b c=> ?_);rw [cZ]
  by_cases hj:j<sb
  ·exact s1 i j a b (by (clear c b a e k1 rp ep cZ sz hz dH na1 h2 h1;lia))
  ·by_cases hi:i<sb
   ·have e1:=Tv (k2 (i - sa) (by (clear hj c b a k1 rp ep cZ sz hz dH h2 h1;lia)))
    rw [show sa+(i - sa)=i by (clear e1 hi hj c b e k1 rp ep cZ sz hz dH na1 hsb h2 h1;lia)] at e1;have e2:=s2 sb j (Nat.le_refl _) (by (clear e1 hi c b a e k1 rp ep cZ sz hz dH na1 hsb h2 h1;lia)) c
    (clear hi hj c b a e k1 ep cZ sz hz dH na1 hsb h2 h1;lia)
   ·exact s2 i j (by (clear hj c b a e k1 rp ep cZ sz hz dH na1 hsb h2 h1;lia)) b c
 have ek:k<na:=by have:¬na - k=0:=fun z=>e (beq_iff_eq.mpr z);(clear e k1 rp ep cZ sz hz dH na1 hsb h2 h1;lia)
 obtain ⟨q,eq,mq,rq⟩:=Uh (sa+k+(na - k) - 1) (by (clear ek e rp ep cZ sz dH h2 h1;lia));refine wpS_bind (bR eq (wpS_bind (iQ C lG.kind mq rY (by (clear rq eq ek e k1 rp ep cZ dH na1 hsb h2 h1;lia)) (by (clear rq eq ek e k1 rp ep cZ sz hz na1 hsb h2 h1;lia)) s2 fun n2 l1 l2 l3=> ?_)));dsimp only;have aQ:sa+k+(na - k) - 1=sb - 1:=by (clear l1 rq eq ek e rp ep cZ sz hz dH na1 h2 h1;lia)
 rw [aQ] at rq;refine aP (fun e=> ?_) (fun e=> ?_)
 ·have e:n2=0:=eq_of_beq e
  refine wpS_pure (h st1 lG (fun j _=>by rw [cZ]) fun i j a b c=> ?_);rw [cZ]
  by_cases hj:j<sb
  ·exact s1 i j a b (by (clear c b a e aQ l1 rq eq ek k1 rp ep cZ sz hz dH na1 h2 h1;lia))
  ·by_cases hi:i<sb
   ·have e1:=Et (l3 (j - sb) (by (clear hi hj c b a aQ l1 rq eq ek k1 rp ep cZ sz hz dH na1 hsb h2 h1;lia)) (by (clear hi hj b a e aQ l1 rq eq ek k1 rp ep cZ sz hz na1 hsb h2 h1;lia)))
    rw [show sb+(j - sb)=j by (clear e1 hi c b a e aQ l1 rq eq ek k1 rp ep cZ sz hz dH na1 hsb h2 h1;lia)] at e1;have e2:=s1 i (sb - 1) a (by (clear e1 hj c b a e aQ l1 rq eq ek k1 rp ep cZ sz hz dH na1 hsb h2 h1;lia)) (by (clear e1 hi hj c b a e aQ l1 rq eq ek k1 rp ep cZ sz hz dH h2 h1;lia))
    (clear hi hj c b a e aQ l1 eq ek k1 rp ep cZ sz hz dH na1 hsb h2 h1;lia)
   ·exact s2 i j (by (clear hj c b a e aQ l1 rq eq ek k1 rp ep cZ sz hz dH na1 hsb h2 h1;lia)) b c
 have e2:¬n2=0:=fun z=>e (beq_iff_eq.mpr z);have fG:((arrOf st).extract (sa+k) sb).size=sb - (sa+k):=by rw [Array.size_extract,Nat.min_eq_left (by (clear e2 e aQ l1 rq eq ek k1 rp ep cZ dH na1 hsb h2 h1;lia))]
 have fJ:((arrOf st).extract sb (sb+n2)).size=n2:=by rw [Array.size_extract,Nat.min_eq_left (by (clear fG e2 e aQ rq eq ek k1 rp ep cZ dH na1 hsb h2 h1;lia))];(clear fG e2 e aQ l1 rq eq ek k1 rp ep cZ sz hz dH na1 hsb h2 h1;lia)
 have xin:∀p∈((arrOf st).extract (sa+k) sb).toList,p∈a₀.toList:=fun p hp=>rY p (by rw [cQ] at hp;exact List.mem_of_mem_drop (List.mem_of_mem_take hp));have yin:∀p∈((arrOf st).extract sb (sb+n2)).toList,p∈a₀.toList:=fun p hp=>rY p (by rw [cQ] at hp;exact List.mem_of_mem_drop (List.mem_of_mem_take hp))
 have sx:Seg rk ((arrOf st).extract (sa+k) sb) 0 ((arrOf st).extract (sa+k) sb).size:=fun i j a b c=>by
  rw [fG] at c;rw [uY (by (clear a fJ fG e2 e aQ l1 rq eq ek k1 rp ep cZ sz hz dH na1 hsb h2 h1;lia)) (by (clear c b a fJ fG e2 e aQ l1 rq eq ek k1 rp ep cZ dH na1 hsb h2 h1;lia)),uY (by (clear b a fJ fG e2 e aQ l1 rq eq ek k1 rp ep cZ sz hz dH na1 hsb h2 h1;lia)) (by (clear c b a fJ fG e2 e aQ l1 rq eq ek k1 rp ep cZ dH na1 hsb h2 h1;lia))];exact s1 _ _ (by (clear c b a fJ fG e2 e aQ l1 rq eq ek k1 rp ep cZ sz hz dH na1 hsb h2 h1;lia)) (by (clear c a fJ fG e2 e aQ l1 rq eq ek k1 rp ep cZ sz hz dH na1 hsb h2 h1;lia)) (by (clear b a fJ fG e2 e aQ l1 rq eq ek k1 rp ep cZ sz hz dH na1 h2 h1;lia))
 have sy:Seg rk ((arrOf st).extract sb (sb+n2)) 0 ((arrOf st).extract sb (sb+n2)).size:=fun i j a b c=>by
  rw [fJ] at c;rw [uY (by (clear a fJ fG e2 e aQ l1 rq eq ek k1 rp ep cZ sz hz dH na1 hsb h2 h1;lia)) (by (clear c b a fJ fG e2 e aQ rq eq ek k1 rp ep cZ dH na1 hsb h2 h1;lia)),uY (by (clear b a fJ fG e2 e aQ l1 rq eq ek k1 rp ep cZ sz hz dH na1 hsb h2 h1;lia)) (by (clear c b a fJ fG e2 e aQ rq eq ek k1 rp ep cZ dH na1 hsb h2 h1;lia))];exact s2 _ _ (by (clear c b a fJ fG e2 e aQ l1 rq eq ek k1 rp ep cZ sz hz dH na1 hsb h2 h1;lia)) (by (clear c a fJ fG e2 e aQ l1 rq eq ek k1 rp ep cZ sz hz dH na1 hsb h2 h1;lia)) (by (clear b a fJ fG e2 e aQ rq eq ek k1 rp ep cZ sz hz dH na1 hsb h2 h1;lia))
 have h0:R rk ((arrOf st).extract sb (sb+n2)) 0<=R rk ((arrOf st).extract (sa+k) sb) 0:=by
  rw [uY (by (clear fJ fG e aQ l1 rq eq ek k1 rp ep cZ sz hz dH na1 hsb h2 h1;lia)) (by (clear fJ fG e2 e aQ rq eq ek k1 rp ep cZ dH na1 hsb h2 h1;lia)),uY (by (clear fJ fG e2 e aQ l1 rq eq k1 rp ep cZ sz hz dH na1 h2 h1;lia)) (by (clear fJ fG e2 e aQ l1 rq eq ek k1 rp ep cZ dH na1 hsb h2 h1;lia)),Nat.add_zero,Nat.add_zero,rp];have:=Qn (k3 k (Nat.le_refl _) ek)
  (clear fJ fG e2 e aQ l1 rq eq ek k1 rp ep cZ sz hz dH na1 hsb h2 h1;lia)
 have hl:R rk ((arrOf st).extract sb (sb+n2)) (((arrOf st).extract sb (sb+n2)).size - 1)<=R rk ((arrOf st).extract (sa+k) sb) (((arrOf st).extract (sa+k) sb).size - 1):=by
  rw [fG,fJ,uY (by (clear h0 fJ fG e aQ l1 rq eq ek k1 rp ep cZ sz hz dH na1 hsb h2 h1;lia)) (by (clear h0 fJ fG e2 e aQ rq eq ek k1 rp ep cZ dH na1 hsb h2 h1;lia)),uY (by (clear h0 fJ fG e2 e aQ l1 rq eq k1 rp ep cZ sz hz dH na1 h2 h1;lia)) (by (clear h0 fJ fG e2 e aQ l1 rq eq ek k1 rp ep cZ dH na1 hsb h2 h1;lia)),show sa+k+(sb - (sa+k) - 1)=sb - 1 by (clear h0 fJ fG e2 e aQ l1 rq eq k1 rp ep cZ sz hz dH na1 h2 h1;lia),rq];have:=WD (l2 (n2 - 1) (by (clear h0 fJ fG e aQ l1 rq eq ek k1 rp ep cZ sz hz dH na1 hsb h2 h1;lia)))
  (clear h0 fJ fG e2 e aQ l1 rq eq ek k1 rp ep cZ sz hz dH na1 hsb h2 h1;lia)
 have fin:∀r st2,Br st1 st2->Mg rk ((arrOf st).extract (sa+k) sb) ((arrOf st).extract sb (sb+n2)) r->wpS (model prog w) A E s (do
  modify fun s=>setArr s (List.foldl (fun a x=>a.setIfInBounds (sa+k+x.snd) x.fst) (arrOf s) r.toList.zipIdx)
  let __do_lift ←get
  pure (failedOf __do_lift).isNone) Q st2:=by
  intro r st2 k2' mg;have kY:arrOf st2=arrOf st:=k2'.a.trans cZ;refine wpS_bind (wpS_modify ?_);refine wpS_bind (wpS_get ?_);have hf:failedOf (setArr st2 (List.foldl (fun a x=>a.setIfInBounds (sa+k+x.snd) x.fst) (arrOf st2) r.toList.zipIdx))=none:=k2'.f.trans lG.failed;rw [hf]
  have rl:r.toList.length=sb - (sa+k)+n2:=by
   rw [mg.perm.length_eq,List.length_append,Array.length_toList,Array.length_toList,fG,fJ]
  have rp':r.toList.Perm (((arrOf st).toList.drop (sa+k)).take (sb - (sa+k)+n2)):=by
   refine mg.perm.trans (List.Perm.of_eq ?_);rw [cQ,cQ,List.take_add,List.drop_drop,show sb+n2 - sb=n2 by (clear rl hf kY hl h0 fJ fG e2 e aQ l1 rq eq ek k1 rp ep cZ sz hz dH na1 hsb h2 h1;lia),show sa+k+(sb - (sa+k))=sb by (clear rl hf kY hl h0 fJ fG e2 e aQ l1 rq eq ek rp ep cZ sz hz dH na1 h2 h1;lia)]
  have get:∀j,(arrOf (setArr st2 (List.foldl (fun a x=>a.setIfInBounds (sa+k+x.snd) x.fst) (arrOf st2) r.toList.zipIdx)))[j]? = if sa+k<=j/\j<sb+n2 then r.toList[j - (sa+k)]? else (arrOf st)[j]? :=fun j=>by
   show (List.foldl (fun a x=>a.setIfInBounds (sa+k+x.snd) x.fst) (arrOf st2) r.toList.zipIdx)[j]? = _;rw [kY,Im (sa+k) r.toList 0 (arrOf st) j (by (clear hf kY hl h0 fJ fG e2 e aQ rq eq ek rp ep cZ dH na1 h2 h1;lia)),rl]
   by_cases c:sa+k<=j/\j<sb+n2
   ·rw [if_pos c,if_pos (by (clear rl hf kY hl h0 fJ fG e2 e aQ l1 rq eq ek k1 rp ep cZ sz hz dH na1 hsb h2 h1;lia))];rfl
   ·rw [if_neg c,if_neg (by (clear rl hf kY hl h0 fJ fG e2 e aQ l1 rq eq ek rp ep cZ sz hz dH na1 h2 h1;lia))]
  have hB2:SB κ a₀ pd1 (setArr st2 (List.foldl (fun a x=>a.setIfInBounds (sa+k+x.snd) x.fst) (arrOf st2) r.toList.zipIdx)):=by
   refine ⟨?_,k2'.k.trans lG.kind,hf,k2'.p.trans lG.pend⟩;show (List.foldl (fun a x=>a.setIfInBounds (sa+k+x.snd) x.fst) (arrOf st2) r.toList.zipIdx).Perm a₀;rw [kY];exact (M9 rl (by (clear rl hf kY hl h0 fJ fG e2 e aQ rq eq ek rp ep cZ dH na1 h2 h1;lia)) rp').trans hB.perm
  generalize setArr st2 (List.foldl (fun a x=>a.setIfInBounds (sa+k+x.snd) x.fst) (arrOf st2) r.toList.zipIdx)=st3 at get hB2 ⊢;have out:∀j,¬(sa+k<=j/\j<sb+n2)->R rk (arrOf st3) j=R rk (arrOf st) j:=fun j hj=>fW (by rw [get j,if_neg hj])
  have mid:∀j,sa+k<=j->j<sb+n2 -> ∃j0,sa+k<=j0/\j0<sb+n2/\R rk (arrOf st3) j=R rk (arrOf st) j0:=fun j j1 j2=>by
   have e:=get j;rw [if_pos ⟨j1,j2⟩,List.getElem?_eq_getElem (by (clear e j1 hf kY hl h0 fJ fG e2 aQ l1 rq eq k1 rp ep cZ sz hz dH na1 h2 h1;lia))] at e;have hm:r.toList[j - (sa+k)]'(by (clear e j1 hf kY hl h0 fJ fG e2 aQ l1 rq eq k1 rp ep cZ sz hz dH na1 h2 h1;lia))∈((arrOf st).toList.drop (sa+k)).take (sb - (sa+k)+n2):=rp'.mem_iff.mp (List.getElem_mem _);obtain ⟨j0,a1,a2,a3⟩:=je (rk:=rk) hm;exact ⟨sa+k+j0,by (clear a3 a2 a1 e j1 hf kY hl h0 fJ fG e2 aQ l1 rq eq k1 rp ep cZ sz hz dH na1 h2 h1;lia),by (clear a3 a2 e j1 hf kY hl h0 fJ fG e2 aQ l1 rq eq k1 rp ep cZ sz hz dH na1 h2 h1;lia),by rw [yt e,a3]⟩
  refine wpS_pure (h st3 hB2 (fun j hj=>by rw [get j,if_neg (by (clear rl hf kY hl h0 fJ fG e2 e aQ rq eq ek k1 rp ep cZ sz hz dH na1 hsb h2 h1;lia))]) fun i j a b c=> ?_)
  by_cases i1:i<sa+k
  ·have ei:=Tv (k2 (i - sa) (by (clear c b rl hf kY hl h0 fJ fG e2 e aQ l1 rq eq ek k1 rp ep cZ sz hz dH na1 hsb h2 h1;lia)))
   rw [show sa+(i - sa)=i by (clear ei i1 c b rl hf kY hl h0 fJ fG e2 e aQ l1 rq eq ek k1 rp ep cZ sz hz dH na1 hsb h2 h1;lia),←rp] at ei;rw [out i (by (clear ei c b a rl hf kY hl h0 fJ fG e2 e aQ l1 rq eq ek k1 rp ep cZ sz hz dH na1 hsb h2 h1;lia))]
   have key:∀j0,sa+k<=j0->j0<sb+nb->R rk (arrOf st) i<=R rk (arrOf st) j0:=fun j0 b1 b2=>by
    by_cases c:j0<sb
    ·exact s1 i j0 a (by (clear c b2 ei b a rl hf kY hl h0 fJ fG e2 e aQ l1 rq eq ek k1 rp ep cZ sz hz dH na1 hsb h2 h1;lia)) (by (clear b2 b1 ei i1 b a rl hf kY hl h0 fJ fG e2 e aQ l1 rq eq ek k1 rp ep cZ sz hz dH na1 h2 h1;lia))
    ·have:=s2 sb j0 (Nat.le_refl _) (by (clear b2 b1 ei i1 b a rl hf kY hl h0 fJ fG e2 e aQ l1 rq eq ek k1 rp ep cZ sz hz dH na1 hsb h2 h1;lia)) b2;(clear c b2 b1 i1 b a rl hf kY hl h0 fJ fG e2 e aQ l1 rq eq ek k1 rp ep cZ sz hz dH na1 hsb h2 h1;lia)
   by_cases j1:sa+k<=j/\j<sb+n2
   ·obtain ⟨j0,b1,b2,b3⟩:=mid j j1.1 j1.2
    rw [b3];exact key j0 b1 (by (clear b3 b1 j1 ei i1 c b a rl hf kY hl h0 fJ fG e2 e aQ rq eq ek k1 rp ep cZ sz hz dH na1 hsb h2 h1;lia))
   ·rw [out j j1]
    by_cases j2:j<sa+k
    ·exact s1 i j a b (by (clear j1 ei i1 c b a rl hf kY hl h0 fJ fG e2 e aQ l1 rq eq ek rp ep cZ sz hz dH na1 hsb h2 h1;lia))
    ·exact key j (by (clear j1 ei i1 c b a rl hf kY hl h0 fJ fG e2 e aQ l1 rq eq ek k1 rp ep cZ sz hz dH na1 hsb h2 h1;lia)) c
  ·by_cases i2:i<sb+n2
   ·by_cases j2:j<sb+n2
    ·have e1:=get i
     have e2:=get j;rw [if_pos ⟨by (clear e2 e1 j2 i2 c b a rl hf kY hl h0 fJ fG e aQ l1 rq eq ek k1 rp ep cZ sz hz dH na1 hsb h2 h1;lia),i2⟩,List.getElem?_eq_getElem (by (clear e2 e1 j2 i1 c b a hf kY hl h0 fJ fG e aQ l1 rq eq ek k1 rp ep cZ sz hz dH na1 hsb h2 h1;lia))] at e1;rw [if_pos ⟨by (clear e2 e1 j2 i2 c a rl hf kY hl h0 fJ fG e aQ l1 rq eq ek k1 rp ep cZ sz hz dH na1 hsb h2 h1;lia),j2⟩,List.getElem?_eq_getElem (by (clear e2 e1 i2 i1 c b a hf kY hl h0 fJ fG e aQ l1 rq eq ek k1 rp ep cZ sz hz dH na1 hsb h2 h1;lia))] at e2;rw [yt e1,yt e2]
     by_cases eij:i=j
     ·subst eij;exact Nat.le_refl _
     ·exact List.pairwise_iff_getElem.mp mg.srt _ _ _ _ (by (clear e2 e1 j2 i2 c a rl hf kY hl h0 fJ fG e aQ l1 rq eq ek k1 rp ep cZ sz hz dH na1 hsb h2 h1;lia))
    ·obtain ⟨i0,b1,b2,b3⟩:=mid i (by (clear j2 i2 c b a rl hf kY hl h0 fJ fG e2 e aQ l1 rq eq ek k1 rp ep cZ sz hz dH na1 hsb h2 h1;lia)) i2
     rw [b3,out j (by (clear b3 b2 b1 i2 i1 c b a rl hf kY hl h0 fJ fG e2 e aQ l1 rq eq ek k1 rp ep cZ sz hz dH na1 hsb h2 h1;lia))]
     by_cases c':i0<sb
     ·have e1:=s1 i0 (sb - 1) (by (clear c' b3 b2 j2 i2 i1 c b a rl hf kY hl h0 fJ fG e2 e aQ l1 rq eq ek k1 rp ep cZ sz hz dH na1 hsb h2 h1;lia)) (by (clear b3 b2 b1 j2 i2 i1 c b a rl hf kY hl h0 fJ fG e2 e aQ l1 rq eq ek k1 rp ep cZ sz hz dH na1 hsb h2 h1;lia)) (by (clear c' b3 b2 b1 j2 i2 i1 c b a rl hf kY hl h0 fJ fG e2 e aQ l1 rq eq ek k1 rp ep cZ sz hz dH h2 h1;lia))
      have e2:=Et (l3 (j - sb) (by (clear e1 c' b3 b2 b1 i2 i1 c b a rl hf kY hl h0 fJ fG e2 e aQ l1 rq eq ek k1 rp ep cZ sz hz dH na1 hsb h2 h1;lia)) (by (clear e1 c' b3 b2 b1 j2 i2 i1 b a rl hf kY hl h0 fJ fG e2 e aQ l1 rq eq ek k1 rp ep cZ sz hz na1 hsb h2 h1;lia)));rw [show sb+(j - sb)=j by (clear e2 e1 c' b3 b2 b1 i2 i1 c b a rl hf kY hl h0 fJ fG e aQ l1 rq eq ek k1 rp ep cZ sz hz dH na1 hsb h2 h1;lia),←rq] at e2
      (clear c' b3 b2 b1 j2 i2 i1 c b a rl hf kY hl h0 fJ fG e aQ l1 rq eq ek k1 rp ep cZ sz hz dH na1 hsb h2 h1;lia)
     ·exact s2 i0 j (by (clear b3 b2 b1 j2 i2 i1 c b a rl hf kY hl h0 fJ fG e2 e aQ l1 rq eq ek k1 rp ep cZ sz hz dH na1 hsb h2 h1;lia)) (by (clear c' b3 b1 i2 i1 c b a rl hf kY hl h0 fJ fG e2 e aQ l1 rq eq ek k1 rp ep cZ sz hz dH na1 hsb h2 h1;lia)) c
   ·rw [out i (by (clear i1 c b a rl hf kY hl h0 fJ fG e2 e aQ l1 rq eq ek k1 rp ep cZ sz hz dH na1 hsb h2 h1;lia)),out j (by (clear i1 c a rl hf kY hl h0 fJ fG e2 e aQ l1 rq eq ek k1 rp ep cZ sz hz dH na1 hsb h2 h1;lia))]
    exact s2 i j (by (clear i1 c b a rl hf kY hl h0 fJ fG e2 e aQ l1 rq eq ek k1 rp ep cZ sz hz dH na1 hsb h2 h1;lia)) b c
 refine aP (fun _=> ?_) (fun _=> ?_)
 ·exact wpS_bind (Bs C lG.kind xin yin (by (clear hl h0 fJ e2 e aQ l1 rq eq k1 rp ep cZ sz hz dH na1 h2 h1;lia)) (by (clear hl h0 fG e2 e aQ l1 rq eq k1 rp ep cZ sz hz dH na1 hsb h2 h1;lia)) sx sy h0 hl fin)
 ·exact wpS_bind (Bu C lG.kind xin yin (by (clear hl h0 fJ e2 e aQ l1 rq eq ek k1 rp ep cZ sz hz dH na1 h2 h1;lia)) (by (clear hl h0 fG e aQ l1 rq eq ek k1 rp ep cZ sz hz dH na1 hsb h2 h1;lia)) sx sy h0 hl fin)
end
end Tim
set_option Elab.async false
set_option linter.all false
set_option maxRecDepth 100000
set_option maxHeartbeats 4000000
namespace Tim
open PySem PyProof.Rows
section
variable {prog:Program} {w:World} {A:Around} {E:Value->Shared->Prop} {s:Shared} {κ:SortKind} {a₀:Array Keyed} {rk:Value->Nat} {pd:Array (Nat×Nat×Nat)}
def Runs (rk:Value->Nat) (xs:Array Keyed):List (Nat×Nat×Nat)->Nat->Nat->Prop
 | [],a,e=>a=e
 | (s,n,_)::r,a,e=>s=a/\1<=n/\Seg rk xs a (a+n)/\Runs rk xs r (a+n) e
theorem Runs.le {xs:Array Keyed}:∀{l:List (Nat×Nat×Nat)} {a e:Nat},Runs rk xs l a e->a+l.length<=e
 | [],a,e,h=>Nat.le_of_eq h
 | (s,n,_)::r,a,e,h=>by
   have:=Runs.le h.2.2.2;have:=h.2.1;rw [List.length_cons];lia
theorem Runs.app {xs:Array Keyed} {r:List (Nat×Nat×Nat)}:∀{l:List (Nat×Nat×Nat)} {a e:Nat},Runs rk xs (l++r) a e ↔ ∃m,Runs rk xs l a m/\Runs rk xs r m e
 | [],a,e=>⟨fun h=>⟨a,rfl,h⟩,fun ⟨m,h1,h2⟩=>by
     have h1:a=m:=h1;subst h1;exact h2⟩
 | (s,n,_)::l,a,e=>by
   constructor
   ·rintro ⟨h1,h2,h3,h4⟩
    obtain ⟨m,m1,m2⟩:=Runs.app.mp h4;exact ⟨m,⟨h1,h2,h3,m1⟩,m2⟩
   ·rintro ⟨m,⟨h1,h2,h3,h4⟩,m2⟩
    exact ⟨h1,h2,h3,Runs.app.mpr ⟨m,h4,m2⟩⟩
theorem Runs.congr {xs ys:Array Keyed}:∀{l:List (Nat×Nat×Nat)} {a e:Nat},Runs rk xs l a e->(∀j,a<=j->j<e->R rk xs j=R rk ys j)->Runs rk ys l a e
 | [],a,e,h,_=>h
 | (s,n,_)::r,a,e,⟨h1,h2,h3,h4⟩,g=>by
   have le:=Runs.le h4;refine ⟨h1,h2,fun i j x y z=> ?_,Runs.congr h4 fun j x y=>g j (by (clear y le h2 h1;lia)) y⟩;rw [←g i x (by (clear x h2 h1;lia)),←g j (by (clear z le h2 h1;lia)) (by (clear y x h2 h1;lia))];exact h3 i j x y z
theorem U8 {α:Type} {l:List α} {i:Nat} (h:i+1<l.length):∃pre p q post,l=pre++p::q::post/\pre.length=i:=by
 refine ⟨l.take i,l[i],l[i+1],l.drop (i+2), ?_,by rw [List.length_take];lia⟩;rw [←List.drop_eq_getElem_cons,←List.drop_eq_getElem_cons,List.take_append_drop]
theorem pN {st:SortSt} {i e:Nat} {Q:Bool->SortSt->Prop} (C:HJ prog w A s κ a₀ rk) (hB:SB κ a₀ pd st) (hr:Runs rk (arrOf st) pd.toList 0 e) (he:e<=a₀.size) (hi:i+1<pd.size)
 (h:∀pd' st',SB κ a₀ pd' st'->Runs rk (arrOf st') pd'.toList 0 e->pd'.size+1=pd.size->(∀j,e<=j->(arrOf st')[j]? = (arrOf st)[j]?)->Q true st'):wpS (model prog w) A E s (mergeAt' i) Q st:=by
 obtain ⟨pre,⟨sa,na,pw⟩,⟨sb,nb,pw2⟩,post,el,pl⟩:=U8 (l:=pd.toList) (i:=i) (by rw [Array.length_toList];exact hi);rw [el] at hr;obtain ⟨m,r1,r2⟩:=Runs.app.mp hr;obtain ⟨e1,n1,s1,e2,n2,s2,r3⟩:=r2;subst e1;have gH:=Runs.le r3;have h1:pd[i]? = some (sa,na,pw):=by rw [←Array.getElem?_toList,el,List.getElem?_append_right (by (clear gH e2 n2 n1 el hi he;lia)),pl,Nat.sub_self];rfl
 have h2:pd[i+1]? = some (sb,nb,pw2):=by rw [←Array.getElem?_toList,el,List.getElem?_append_right (by (clear h1 gH e2 n2 n1 el hi he;lia)),pl,show i+1 - i=1 by (clear h1 gH e2 n2 n1 pl el hi he;lia)];rfl
 refine Bv C hB h1 h2 e2 n1 n2 (by (clear h2 h1 n2 n1 pl el hi;lia)) s1 (by rw [e2];exact s2) fun st' hB' out seg=> ?_
 have ep:((pd.setIfInBounds i (sa,na+nb,pw)).eraseIdxIfInBounds (i+1)).toList=pre++(sa,na+nb,pw)::post:=by
  rw [Array.toList_eraseIdxIfInBounds,Array.toList_setIfInBounds,el,List.set_append_right _ _ (by (clear h2 h1 gH e2 n2 n1 el hi he;lia)),pl,Nat.sub_self];rw [List.eraseIdx_append_of_length_le (by (clear h2 h1 gH e2 n2 n1 el hi he;lia)),pl,show i+1 - i=1 by (clear h2 h1 gH e2 n2 n1 pl el hi he;lia)];rfl
 refine h _ st' hB' ?_ ?_ fun j hj=>out j (.inr (by (clear ep h2 h1 n2 n1 pl el hi he;lia)))
 ·rw [ep]
  refine Runs.app.mpr ⟨sa,r1.congr fun j _ j2=>fW (out j (.inl j2)).symm,rfl,by (clear ep h2 h1 gH e2 n2 pl el hi he;lia), ?_, ?_⟩
  ·rw [show sa+(na+nb)=sb+nb by (clear ep h2 h1 gH n2 n1 pl el hi he;lia)];exact seg
  ·rw [←Nat.add_assoc]
   exact r3.congr fun j j1 j2=>fW (out j (.inr (by (clear j2 ep h2 h1 gH n2 n1 pl el hi he;lia)))).symm
 ·rw [←Array.length_toList,ep,←Array.length_toList,el]
  simp only [List.length_append,List.length_cons]
  (clear ep h2 h1 gH e2 n2 n1 pl el hi he;lia)
theorem Runs.modify {xs:Array Keyed} {f:Nat×Nat×Nat->Nat×Nat×Nat} (hf:∀x,(f x).1=x.1/\(f x).2.1=x.2.1) (l:List (Nat×Nat×Nat)):∀(i a e:Nat),Runs rk xs l a e->Runs rk xs (l.modify i f) a e:=by
 induction l with
 | nil=>intro i a e h;cases i<;>exact h
 | cons t r ih=>
   obtain ⟨s,n,p⟩:=t;intro i a e h;obtain ⟨h1,h2,h3,h4⟩:=h;cases i with
   | zero=>
     rw [List.modify_zero_cons];have e2:=hf (s,n,p);rcases hfp:f (s,n,p) with ⟨s',n',p'⟩
     rw [hfp] at e2;obtain ⟨q1,q2⟩:=e2;have q1:s'=s:=q1;have q2:n'=n:=q2;rw [q1,q2];exact ⟨h1,h2,h3,h4⟩
   | succ i=>
     rw [List.modify_succ_cons];exact ⟨h1,h2,h3,ih i _ _ h4⟩
theorem wpS_sortRuns {st:SortSt} {Q:Unit->SortSt->Prop} (C:HJ prog w A s κ a₀ rk) (hB:SB κ a₀ #[] st) (h2:2<=a₀.size)
 (h:∀st',(arrOf st').Perm a₀->failedOf st'=none->Seg rk (arrOf st') 0 a₀.size->Q () st'):wpS (model prog w) A E s sortRuns' Q st:=by
 rw [sortRuns'_eq];refine wpS_bind (wpS_get ?_);dsimp only;simp only [hB.size];generalize minRun' a₀.size a₀.size 0=mr
 refine wpS_bind (wpS_mono (wpS_forRange (I:=fun x c st'=>∃lo pd,c=(none,lo)/\x<=lo/\lo<=a₀.size/\SB κ a₀ pd st'/\Runs rk (arrOf st') pd.toList 0 lo)
  (Q:=fun c st'=>∃pd,c=(none,a₀.size)/\SB κ a₀ pd st'/\Runs rk (arrOf st') pd.toList 0 a₀.size) ?step ?fin ⟨0, #[],rfl,by (clear h2;lia),by (clear h2;lia),hB,rfl⟩) ?post)
 case fin=>
  rintro c st' ⟨lo,pd,rfl,x1,x2,hB',hr⟩;have:lo=a₀.size:=by (clear h2;lia)
  subst this;exact ⟨pd,rfl,hB',hr⟩
 case step=>
  rintro x c st' _ hx ⟨lo,pd,rfl,x1,x2,hB',hr⟩;dsimp only;refine aP (fun ge=> ?_) (fun ge=> ?_)
  ·have:lo=a₀.size:=by (clear x1 hx h2;lia)
   subst this;exact wpS_pure ⟨pd,rfl,hB',hr⟩
  refine wpS_bind (wpS_countRun C (by (clear ge x1 hx h2;lia)) (by (clear x2 x1 hx h2;lia)) hB' fun m st2 hB2 kb2 m1 m2 hs2=> ?_);dsimp only;have hr2:=hr.congr (ys:=arrOf st2) fun j _ j2=>fW (kb2 j j2).symm;apply aP
  case' h1=>
   intro lt;refine wpS_bind (wpS_lift (wpAny_rule ⟨rfl, ?_⟩));refine wpS_bind (wpS_binarySort C (by (clear lt m2 m1 ge x1 hx h2;lia)) (by (clear m1 ge x2 x1 hx h2;lia)) hB2 hs2 fun st3 hB3 kb3 hs3=> ?_);simp only [Bool.not_true,Bool.false_eq_true,if_false];have Ul:=hr2.congr (ys:=arrOf st3) fun j _ j2=>fW (kb3 j j2).symm;have n1:1<=min (a₀.size - lo) mr:=by (clear m2 m1 x2 x1 hx h2;lia)
   have n2:min (a₀.size - lo) mr<=a₀.size - lo:=by (clear n1 lt m2 m1 ge x2 x1 hx h2;lia)
   generalize min (a₀.size - lo) mr=n at hs3 n1 n2 ⊢
  case' h2=>
   intro lt;have Ul:=hr2;have hB3:=hB2;have hs3:=hs2;have n1:=m1;have n2:=m2;revert Ul hB3 hs3;generalize st2=st3;revert n1 n2;generalize m=n;intro n1 n2 Ul hB3 hs3
  all_goals
   refine wpS_bind (wpS_get ?_)
   have done:∀mZ nA,SB κ a₀ mZ nA->Runs rk (arrOf nA) mZ.toList 0 lo->Seg rk (arrOf nA) lo (lo+n)->wpS (model prog w) A E s (do
    modify fun s=>setPending s ((pendingOf s).push (lo,n,0))
    pure (ForInStep.yield ((none:Option Unit),lo+n))) (fun r st'=>match r with
     | ForInStep.done c'=>∃pd,c'=(none,a₀.size)/\SB κ a₀ pd st'/\Runs rk (arrOf st') pd.toList 0 a₀.size
     | ForInStep.yield c'=>∃lo pd,c'=(none,lo)/\x+1<=lo/\lo<=a₀.size/\SB κ a₀ pd st'/\Runs rk (arrOf st') pd.toList 0 lo) nA:=by
    intro mZ nA uw xq V4;refine wpS_bind (wpS_modify (wpS_pure ⟨lo+n,mZ.push (lo,n,0),rfl,by (clear n2 lt m2 m1 ge x2 hx h2;lia),by (clear n1 lt m2 m1 ge x1 hx h2;lia),⟨uw.perm,uw.kind,uw.failed,by show (pendingOf nA).push _=_;rw [uw.pend]⟩, ?_⟩));rw [Array.toList_push];exact Runs.app.mpr ⟨lo,xq,rfl,n1,V4,rfl⟩
   cases hb:(pendingOf st3).back? with
   | none=>exact done _ _ hB3 Ul hs3
   | some t=>
     obtain ⟨s1,n1',pw⟩:=t;dsimp only;generalize power' a₀.size (2*s1+n1') (2*s1+n1'+n1'+n) a₀.size=pwr
     refine wpS_bind (wpS_mono (wpS_forRange (I:=fun y c nA=>∃mZ,c=(none,())/\SB κ a₀ mZ nA/\Runs rk (arrOf nA) mZ.toList 0 lo/\Seg rk (arrOf nA) lo (lo+n))
      (Q:=fun c nA=>∃mZ,c=(none,())/\SB κ a₀ mZ nA/\Runs rk (arrOf nA) mZ.toList 0 lo/\Seg rk (arrOf nA) lo (lo+n)) ?_ (fun _ _ z=>z) ⟨_,rfl,hB3,Ul,hs3⟩) ?_)
     ·rintro y c nA _ hy ⟨mZ,rfl,uw,xq,V4⟩
      refine wpS_bind (wpS_get ?_);rw [uw.pend];cases hg:(if mZ.size>1 then mZ[mZ.size - 2]? else none) with
      | none=>exact wpS_pure ⟨mZ,rfl,uw,xq,V4⟩
      | some t=>
        obtain ⟨f1,f2,older⟩:=t;dsimp only
        have gt:mZ.size>1:=by
         by_cases g:mZ.size>1
         ·exact g
         ·rw [if_neg g] at hg;cases hg
        refine aP (fun _=> ?_) (fun _=> ?_)
        ·exact wpS_pure ⟨mZ,rfl,uw,xq,V4⟩
        ·refine wpS_bind (pN C uw xq x2 (by (clear hg hy hb n2 n1 lt m2 m1 ge x2 x1 hx h2;lia)) fun pd5 yE hB5 hr5 _ X8=> ?_)
         simp only [Bool.not_true,Bool.false_eq_true,if_false];refine wpS_pure ⟨pd5,rfl,hB5,hr5,fun i j a b c=> ?_⟩;rw [fW (X8 i a),fW (X8 j (by (clear c gt hg hy hb n2 n1 lt m2 m1 ge x2 x1 hx h2;lia)))];exact V4 i j a b c
     ·rintro c nA ⟨mZ,rfl,uw,xq,V4⟩
      dsimp only;refine wpS_bind (wpS_modify ?_);refine done _ _ ⟨uw.perm,uw.kind,uw.failed,rfl⟩ ?_ V4;rw [←uw.pend] at xq;rw [Array.toList_modify];refine Runs.modify (fun x=> ?_) _ _ _ _ xq;exact ⟨rfl,rfl⟩
 case post=>
  rintro c st' ⟨pd,rfl,hB',hr⟩;dsimp only;have le:=Runs.le hr;rw [Array.length_toList] at le
  refine wpS_bind (wpS_mono (wpS_forRange (I:=fun y c nA=>∃mZ,c=(none,())/\SB κ a₀ mZ nA/\Runs rk (arrOf nA) mZ.toList 0 a₀.size/\mZ.size<=max 1 (a₀.size - y))
   (Q:=fun c nA=>∃mZ,c=(none,())/\SB κ a₀ mZ nA/\Runs rk (arrOf nA) mZ.toList 0 a₀.size/\mZ.size<=1) ?_ ?_ ⟨pd,rfl,hB',hr,by (clear h2;lia)⟩) ?_)
  ·rintro y c nA _ hy ⟨mZ,rfl,uw,xq,Yp⟩
   refine wpS_bind (wpS_get ?_);rw [uw.pend];refine aP (fun l1=> ?_) (fun l1=> ?_)
   ·exact wpS_pure ⟨mZ,rfl,uw,xq,l1⟩
   ·have hix:∀(c:Prop) [Decidable c],(if c then mZ.size - 2 - 1 else mZ.size - 2)+1<mZ.size:=by
     intro c _;split<;>(clear Yp hy le h2;lia)
    refine wpS_bind (pN C uw xq (Nat.le_refl _) (hix _) fun pd5 yE hB5 hr5 z5 _=> ?_);simp only [Bool.not_true,Bool.false_eq_true,if_false];exact wpS_pure ⟨pd5,rfl,hB5,hr5,by (clear l1 hy le h2;lia)⟩
  ·rintro c nA ⟨mZ,rfl,uw,xq,Yp⟩
   exact ⟨mZ,rfl,uw,xq,by (clear le h2;lia)⟩
  ·rintro c nA ⟨mZ,rfl,uw,xq,Yp⟩
   refine wpS_pure (h nA uw.perm uw.failed ?_);have ll:mZ.toList.length<=1:=by rw [Array.length_toList];exact Yp
   match hl:mZ.toList,ll,xq with
   | [],_,xq=>have:0=a₀.size:=xq;(clear hl ll Yp le;lia)
   | [(s,n,p)],_,xq=>
     obtain ⟨_,_,hs,e⟩:=xq;have e:0+n=a₀.size:=e;rw [e] at hs;exact hs
end
end Tim
set_option Elab.async false
set_option linter.all false
set_option maxRecDepth 100000
set_option maxHeartbeats 4000000
namespace Tim
open PySem PyProof.Rows
section
variable {prog:Program} {w:World} {A:Around} {E:Value->Shared->Prop} {s:Shared} {κ:SortKind} {rk:Value->Nat}
theorem Vn {vs:List Value} {xs:Array Keyed} (hp:xs.Perm (pairsOf vs)) (hs:Seg rk xs 0 (pairsOf vs).size):(xs.map (·.2)).toList.Perm vs/\(xs.map (·.2)).toList.Pairwise (fun x y=>rk x<=rk y):=by
 have hl:xs.toList.Perm (vs.zip vs):=by rw [←pairsOf_toList];exact Array.perm_iff_toList_perm.mp hp
 have hmem:∀p,p∈xs.toList->p.1=p.2:=fun p hp'=>(mem_zip_self (hl.mem_iff.mp hp')).1
 have e:(xs.map (·.2)).toList=xs.toList.map (·.1):=by
  rw [Array.toList_map];exact List.map_congr_left fun p hp'=>(hmem p hp').symm
 rw [e];constructor
 ·have:=hl.map Prod.fst
  rwa [List.map_fst_zip (Nat.le_refl _)] at this
 ·rw [List.pairwise_map,List.pairwise_iff_getElem]
  intro i j hi hj hij;rw [Array.length_toList] at hi hj;have:=hs i j (Nat.zero_le _) (Nat.le_of_lt hij) (by rw [←hp.size_eq];exact hj);rw [iG hi,iG hj] at this;simpa using this
theorem yO {a:Addr} {vs:List Value} {n:Nat} {P:PySem.Fin->Shared->Prop} (ho:s.heap.get? a=some (seqObj "list" vs.toArray n)) (hz:vs.length<=sizeLine)
 (hk:2<=vs.length -> ∀h':Heap,(∀b o,b≠a->s.heap.get? b=some o->h'.get? b=some o)->(∀(Q:SortKind->Shared->Prop) (E:Value->Shared->Prop),Q κ {s with heap:=h'}->wpAny (model prog w) A (keyKind' vs.toArray) Q E {s with heap:=h'})/\HJ prog w A {s with heap:=h'} κ (pairsOf vs) rk)
 (h:∀out:List Value,out.Perm vs->out.Pairwise (fun x y=>rk x<=rk y)->P (.done (.ret .none)) {s with heap:=sortedHeap s.heap a vs out.toArray}):
 wpAny (model prog w) A (Builtin.«list.sort» ⟨[.ref a],[]⟩) P E s:=by
 rw [list_sort_plain];have ha:a<s.heap.objs.size:=Heap.lt_size ho;refine wpAny_bind (listItems_at ho rfl ?_);refine wpAny_bind (listUpdate_at ho rfl ?_ (by rw [List.size_toArray];exact hz) (Nat.zero_le _));obtain ⟨e1,ho1⟩:∃e1,(s.heap.update a (Obj.mapSeq fun _=> #[])).get? a=some (seqObj "list" #[] e1):=⟨_,get?_update_seq ho (fun _=> #[])⟩;refine wpAny_bind (seqEpoch_at ho1 rfl ?_);refine wpAny_bind (wpAny_newTuple ?_ (by show vs.length<=_;exact hz));refine wpAny_bind (wpAny_newList ?_ (Nat.zero_le _));refine wpAny_holding ?_
 have keep:∀b o,b≠a->s.heap.get? b=some o->(((s.heap.update a (Obj.mapSeq fun _=> #[])).push (seqObj "tuple" vs.toArray 0)).push (seqObj "list" #[] 0)).get? b=some o:=fun b o nb e=>by
  refine Heap.get?_push_of_some _ (Heap.get?_push_of_some _ ?_);rw [Heap.get?_update_ne _ _ _ _ nb];exact e
 have ho6:(((s.heap.update a (Obj.mapSeq fun _=> #[])).push (seqObj "tuple" vs.toArray 0)).push (seqObj "list" #[] 0)).get? a=some (seqObj "list" #[] e1):=Heap.get?_push_of_some _ (Heap.get?_push_of_some _ ho1);show wpAny (model prog w) A _ P E {s with heap:=((s.heap.update a (Obj.mapSeq fun _=> #[])).push (seqObj "tuple" vs.toArray 0)).push (seqObj "list" #[] 0)};dsimp only;have hsz:vs.toArray.size=vs.length:=by simp
 have fin:∀st':SortSt,(arrOf st').Perm (pairsOf vs)->Seg rk (arrOf st') 0 (pairsOf vs).size ->
  P (.done (.ret .none)) {s with heap:=sortedHeap s.heap a vs ((arrOf st').map (·.2))}:=by
  intro st' hp hs;obtain ⟨h1,h2⟩:=Vn hp hs;have:=h _ h1 h2;rwa [Array.toArray_toList] at this
 by_cases h2:vs.toArray.size<2
 ·rw [if_pos h2,if_pos h2]
  refine wpAny_bind (wpAny_pure ?_);rw [StateT.run_pure];refine wpAny_bind (wpAny_pure ?_);dsimp only;refine wpAny_bind (seqEpoch_at ho6 rfl ?_);refine wpAny_bind (listUpdate_at ho6 rfl ?_ (Nat.zero_le _) (by rw [Array.size_map];show (pairsOf vs).size<=_;rw [pairsOf_size];omega));simp only [bne_self_eq_false,Bool.false_eq_true,if_false];refine wpAny_pure (fin (SortSt.mk' general' (vs.toArray.zip vs.toArray) #[] 7 none) (Array.Perm.refl _) ?_);intro i j _ hij hj;have:i=j:=by rw [pairsOf_size] at hj;omega
  subst this;exact Nat.le_refl _
 ·rw [if_neg h2,if_neg h2]
  obtain ⟨kk,kc⟩:=hk (by omega) _ keep;refine wpAny_bind (kk _ _ ?_)
  refine wpAny_bind (wpAny_mono (wpS_sortRuns (a₀:=pairsOf vs) (rk:=rk) (st:=SortSt.mk' κ (vs.toArray.zip vs.toArray) #[] 7 none)
   (Q:=fun _ st'=>(arrOf st').Perm (pairsOf vs)/\failedOf st'=none/\Seg rk (arrOf st') 0 (pairsOf vs).size)
   kc ⟨Array.Perm.refl _,rfl,rfl,rfl⟩ (by rw [pairsOf_size];omega) fun st' a1 a2 a3=>⟨a1,a2,a3⟩) ?_ fun _ _ e=>e)
  rintro ⟨⟨⟩,st'⟩ s' ⟨rfl,hp,hf,hs⟩;dsimp only;refine wpAny_bind (seqEpoch_at ho6 rfl ?_);refine wpAny_bind (listUpdate_at ho6 rfl ?_ (Nat.zero_le _) (Nat.le_trans (Nat.le_of_eq ((Array.size_map ..).trans (hp.size_eq.trans (pairsOf_size _)))) (Nat.le_succ_of_le hz)));rw [hf];simp only [bne_self_eq_false,Bool.false_eq_true,if_false];exact wpAny_pure (fin st' hp hs)
theorem FQ {l:Addr} {vs:List Value} {Q:Value->Shared->Prop} (hl:s.heap.IsList l vs.toArray) (hz:vs.length<=sizeLine)
 (hk:2<=vs.length -> ∀h':Heap,(∀b o,s.heap.get? b=some o->h'.get? b=some o)->(∀(Q:SortKind->Shared->Prop) (E:Value->Shared->Prop),Q κ {s with heap:=h'}->wpAny (model prog w) A.in1.in1 (keyKind' vs.toArray) Q E {s with heap:=h'})/\HJ prog w A.in1.in1 {s with heap:=h'} κ (pairsOf vs) rk)
 (h:∀(h':Heap) (D:Addr) (c:Nat) (out:List Value),(∀b o,s.heap.get? b=some o->h'.get? b=some o)->s.heap.objs.size<=D->h'.get? D=some (seqObj "list" out.toArray c)->out.Perm vs->out.Pairwise (fun x y=>rk x<=rk y)->Q (.ref D) {s with heap:=h'}):
 wpAny (model prog w) A (call (.builtin "sorted") [.ref l]) Q E s:=by
 refine Calls.call_function_entry kind_sorted plain_sorted entry_sorted (args_sorted1 _) ?_;unfold Builtin.«sorted»;refine wpAny_bind (m:=checkCount "sorted" 1 1 _) (wpAny_pure ?_);refine wpAny_bind (collect_list hl ?_ hz);refine wpAny_bind (wpAny_newList ?_ hz)
 have hsz:((s.heap.push (seqObj "list" #[] 0)).update s.heap.objs.size (Obj.mapSeq (· ++ vs.toArray))).objs.size=s.heap.objs.size+1:=by
  rw [Heap.size_update,size_push']
 have hoL:(((s.heap.push (seqObj "list" #[] 0)).update s.heap.objs.size (Obj.mapSeq (· ++ vs.toArray))).push (seqObj "list" vs.toArray 0)).get? (s.heap.objs.size+1)=some (seqObj "list" vs.toArray 0):=by
  rw [←hsz];exact Heap.get?_push_size _ rfl
 have keep:∀b o,s.heap.get? b=some o->(((s.heap.push (seqObj "list" #[] 0)).update s.heap.objs.size (Obj.mapSeq (· ++ vs.toArray))).push (seqObj "list" vs.toArray 0)).get? b=some o:=fun b o q=>by
  have hlt:b<s.heap.objs.size:=Heap.lt_size q;rw [Heap.get?_push_ne _ _ _ (by rw [hsz];exact Nat.ne_of_lt (Nat.lt_succ_of_lt hlt)),Heap.get?_update_ne _ _ _ _ (Nat.ne_of_lt hlt),Heap.get?_push_ne _ _ _ (Nat.ne_of_lt hlt)];exact q
 show wpAny _ _ _ _ _ {s with heap:=((s.heap.push (seqObj "list" #[] 0)).update s.heap.objs.size (Obj.mapSeq (· ++ vs.toArray))).push (seqObj "list" vs.toArray 0)};rw [hsz];generalize ((s.heap.push (seqObj "list" #[] 0)).update s.heap.objs.size (Obj.mapSeq (· ++ vs.toArray))).push (seqObj "list" vs.toArray 0)=h1 at keep hoL ⊢;have nD:∀b o,s.heap.get? b=some o->b≠s.heap.objs.size+1:=fun b o e=>Nat.ne_of_lt (Nat.lt_succ_of_lt (Heap.lt_size e));refine wpAny_bind (wpAny_holding (wpAny_call_entry slot_list_sort ⟨_,hoL,rfl⟩ entry_list_sort (yO (s:={s with heap:=h1}) hoL hz (fun h2 h' kp=>hk h2 h' fun b o e=>kp b o (nD b o e) (keep b o e)) fun out p1 p2=>⟨_,rfl, ?_⟩) (args_list_sort _)));refine wpAny_pure ⟨_,rfl, ?_⟩;obtain ⟨e1,ho1⟩:∃e1,(h1.update (s.heap.objs.size+1) (Obj.mapSeq fun _=> #[])).get? (s.heap.objs.size+1)=some (seqObj "list" #[] e1):=⟨_,get?_update_seq hoL (fun _=> #[])⟩;have ho2:(((h1.update (s.heap.objs.size+1) (Obj.mapSeq fun _=> #[])).push (seqObj "tuple" vs.toArray 0)).push (seqObj "list" #[] 0)).get? (s.heap.objs.size+1)=some (seqObj "list" #[] e1):=Heap.get?_push_of_some _ (Heap.get?_push_of_some _ ho1);refine h (sortedHeap h1 (s.heap.objs.size+1) vs out.toArray) _ _ out (fun b o e=> ?_) (Nat.le_succ _) (by unfold sortedHeap;exact get?_update_seq ho2 (fun _=>out.toArray)) p1 p2;unfold sortedHeap;rw [Heap.get?_update_ne _ _ _ _ (nD b o e)];refine Heap.get?_push_of_some _ (Heap.get?_push_of_some _ ?_);rw [Heap.get?_update_ne _ _ _ _ (nD b o e)];exact keep b o e
end
section
theorem zF {α:Type} {p q:α->Bool} {u:α}:∀{l:List α},u∈l->q u=true->p u=false->(∀x,p x=true->q x=true)->l.countP p<l.countP q
 | [],hm,_,_,_=>by simp at hm
 | x::l,hm,hq,hp,hi=>by
   have mono:l.countP p<=l.countP q:=List.countP_mono_left fun x _=>hi x;rw [List.countP_cons,List.countP_cons];rcases List.mem_cons.mp hm with rfl|hm
   ·rw [hq,hp];simp;omega
   ·have:=zF hm hq hp hi
    cases e:p x with
    | true=>rw [hi x e];simp;omega
    | false=>simp;omega
def nQ {α:Type} (L:α->α->Bool) (vs:List α) (v:α):Nat:=vs.countP fun u=>L u v
structure Swo {α:Type} (L:α->α->Bool):Prop where
 irr:∀a,L a a=false
 tr:∀a b c,L a b=true->L b c=true->L a c=true
 ntr:∀a b c,L a b=false->L b c=false->L a c=false
theorem Ik {α:Type} {L:α->α->Bool} (S:Swo L) {vs:List α} {u v:α} (hu:u∈vs):decide (nQ L vs u<nQ L vs v)=L u v:=by
 cases e:L u v with
 | true=>exact decide_eq_true (zF hu e (S.irr u) fun x hx=>S.tr x u v hx e)
 | false=>
   refine decide_eq_false fun z=> ?_
   have:nQ L vs v<=nQ L vs u:=List.countP_mono_left fun x _ hx=>by
    cases e':L x u with
    | true=>rfl
    | false=>rw [S.ntr x u v e' e] at hx;cases hx
   omega
theorem Q5 {α:Type} {L:α->α->Bool} (S:Swo L) {vs:List α} {u v:α} (hv:v∈vs) (h:nQ L vs u<=nQ L vs v):L v u=false:=by
 have:=Ik S (u:=v) (v:=u) hv;rw [←this];exact decide_eq_false (by omega)
def jg:List Int->List Int->Bool
 | _,[]=>false
 | [],_::_=>true
 | a::as,b::bs=>if a=b then jg as bs else decide (a<b)
theorem Dj (a:List Int):jg a []=false:=by cases a<;>rfl
theorem Dk:∀a,jg a a=false
 | []=>rfl
 | a::as=>by unfold jg;rw [if_pos rfl];exact Dk as
theorem IW:∀a b c,jg a b=true->jg b c=true->jg a c=true
 | a,[],_,h,_=>by rw [Dj] at h;cases h
 | [],_::_,[],_,h=>by cases h
 | [],_::_,_::_,_,_=>rfl
 | _::_,_::_,[],_,h=>by cases h
 | a::as,b::bs,c::cs,h1,h2=>by
   unfold jg at h1 h2 ⊢
   by_cases e1:a=b
   ·rw [if_pos e1] at h1
    by_cases e2:b=c
    ·rw [if_pos e2] at h2
     rw [if_pos (e1.trans e2)];exact IW as bs cs h1 h2
    ·rw [if_neg e2] at h2
     rw [if_neg (e1▸e2),e1];exact h2
   ·rw [if_neg e1] at h1
    have h1:=of_decide_eq_true h1
    by_cases e2:b=c
    ·rw [←e2,if_neg e1];exact decide_eq_true h1
    ·rw [if_neg e2] at h2
     have h2:=of_decide_eq_true h2;rw [if_neg (by omega)];exact decide_eq_true (by omega)
theorem Di:∀a b c,jg a b=false->jg b c=false->jg a c=false
 | a,_,[],_,_=>Dj a
 | [],[],_::_,_,h=>by cases h
 | [],_::_,_::_,h,_=>by cases h
 | _::_,[],_::_,_,h=>by cases h
 | a::as,b::bs,c::cs,h1,h2=>by
   unfold jg at h1 h2 ⊢
   by_cases e1:a=b
   ·rw [if_pos e1] at h1
    by_cases e2:b=c
    ·rw [if_pos e2] at h2
     rw [if_pos (e1.trans e2)];exact Di as bs cs h1 h2
    ·rw [if_neg e2] at h2
     rw [if_neg (e1▸e2),e1];exact h2
   ·rw [if_neg e1] at h1
    have h1:=of_decide_eq_false h1
    by_cases e2:b=c
    ·rw [←e2,if_neg e1];exact decide_eq_false h1
    ·rw [if_neg e2] at h2
     have h2:=of_decide_eq_false h2;rw [if_neg (by omega)];exact decide_eq_false (by omega)
theorem Dh:∀a b,jg a b=false->jg b a=false->a=b
 | [],[],_,_=>rfl
 | [],_::_,h,_=>by cases h
 | _::_,[],_,h=>by cases h
 | a::as,b::bs,h1,h2=>by
   unfold jg at h1 h2
   by_cases e:a=b
   ·rw [if_pos e] at h1
    rw [if_pos e.symm] at h2;rw [e,Dh as bs h1 h2]
   ·rw [if_neg e] at h1
    rw [if_neg (Ne.symm e)] at h2;have h1:=of_decide_eq_false h1;have h2:=of_decide_eq_false h2;omega
theorem Ib {α:Type} (key:α->List Int):Swo fun a b=>jg (key a) (key b):=⟨fun a=>Dk _,fun a b c=>IW _ _ _,fun a b c=>Di _ _ _⟩
end
end Tim
set_option Elab.async false
set_option linter.all false
set_option maxRecDepth 100000
set_option maxHeartbeats 4000000
namespace L2
open PySem PySem.Spec PyProof.Rows PySem.W
section
variable {X:Cx}
def keyOf (h:Heap):Value->List Int
 | .int n _=>[n]
 | .ref a=>match h.get? a with
   | some o=>match o.data with
     | .seq xs _=>xs.toList.map numOf
     | _=>[]
   | none=>[]
 | _=>[]
theorem IV {prog:Program} {w:World} {A:Around} {s:Shared} {Q:Bool->Shared->Prop}:∀(xs ys:List Value) (ns ms:List Int) (i:Nat),IntsAre xs ns->IntsAre ys ms -> ∀(fin:Bool),(ns.length=ms.length->fin=false)->ns.length=ms.length->Q (Tim.jg ns ms) s->KatLex prog w A true fin Q (xs.zip ys) i s
 | _,_,[],[],i,.nil,.nil,fin,hf,_,h=>by
   show Q fin s;rw [hf rfl];exact h
 | _,_,_::_,[],_,_,_,_,_,hl,_=>by cases hl
 | _,_,[],_::_,_,_,_,_,_,hl,_=>by cases hl
 | _,_,n::ns,m::ms,i,.cons _ t hx,.cons _ u hy,fin,hf,hl,h=>by
   rw [List.zip_cons_cons];refine kat_cons (wpAny_eqBool_int ?_);have hl':ns.length=ms.length:=by simpa using hl
   by_cases e:n=m
   ·subst e
    rw [show (n==n)=true by simp];refine kat_yes (IV _ _ ns ms (i+1) hx hy fin (fun z=>hf (by simpa using z)) hl' ?_);unfold Tim.jg at h;rwa [if_pos rfl] at h
   ·rw [show (n==m)=false by simpa using e]
    unfold Tim.jg at h;rw [if_neg e] at h;refine kat_no ?_;cases (true&&i==0) with
    | true=>exact oneLt_int h
    | false=>exact kat_one _ _ (lt_int (show W.BoolBack Q (.bool (decide (n<m))) s from h))
theorem oY {h:Heap} {a:Addr} {its:List Value} {ns:List Int} (ht:IsTup h a its.toArray) (hi:IntsAre its ns):keyOf h (.ref a)=ns:=by
 obtain ⟨o,e,_,n,d⟩:=ht
 show (match h.get? a with
  | some o=>match o.data with
    | .seq xs _=>xs.toList.map numOf
    | _=>[]
  | none=>[])=ns
 rw [e];dsimp only;rw [d];dsimp only;exact hi.nums
def Jt (h:Heap) (k:Nat) (vs:List Value):Prop:=∀v∈vs,∃a its ns,v = .ref a/\IsTup h a its.toArray/\IntsAre its ns/\ns.length=k
theorem Mr {prog:Program} {w:World} {A:Around} {s:Shared} {vs:List Value} {k:Nat} {h0:Heap} (T:Jt h0 k vs) (kp:∀b o,h0.get? b=some o->s.heap.get? b=some o):
 Tim.HJ prog w A s (tuples' true) (pairsOf vs) (Tim.nQ (fun a b=>Tim.jg (keyOf h0 a) (keyOf h0 b)) vs):=by
 refine ⟨fun p hp q hq E Q h=> ?_⟩;rw [pairsOf_toList] at hp hq;obtain ⟨_,mp⟩:=mem_zip_self hp;obtain ⟨_,mq⟩:=mem_zip_self hq;rw [Tim.Ik (Tim.Ib (keyOf h0)) mp] at h;obtain ⟨a,its,ns,ep,ta,ia,la⟩:=T _ mp;obtain ⟨b,jts,ms,eq,tb,ib,lb⟩:=T _ mq;rw [ep,eq] at h ⊢;rw [oY ta ia,oY tb ib] at h;obtain ⟨oa,ea,ca,n1,da⟩:=ta;obtain ⟨ob,eb,cb,n2,db⟩:=tb;have l1:its.length=ns.length:=ia.length;have l2:jts.length=ms.length:=ib.length;refine kat_lt (kp _ _ ea) da (kp _ _ eb) db ?_;have e1:its.toArray.toList=its:=by simp
 have e2:jts.toArray.toList=jts:=by simp
 rw [e1,e2];exact IV its jts ns ms 0 ia ib _ (fun z=>decide_eq_false (by rw [List.size_toArray,List.size_toArray];omega)) (by omega) h
theorem uK {h0 h1:Heap} {k:Nat} (hk:1<=k) (kp:∀b o,h0.get? b=some o->h1.get? b=some o):∀{vs:List Value},Jt h0 k vs -> ∃fs,KatTups h1 vs fs/\fs.length=vs.length /\ ∀f∈fs,∃n t,f=Value.int n t
 | [],_=>⟨[],trivial,rfl,fun _ z=>absurd z (by simp)⟩
 | v::vs,T=>by
   obtain ⟨fs,t1,t2,t3⟩:=uK hk kp (vs:=vs) fun u hu=>T u (List.mem_cons_of_mem _ hu);obtain ⟨a,its,ns,rfl,⟨o,e,c,n,d⟩,ia,la⟩:=T v (List.mem_cons_self ..)
   match its,ns,ia,la,d with
   | _,_,.nil,la,d=>simp at la;omega
   | _,_,.cons m t r,la,d=>
     refine ⟨_::fs,KatTups.cons (kp _ _ e) c d rfl t1,by simp [t2],fun f hf=> ?_⟩;rcases List.mem_cons.mp hf with rfl|hf
     ·exact ⟨_,_,rfl⟩
     ·exact t3 f hf
theorem JG {prog:Program} {w:World} {A:Around} {s:Shared} {vs:List Value} {k:Nat} {h0:Heap} {Q:SortKind->Shared->Prop} {E:Value->Shared->Prop} (hk:1<=k) (T:Jt h0 k vs) (hv:2<=vs.length) (kp:∀b o,h0.get? b=some o->s.heap.get? b=some o)
 (h:Q (tuples' true) s):wpAny (model prog w) A (keyKind' vs.toArray) Q E s:=by
 obtain ⟨fs,t1,t2,t3⟩:=uK hk kp T;refine kat_kind (T:= .type "int") t1 (by omega) (fun v hv=> ?_) rfl h;obtain ⟨n,t,rfl⟩:=t3 v hv;exact .now
theorem JB {ys:List V} {us out:List Value} (r:Vals ys us) (p:out.Perm us):∃zs,Vals zs out/\zs.Perm ys:=by
 induction p generalizing ys with
 | nil=>cases r;exact ⟨[],.nil,.refl _⟩
 | cons x p ih=>
   cases r with
   | cons rx rt=>
     obtain ⟨zs,z1,z2⟩:=ih rt;exact ⟨_::zs,.cons rx z1,.cons _ z2⟩
 | swap x y l=>
   cases r with
   | cons rx rt=>
     cases rt with
     | cons ry rl=>exact ⟨_,.cons ry (.cons rx rl),.swap _ _ _⟩
 | trans p q ih1 ih2=>
   obtain ⟨zs,z1,z2⟩:=ih2 r;obtain ⟨ws,w1,w2⟩:=ih1 z1;exact ⟨ws,w1,w2.trans z2⟩
theorem zB:∀{ns:List Int} {vs:List Value},Vals (ns.map V.int) vs->IntsAre vs ns
 | [],_,.nil=> .nil
 | n::ns,_,.cons ⟨t,e⟩ r=>by subst e;exact .cons n t (zB r)
theorem zc {R:Value->Value->Prop} {S:V->V->Prop} (hRS:∀x y u v,RelV x u->RelV y v->R u v->S x y):∀{zs:List V} {out:List Value},Vals zs out->out.Pairwise R->zs.Pairwise S
 | _,_,.nil,_=> .nil
 | _,_,.cons rx rt,p=>by
   rw [List.pairwise_cons] at p;refine .cons (fun y hy=> ?_) (zc hRS rt p.2);obtain ⟨i,hi,e⟩:=List.getElem_of_mem hy;obtain ⟨v,hv,ry⟩:=Vals.get rt (i:=i) (x:=y) (by rw [List.getElem?_eq_getElem hi,e]);exact hRS _ _ _ _ rx ry (p.1 v (List.mem_of_getElem? hv))
def ahf (K:PySem.W.Frag) (H:Hp) (k:Nat) (f:V->List Int) (x:V):Prop:=∃a,x = .ref a/\gC K H a ((f x).map V.int)/\(f x).length=k
def Ga (K:PySem.W.Frag):List V->Hp->VK->Prop:=fun xs H Q=>∃(p:Addr) (ys:List V) (k:Nat) (f:V->List Int),xs=[.ref p]/\bA K H p ys/\1<=k/\(∀y∈ys,ahf K H k f y) /\
 ∀l zs,H l=none->zs.Perm ys->zs.Pairwise (fun x y=>Tim.jg (f y) (f x)=false)->Q (.ref l) (upd H l (.lst zs))
theorem Hj:iJ X (.builtin "sorted") (Ga X.K):=by
 intro pins s σ H xs us Q I r h;obtain ⟨p,ys,k,f,rfl,hq,hk,ht,q⟩:=h;obtain ⟨u,rfl,rx⟩:=vals1 r;cases rx;obtain ⟨its,rv,pl,hz⟩:=I.list hq;have hlen:its.length=ys.length:=by rw [←rv.length]
 have item:∀x v,x∈ys->RelV x v -> ∃a jts,v = .ref a/\IsTup s.heap a jts.toArray/\IntsAre jts (f x)/\(f x).length=k:=by
  intro x v hx rxv;obtain ⟨a,rfl,sq,hl⟩:=ht x hx;cases rxv;obtain ⟨jts,rj,tj,_⟩:=I.tuple sq;exact ⟨a,jts,rfl,tj,zB rj,hl⟩
 have T:Jt s.heap k its:=fun v hv=>by
  obtain ⟨i,hi,e⟩:=List.getElem_of_mem hv;have hy:i<ys.length:=by omega
  obtain ⟨v',hv',ry⟩:=rv.get (i:=i) (x:=ys[i]) (by rw [List.getElem?_eq_getElem hy]);rw [List.getElem?_eq_getElem hi,e] at hv';cases hv';obtain ⟨a,jts,e1,e2,e3,e4⟩:=item _ _ (List.getElem_mem hy) ry;exact ⟨a,jts,_,e1,e2,e3,e4⟩
 refine Tim.FQ (κ:=tuples' true) (rk:=Tim.nQ (fun a b=>Tim.jg (keyOf s.heap a) (keyOf s.heap b)) its) pl.isList (by omega)
  (fun h2 h' kp=>⟨fun Q E hQ=>JG hk T h2 kp hQ,Mr T kp⟩) fun h' D c out kp hD hd hp hs=> ?_
 obtain ⟨zs,z1,z2⟩:=JB rv hp;have hzl:zs.length<=sizeLine:=by rw [z2.length_eq];omega
 refine ⟨.ref D,_,I.laid (t':=s.toks) kp hD (show cM X.prog X.w _ h' _ (.lst zs) from ⟨hzl,out,c,z1,hd⟩),rfl,q D zs (I.hok.fresh hD) z2 ?_⟩
 have hs':out.Pairwise (fun u v=>u∈its/\v∈its/\Tim.jg (keyOf s.heap v) (keyOf s.heap u)=false):=by
  refine List.Pairwise.imp_of_mem (fun {u v} hu hv huv=> ?_) hs;have mu:=hp.mem_iff.mp hu;have mv:=hp.mem_iff.mp hv;exact ⟨mu,mv,Tim.Q5 (Tim.Ib (keyOf s.heap)) mv huv⟩
 have zin:∀z∈zs,z∈ys:=fun z hz=>z2.mem_iff.mp hz
 have zp:zs.Pairwise (fun x y=>x∈zs/\y∈zs):=by
  rw [List.pairwise_iff_getElem];intro i j hi hj _;exact ⟨List.getElem_mem hi,List.getElem_mem hj⟩
 have:=zc (S:=fun x y=>x∈ys->y∈ys->Tim.jg (f y) (f x)=false) (fun x y u v rx ry huv hx hy=>by
  obtain ⟨a,jts,rfl,e2,e3,e4⟩:=item x u hx rx;obtain ⟨b,kts,rfl,g2,g3,g4⟩:=item y v hy ry;have:=huv.2.2;rwa [oY e2 e3,oY g2 g3] at this) z1 hs'
 exact List.Pairwise.imp₂ (fun {x y} (h1:x∈ys->y∈ys->Tim.jg (f y) (f x)=false) (h2:x∈zs/\y∈zs)=>h1 (zin _ h2.1) (zin _ h2.2)) this zp
theorem kh {K:PySem.W.Frag} (hK:X.K=K):iJ X (.builtin "sorted") (Ga K):=by subst hK;exact Hj
end
end L2
set_option Elab.async false
set_option linter.all false
set_option maxRecDepth 100000
set_option maxHeartbeats 4000000
namespace L2
open PySem PySem.Spec PyProof.Rows
section
variable {X:Cx} {k:Nat} {C:Addr} {sp:Sp}
theorem QX {pins:List (Addr×Obj)} {σ:St} {H:Hp} {s:Shared} {Q:VK} {us:List Value} {vs:List V} {f:Addr} {fd:FuncData} {ps:List Str} (G:cu X.prog X.w X.K X.mg X.base jY k f fd ps sp) (hr:dg (k+1) X.A) (hb:Binds X.K fd ps [])
 (I:Inv X pins σ H s) (r:Vals vs us) (q:sp vs H Q E0):wpAny (model X.prog X.w) X.A.in1 (call (.ref f) us) (EP X pins σ Q) X.xe s:=by
 have hlen:us.length=ps.length:=by rw [←r.length];exact G.len _ _ _ _ q
 have hbd:=hb s us I.lF (by rw [List.append_nil];exact hlen);rw [List.append_nil] at hbd;refine wpAny_call (codeAny_mono (G.run X.A.in1 X.stack s H ⟨us,[]⟩ us vs Q E0 hr.in1 I.env0.in1 hbd r q) fun res s' hq=> ?_)
 match res,hq with
 | .error ev,hq=>exact False.elim hq
 | .ok (.ret u),hq=>exact I.after hq
def XH (C:Addr) (sp:Sp):List V->Hp->VK->Prop:=fun xs H Q=>∃(a dx:Addr) (fs:List (Str×V)),xs=[.ref a]/\H a=some (.ins C dx fs)/\sp [.ref a] H (fun v H'=>∃n:Int,v = .int n/\0<=n/\n<2 ^ 62/\Q (.int n) H') E0
theorem K8 (M:MethAt X.prog X.w X.K X.mg X.base k C "__len__" ["self"] sp) (hr:dg (k+1) X.A):iJ X (.builtin "len") (XH C sp):=by
 intro pins s σ H xs us Q I rv h;obtain ⟨f,fd,G,hm,hb⟩:=M;obtain ⟨a,dx,fs,rfl,ea,q⟩:=h;obtain ⟨u,rfl,ru⟩:=rv.one;obtain rfl:u=Value.ref a:=ru;obtain ⟨mm,Fm⟩:=I.fr;obtain ⟨mA,O,_⟩:=j9 I.hok ea;obtain ⟨od,J,_⟩:=O.look;refine PySem.W.len_K Fm I.mod.Ol J hm.at_ hm.fn (cP (QX (us:=[.ref a]) (vs:=[.ref a]) G hr hb I (.cons rfl .nil) q) fun v s' hv=> ?_)
 obtain ⟨x,H',I',rx,n,rfl,n0,n1,q'⟩:=hv;obtain ⟨t,rfl⟩:=rx;exact ⟨⟨n0,by omega⟩,.int n,H',I'.tok _,⟨_,rfl⟩,q'⟩
def aci (C:Addr) (sp:Sp):R2:=fun x y H Q=>∃(a b dx dy:Addr) (fs gs:List (Str×V)),x = .ref a/\y = .ref b/\H a=some (.ins C dx fs)/\H b=some (.ins C dy gs)/\sp [.ref a,.ref b] H (fun v H'=>∃t:Bool,v = .bl t/\Q (.bl t) H') E0
theorem Vo (M:MethAt X.prog X.w X.K X.mg X.base k C "__eq__" ["self","other"] sp) (hr:dg (k+1) X.A):pX X (compareOp .Eq) (aci C sp):=by
 intro pins s σ H x y u v Q I rx ry h;obtain ⟨f,fd,G,hm,hb⟩:=M;obtain ⟨a,b,dx,dy,fs,gs,rfl,rfl,ea,eb,q⟩:=h;obtain rfl:u=Value.ref a:=rx;obtain rfl:v=Value.ref b:=ry;obtain ⟨mA,O,_⟩:=j9 I.hok ea;obtain ⟨od,J,_⟩:=O.look;obtain ⟨mB,O2,_⟩:=j9 I.hok eb;obtain ⟨od2,J2,_⟩:=O2.look;obtain ⟨mm,Fm⟩:=I.fr;refine PySem.W.cmp_ofEq (PySem.W.cmp_K hr.Ml Fm I.mod.Ol J J2.type (by simp [PySem.W.notFirst]) hm.at_ hm.fn (cP (z8 (us:=[.ref a,.ref b]) (vs:=[.ref a,.ref b]) (m7:=[]) (ds:=[]) G (hr.mono (Nat.le_succ _)) hb .nil Cu I (.cons rfl (.cons rfl .nil)) q) fun v s' hv=> ?_));obtain ⟨x,H',I',rx,t,rfl,q'⟩:=hv;obtain rfl:v=Value.bool t:=rx;exact ⟨.bl t,H',I',rfl,q'⟩
end
structure IsO (K:PySem.W.Frag) (mg:Str->Option Value) (C:Addr) (nm:Str):Prop where
 bd:mg nm=some (.ref C)
 ha:PySem.W.findIn K (.ref C) "__class__" = some (some (.builtin "object.__class__"))
 hn:PySem.W.specialIn K (.builtin "object.__class__") "__get__" = some (some (.builtin "getset_descriptor.__get__"))
 ht:PySem.W.takesIn K (.builtin "object.__class__")=some true
 hm:PySem.W.mroIn K C (.type "object")=some true
theorem IsO.ty {K:PySem.W.Frag} {mg:Str->Option Value} {C:Addr} {nm:Str} (o:IsO K mg C nm) {H:Hp} {a dx:Addr} {fs:List (Str×V)} (e:H a=some (.ins C dx fs)) (c:Cls K C):qQ K H (.ref a) (.ref C):= .ins e c o.ha o.hn o.ht o.hm
end L2
set_option Elab.async false
set_option linter.all false
set_option maxRecDepth 100000
set_option maxHeartbeats 4000000
namespace L2
open PySem PySem.Spec PyProof.Rows
section
variable {X:Cx} {k:Nat} {C:Addr} {sp:Sp}
theorem QW {pins:List (Addr×Obj)} {σ:St} {H:Hp} {s:Shared} {Q:VK} {us:List Value} {vs:List V} {f:Addr} {fd:FuncData} {ps:List Str} (G:cu X.prog X.w X.K X.mg X.base jY k f fd ps sp) (hr:dg (k+2) X.A) (hb:Binds X.K fd ps [])
 (I:Inv X pins σ H s) (r:Vals vs us) (q:sp vs H Q E0):wpAny (model X.prog X.w) X.A.in1.in1 (call (.ref f) us) (EP X pins σ Q) X.xe s:=by
 have hlen:us.length=ps.length:=by rw [←r.length];exact G.len _ _ _ _ q
 have hbd:=hb s us I.lF (by rw [List.append_nil];exact hlen);rw [List.append_nil] at hbd;refine wpAny_call (codeAny_mono (G.run X.A.in1.in1 X.stack s H ⟨us,[]⟩ us vs Q E0 (dg.in1 (dg.in1 hr)) I.env0.in1.in1 hbd r q) fun res s' hq=> ?_)
 match res,hq with
 | .error ev,hq=>exact False.elim hq
 | .ok (.ret u),hq=>exact I.after hq
def Xz (C:Addr) (sp:Sp):List V->Hp->VK->Prop:=fun xs H Q=>∃(a dx:Addr) (fs:List (Str×V)),xs=[.ref a]/\H a=some (.ins C dx fs)/\sp [.ref a] H (fun v H'=>∃t:Str,v = .str t/\Q (.str t) H') E0
theorem zG (M:MethAt X.prog X.w X.K X.mg X.base k C "__str__" ["self"] sp) (hr:dg (k+2) X.A):iJ X (.type "str") (Xz C sp):=by
 intro pins s σ H xs us Q I rv h;obtain ⟨f,fd,G,hm,hb⟩:=M;obtain ⟨a,dx,fs,rfl,ea,q⟩:=h;obtain ⟨u,rfl,ru⟩:=rv.one;obtain rfl:u=Value.ref a:=ru;obtain ⟨mA,O,_⟩:=j9 I.hok ea;obtain ⟨od,J,_⟩:=O.look;refine PySem.W.kso_call (dg.Ml (dg.in1 (dg.in1 hr))) I.lF J hm.at_ hm.fn (cP (QW (us:=[.ref a]) (vs:=[.ref a]) G hr hb I (.cons rfl .nil) q) fun v s' hv=> ?_)
 obtain ⟨x,H',I',rx,t,rfl,q'⟩:=hv;obtain ⟨tk,rfl⟩:=rx;exact ⟨.str t,H',I',⟨_,rfl⟩,q'⟩
end
end L2
set_option Elab.async false
set_option linter.all false
set_option maxRecDepth 100000
set_option maxHeartbeats 4000000
namespace Prf
open PySem L2
def top (i:Nat):Stmt:=PySem.Challenge.pw_fewnotes_k49_no_such_hand.main.body.getD i (.Pass ⟨0,0,0,0⟩)
abbrev d7:Stmt:=top 8
abbrev d9:Stmt:=top 9
abbrev cF:Stmt:=top 12
abbrev fU:Stmt:=top 13
abbrev dZ:Stmt:=top 15
abbrev dz:Stmt:=top 16
abbrev d8:Stmt:=top 17
abbrev jB:Stmt:=top 18
abbrev cN:Stmt:=top 20
abbrev dM:Stmt:=top 21
abbrev dh:Stmt:=top 22
abbrev cB:Stmt:=inClass (top 24) 0
abbrev cG:Stmt:=inClass (top 24) 1
abbrev bV:Stmt:=inClass (top 24) 2
abbrev bL:Stmt:=inClass (top 24) 3
abbrev bW:Stmt:=inClass (top 24) 4
abbrev cA:Stmt:=inClass (top 24) 5
abbrev bM:Stmt:=inClass (top 24) 6
abbrev bG:Stmt:=inClass (top 24) 7
abbrev bF:Stmt:=inClass (top 24) 8
abbrev dj:Stmt:=top 25
abbrev mj:Stmt:=top 27
abbrev jC:Stmt:=top 28
abbrev jG:Stmt:=top 29
abbrev iB:Stmt:=top 30
abbrev iu:Stmt:=top 31
abbrev d_:Stmt:=top 32
abbrev iw:Stmt:=top 33
abbrev gj:Stmt:=top 34
abbrev jF:Stmt:=top 35
abbrev jD:Stmt:=top 36
abbrev eF:Stmt:=top 37
abbrev jE:Stmt:=top 38
abbrev eE:Stmt:=top 39
abbrev iz:Stmt:=top 40
abbrev iy:Stmt:=top 41
abbrev cO:Stmt:=top 42
abbrev rK:Stmt:=top 43
structure qY (mg:Str->Option Value):Prop where
 sS:mg "ValueError" = none
 ZQ:mg "all" = none
 PX:mg "bool" = none
 Uv:mg "enumerate" = none
 Uu:mg "int" = none
 aZ:mg "isinstance" = none
 fX:mg "len" = none
 mO:mg "list" = none
 Ut:mg "max" = none
 aiy:mg "min" = none
 fD:mg "range" = none
 sO:mg "sorted" = none
 El:mg "str" = none
 aix:mg "sum" = none
 A_:mg "tuple" = none
 ZP:mg "zip" = none
theorem BR:aY ["value"] ["value"] (aA d7):=⟨rfl,rfl,rfl,by decide +kernel,rfl,by decide +kernel,by decide +kernel⟩
theorem BX:aY ["value","count"] ["value","count"] (aA d9):=⟨rfl,rfl,rfl,by decide +kernel,rfl,by decide +kernel,by decide +kernel⟩
theorem uZ:aY ["one","other"] ["one","other"] (aA cF):=⟨rfl,rfl,rfl,by decide +kernel,rfl,by decide +kernel,by decide +kernel⟩
theorem FW:aY ["web","place","later"] ["web","place","later"] (aA fU):=⟨rfl,rfl,rfl,by decide +kernel,rfl,by decide +kernel,by decide +kernel⟩
theorem BL:aY ["named","bare","name"] ["named","bare","name"] (aA dZ):=⟨rfl,rfl,rfl,by decide +kernel,rfl,by decide +kernel,by decide +kernel⟩
theorem i_:aY ["web","named","knowns","place","bare","known","earlier"] ["web","named","knowns","place"] (aA dz):=⟨rfl,rfl,rfl,by decide +kernel,rfl,by decide +kernel,by decide +kernel⟩
theorem BW:aY ["name","known"] ["name","known"] (aA d8):=⟨rfl,rfl,rfl,by decide +kernel,rfl,by decide +kernel,by decide +kernel⟩
theorem BP:aY ["known","more","hand"] ["known","more"] (aA jB):=⟨rfl,rfl,rfl,by decide +kernel,rfl,by decide +kernel,by decide +kernel⟩
theorem nO:aY ["record","lines"] ["record"] (aA cN):=⟨rfl,rfl,rfl,by decide +kernel,rfl,by decide +kernel,by decide +kernel⟩
theorem z7:aY ["note"] ["note"] (aA dM):=⟨rfl,rfl,rfl,by decide +kernel,rfl,by decide +kernel,by decide +kernel⟩
theorem yJ:aY ["touch"] ["touch"] (aA dh):=⟨rfl,rfl,rfl,by decide +kernel,rfl,by decide +kernel,by decide +kernel⟩
theorem tX:aY ["self","hands"] ["self","hands"] (aA cB):=⟨rfl,rfl,rfl,by decide +kernel,rfl,by decide +kernel,by decide +kernel⟩
theorem eV:aY ["self","hand","kind","cell","place","name","found","brought"] ["self","hand","kind","cell"] (aA cG):=⟨rfl,rfl,rfl,by decide +kernel,rfl,by decide +kernel,by decide +kernel⟩
theorem rJ:aY ["self"] ["self"] (aA bV):=⟨rfl,rfl,rfl,by decide +kernel,rfl,by decide +kernel,by decide +kernel⟩
theorem qF:aY ["self"] ["self"] (aA bL):=⟨rfl,rfl,rfl,by decide +kernel,rfl,by decide +kernel,by decide +kernel⟩
theorem ig:aY ["self","hand","known"] ["self","hand"] (aA bW):=⟨rfl,rfl,rfl,by decide +kernel,rfl,by decide +kernel,by decide +kernel⟩
theorem kZ:aY ["self","other"] ["self"] (aA cA):=⟨rfl,rfl,rfl,by decide +kernel,rfl,by decide +kernel,by decide +kernel⟩
theorem qG:aY ["self","other"] ["self","other"] (aA bM):=⟨rfl,rfl,rfl,by decide +kernel,rfl,by decide +kernel,by decide +kernel⟩
theorem pB:aY ["self"] ["self"] (aA bG):=⟨rfl,rfl,rfl,by decide +kernel,rfl,by decide +kernel,by decide +kernel⟩
theorem pA:aY ["self"] ["self"] (aA bF):=⟨rfl,rfl,rfl,by decide +kernel,rfl,by decide +kernel,by decide +kernel⟩
theorem yK:aY ["places","hand"] ["places","hand"] (aA dj):=⟨rfl,rfl,rfl,by decide +kernel,rfl,by decide +kernel,by decide +kernel⟩
theorem vC:aY ["script","total","cell"] ["script"] (aA mj):=⟨rfl,rfl,rfl,by decide +kernel,rfl,by decide +kernel,by decide +kernel⟩
theorem wB:aY ["number","place","one","two"] ["number","place"] (aA jC):=⟨rfl,rfl,rfl,by decide +kernel,rfl,by decide +kernel,by decide +kernel⟩
theorem wD:aY ["bag","many","cell","found"] ["bag","many"] (aA jG):=⟨rfl,rfl,rfl,by decide +kernel,rfl,by decide +kernel,by decide +kernel⟩
theorem JQ:aY ["bag"] ["bag"] (aA iB):=⟨rfl,rfl,rfl,by decide +kernel,rfl,by decide +kernel,by decide +kernel⟩
theorem oN:aY ["bag","hands","cells","loads","apart","kinds","hand","kind"] ["bag","hands","cells","loads","apart"] (aA iu):=⟨rfl,rfl,rfl,by decide +kernel,rfl,by decide +kernel,by decide +kernel⟩
theorem gJ:aY ["bag","hands","size","cells","loads","apart","many"] ["bag","hands"] (aA d_):=⟨rfl,rfl,rfl,by decide +kernel,rfl,by decide +kernel,by decide +kernel⟩
theorem cI:aY ["touches","hands","rows","called","brought","many","hand","kind","cell","got","fresh","i","other","sort","there","meets"] ["touches","hands"] (aA iw):=⟨rfl,rfl,rfl,by decide +kernel,rfl,by decide +kernel,by decide +kernel⟩
theorem zj:aY ["found","due"] ["found","due"] (aA gj):=⟨rfl,rfl,rfl,by decide +kernel,rfl,by decide +kernel,by decide +kernel⟩
theorem wC:aY ["lists","found","row"] ["lists"] (aA jF):=⟨rfl,rfl,rfl,by decide +kernel,rfl,by decide +kernel,by decide +kernel⟩
theorem BZ:aY ["bag","hands","far"] ["bag","hands"] (aA jD):=⟨rfl,rfl,rfl,by decide +kernel,rfl,by decide +kernel,by decide +kernel⟩
theorem B_:aY ["found"] ["found"] (aA eF):=⟨rfl,rfl,rfl,by decide +kernel,rfl,by decide +kernel,by decide +kernel⟩
theorem nP:aY ["many","found","e"] ["many"] (aA jE):=⟨rfl,rfl,rfl,by decide +kernel,rfl,by decide +kernel,by decide +kernel⟩
theorem jf:aY ["recorder","door","hand","cell","found","e"] ["recorder","door","hand","cell"] (aA eE):=⟨rfl,rfl,rfl,by decide +kernel,rfl,by decide +kernel,by decide +kernel⟩
theorem tY:aY ["touches","rows","hands","found","at"] ["touches","rows","hands"] (aA iz):=⟨rfl,rfl,rfl,by decide +kernel,rfl,by decide +kernel,by decide +kernel⟩
theorem oO:aY ["recorder","touches","table","hands","counts","ties","known"] ["recorder","touches","table","hands"] (aA iy):=⟨rfl,rfl,rfl,by decide +kernel,rfl,by decide +kernel,by decide +kernel⟩
theorem dU:aY ["bag","recorder","touches","table","hands","door","hand","cell","before","turn"] ["bag","recorder","touches","table","hands"] (aA cO):=⟨rfl,rfl,rfl,by decide +kernel,rfl,by decide +kernel,by decide +kernel⟩
theorem fY:aY ["script","bag","many","good","hands","touches","table","moments","recorder","done","hand","kind","cell"] ["script"] (aA rK):=⟨rfl,rfl,rfl,by decide +kernel,rfl,by decide +kernel,by decide +kernel⟩
structure cg (K:PySem.W.Frag) (C:Addr):Prop where
 cls:Cls K C
 zy:jT K C "web"
 oX:jT K C "named"
 lA:jT K C "knowns"
 oW:jT K C "taken"
 dO:jT K C "places"
section
variable {P:Program} {w:World} {K:PySem.W.Frag} {mg:Str->Option Value} {base:Heap}
def bU (H:Hp) (r b:Addr) (n:Nat):Prop:=∃(ns:List Int) (i f c t:Int),H r=some (.lst [.ref b,.int i,.int f,.int c,.int t])/\H b=some (.lst (ns.map V.int))/\b≠r/\0<=i/\i<=ns.length/\0<=f/\0<=c/\c<=n
theorem bU.keep {H H':Hp} {r b:Addr} {n:Nat} (h:bU H r b n) (k:Same H H'):bU H' r b n:=by
 obtain ⟨ns,i,f,c,t,e1,e2,q⟩:=h;exact ⟨ns,i,f,c,t,k _ _ e1,k _ _ e2,q⟩
theorem bU.kp {H H':Hp} {r b p:Addr} {n:Nat} (h:bU H r b n) (k:Kp p H H') (n1:r≠p) (n2:b≠p):bU H' r b n:=by
 obtain ⟨ns,i,f,c,t,e1,e2,q⟩:=h;exact ⟨ns,i,f,c,t,k _ _ e1 n1,k _ _ e2 n2,q⟩
theorem bU.mono {H:Hp} {r b:Addr} {n m:Nat} (h:bU H r b n) (k:n<=m):bU H r b m:=by
 obtain ⟨ns,i,f,c,t,e1,e2,q0,q1,q2,q3,q4,q5⟩:=h;exact ⟨ns,i,f,c,t,e1,e2,q0,q1,q2,q3,q4,by (clear q4 q3 q2 q1 q0 e2 e1;omega)⟩
theorem bU.lst {H:Hp} {r b:Addr} {n:Nat} (h:bU H r b n):∃ys,H r=some (.lst ys):=by
 obtain ⟨ns,i,f,c,t,e1,_⟩:=h;exact ⟨_,e1⟩
theorem bU.ne {H:Hp} {r b p:Addr} {n:Nat} (h:bU H r b n) (hp:H p=none):p≠r/\p≠b:=by
 obtain ⟨ns,i,f,c,t,e1,e2,_⟩:=h;exact ⟨(aB e1 hp).symm,(aB e2 hp).symm⟩
theorem Kp.new {H H':Hp} {r p:Addr} (k:Kp r H H') (hp:H' p=none) (hr:∃o,H' r=some o):H p=none:=by
 cases e:H p with
 | none=>rfl
 | some o=>
   by_cases n:p=r
   ·subst n
    obtain ⟨o',ho⟩:=hr;rw [hp] at ho;cases ho
   ·rw [k _ _ e n] at hp
    cases hp
theorem bU.at {H:Hp} {r b:Addr} {n:Nat} (h:bU H r b n):∃o,H r=some o:=by
 obtain ⟨ns,i,f,c,t,e1,_⟩:=h;exact ⟨_,e1⟩
theorem bU.tups {H H':Hp} {r b:Addr} {n:Nat} (h:bU H r b n) (k:Kp r H H'):∀a xs,H a=some (HO.tup xs)->H' a=some (HO.tup xs):=by
 obtain ⟨ys,e⟩:=h.lst;exact k.tups e
def Fw (K:PySem.W.Frag):Sp:=fun vs H Q _=>∃(x p:Int),vs=[.int x,.int p]/\0<=p/\p<2 ^ 62 /\ ∀z:Int,0<=z->Q (.int z) H
theorem Rp {f:Addr} {fd:FuncData} (F:jZ K "_law_stir" "_law_stir" jC f fd):cu P w K mg base jY 1 f fd ["number","place"] (Fw K):=by
 refine F.ok wB (fun vs H Q E h=> ?_) (fun cdv A outer s H vs Q E hr h=> ?_)
 ·obtain ⟨x,p,rfl,_⟩:=h
  rfl
 ·obtain ⟨x,p,rfl,p0,p1,k⟩:=h
  refine ⟨_,(aC (aW (i:=2) wB.nd rfl (Or.inl rfl) (bB kW (bB fu (bB fu (bB nW (pv 0) aF) (bB nW (pv 1) aF)) aF) aF))
   (aC (aW (i:=3) wB.nd rfl (Or.inl rfl) (bB kW (bB nW (pv 2) (pv 2)) aF))
   (aH (aX (bB vL (bB kW (bB fu (bB fu (bB nW (pv 3) aF) (bB nW (bB nW (pv 1) (pv 1)) aF)) (bB vL (pv 2) aF)) aF) aF))))), ?_⟩
  refine ⟨_,rfl,_,_,rfl,rfl,.inr ⟨by decide,by decide⟩,_,rfl,_,_,rfl,rfl,.inr ⟨by decide,by decide⟩,_,_,rfl,rfl,_,_,rfl,rfl,_,_,rfl,rfl,(by show (0:Int)<2305843009213693951;decide), ?_⟩;have o0:(0:Int)<=(x*998244353+p*1000000007+5) % 2305843009213693951:=Int.emod_nonneg _ (by decide);have o1:(x*998244353+p*1000000007+5) % 2305843009213693951<2305843009213693951:=Int.emod_lt_of_pos _ (by decide);generalize (x*998244353+p*1000000007+5) % 2305843009213693951=one at o0 o1;refine ⟨_,rfl,_,rfl,_,_,rfl,rfl,.inl ⟨by (clear o1 o0 p1 p0;omega),by (clear o1 o0 p1 p0;omega)⟩,_,_,rfl,rfl,(by show (0:Int)<2305843009213693951;decide), ?_⟩;refine ⟨_,rfl,_,_,rfl,rfl,.inr ⟨by decide,by decide⟩,_,rfl,_,rfl,_,_,rfl,rfl,.inl ⟨by (clear o1 o0 p1;omega),by (clear o1 o0 p0;omega)⟩,_,_,rfl,rfl,.inr ⟨by decide,by decide⟩,_,_,rfl,rfl,_,rfl,_,_,rfl,rfl,(by show Qm _ 3;exact ⟨by decide,by decide⟩),_,_,rfl,rfl,_,_,rfl,rfl,(by show (0:Int)<2305843009213693921;decide),_,_,rfl,rfl,(by show Qm _ 1024;exact ⟨by decide,by decide⟩), ?_⟩;exact k _ (Int.ediv_nonneg (Int.emod_nonneg _ (by decide)) (by decide))
def nJ (K:PySem.W.Frag):Sp:=fun vs H Q _=>∃(r b:Addr) (m:Int) (n:Nat),vs=[.ref r,.int m]/\bU H r b n/\n<1099511627776/\0<m/\m<1329227995784915872903807060280344576 /\ ∀(z:Int) (H':Hp),0<=z->z<m->bU H' r b (n+1)->Kp r H H'->Q (.int z) H'
theorem Rv {f:Addr} {fd:FuncData} (F:jZ K "_law_draw" "_law_draw" jG f fd) (Jx:FnAt P w K mg base 1 "_law_stir" ["number","place"] (Fw K)) (Bt:qY mg):cu P w K mg base jY 2 f fd ["bag","many"] (nJ K):=by
 refine F.ok wD (fun vs H Q E h=> ?_) (fun cdv A outer s H vs Q E hr h=> ?_)
 ·obtain ⟨r,b,m,n,rfl,_⟩:=h
  rfl
 ·obtain ⟨r,b,m,n,rfl,⟨ns,i,f,c,t,hR,hB,nb,i0,i1,f0,c0,c1⟩,hn,m0,m1,k⟩:=h
  have jh:=hr.units
  refine ⟨_,(aC (dN (bY mW (pv 1) aF (bD _)) (aH (aX aF)) bQ)
   (aC (mF (bB fu (aR (aM (K:=K) rfl) (pv 0) aF (fun _ _=>rfl)) aF) (qI (pv 0) aF set_list))
   (aC (dN (PW.pt (z_ (bY uM (aR (aM (K:=K) rfl) (pv 0) aF (fun _ _=>rfl)) aF (bD _)) (vD (bY mW (aR (aM (K:=K) rfl) (pv 0) aF (fun _ _=>rfl)) (aO (aU (K:=K) rfl) (by rfl) Bt.fX dI (ak (aR (aM (K:=K) rfl) (pv 0) aF (fun _ _=>rfl)) au)) (bD _))))) (aH (aX (bB kW (bx Jx (hr.mono (by decide)) (by rfl) (ak (aR (aM (K:=K) rfl) (pv 0) aF (fun _ _=>rfl)) (ak (aR (aM (K:=K) rfl) (pv 0) aF (fun _ _=>rfl)) au))) (pv 1)))) bQ)
   (aC (dN (bY uM (aR (aM (K:=K) rfl) (pv 0) aF (fun _ _=>rfl)) aF (bD _)) (aC (aW (i:=2) wD.nd rfl (Or.inl rfl) (aR (aM (K:=K) rfl) (aR (aM (K:=K) rfl) (pv 0) aF (fun _ _=>rfl)) (aR (aM (K:=K) rfl) (pv 0) aF (fun _ _=>rfl)) (fun _ _=>rfl)))
   (aC (mF (bB fu (aR (aM (K:=K) rfl) (pv 0) aF (fun _ _=>rfl)) aF) (qI (pv 0) aF set_list))
   (aC (dN (bY uM (pv 2) (bB Gg aF aF) (bD _)) (aH (aX (bB kW (bx Jx (hr.mono (by decide)) (by rfl) (ak (bB kW (pv 2) aF) (ak (aR (aM (K:=K) rfl) (pv 0) aF (fun _ _=>rfl)) au))) (pv 1)))) bQ)
   (aH (mF (bB wM (pv 2) (bB Gg aF aF)) (qI (pv 0) aF set_list)))))) bQ)
   (aC (aW (i:=3) wD.nd rfl (Or.inl rfl) (bB kW (aR (aM (K:=K) rfl) (pv 0) aF (fun _ _=>rfl)) (pv 1)))
   (aC (mF (bB Ny (aR (aM (K:=K) rfl) (pv 0) aF (fun _ _=>rfl)) (pv 1)) (qI (pv 0) aF set_list))
   (aH (aX (pv 3))))))))), ?_⟩
  refine ⟨_,rfl,rfl,_,rfl, ?_⟩;refine pC (fun h0=> ?_) (fun h0=> ?_)
  ·have e:m=1:=by injection (of_decide_eq_true h0)
   subst e;exact k 0 H (by decide) (by decide) ⟨ns,i,f,c,t,hR,hB,nb,i0,i1,f0,c0,by (clear h0 m1 m0 jh hn c0 f0 i1 i0 nb hB hR;omega)⟩ (Kp.refl _ _)
  ·
   refine ⟨_,rfl,_,_,_,_,rfl,rfl,bA.of hR,rfl,_,_,rfl,rfl,_,rfl,_,_,_,_,rfl,rfl,hR,rfl, ?_⟩;have k1:Kp r H (upd H r (.lst [.ref b,.int i,.int f,.int (c+1),.int t])):=Kp.set;have pU:(upd H r (.lst [.ref b,.int i,.int f,.int (c+1),.int t])) r=some (.lst [.ref b,.int i,.int f,.int (c+1),.int t]):=aq;have lG:=k1 _ _ hB nb;have ln:(List.map V.int ns).length=ns.length:=List.length_map ..;have yF:(0:Int)<=c+1:=by (clear ln lG pU h0 jh m1 m0 hn c1 f0 i1 i0 nb hB hR;omega)
   have Cr:c+1<2 ^ 62:=by (clear yF ln lG pU h0 jh m1 m0 c0 f0 i1 i0 nb hB hR;omega)
   have md0:∀z:Int,0<=z % m:=fun z=>Int.emod_nonneg _ (by (clear Cr yF ln lG pU h0 jh m1 hn c1 c0 f0 i1 i0 nb hB hR;omega));have md1:∀z:Int,z % m<m:=fun z=>Int.emod_lt_of_pos _ m0;refine ⟨_,rfl,_,_,_,_,rfl,rfl,bA.of pU,rfl,_,_,rfl,rfl,_,rfl, ?_⟩
   by_cases f2:f<2
   ·rw [decide_eq_true f2]
    refine iV ?_;refine ⟨_,rfl,_,_,_,_,rfl,rfl,bA.of pU,rfl,_,rfl,_,_,_,_,rfl,rfl,bA.of pU,rfl,b,_,rfl,.inl (bA.of lG),rfl,_,rfl, ?_⟩;refine pC (fun h1=> ?_) (fun h1=> ?_)
    ·refine ⟨_,rfl,_,_,_,_,rfl,rfl,bA.of pU,rfl,_,rfl,_,_,_,_,rfl,rfl,bA.of pU,rfl,t,c+1,rfl,yF,Cr,fun z z0=> ?_⟩
     refine ⟨_,rfl,_,_,rfl,rfl,m0, ?_⟩;exact k _ _ (md0 z) (md1 z) ⟨ns,i,f,c+1,t,pU,lG,nb,i0,i1,f0,yF,by (clear z0 h1 f2 Cr yF ln lG pU h0 jh m1 m0 hn c0 f0 i1 i0 nb hB hR;omega)⟩ k1
    ·have hlt:i<ns.length:=by
      have:¬i=(ns.length:Int):=fun z=>h1 (decide_eq_true (by rw [ln,z]));omega
     obtain ⟨cell,hc,_⟩:∃cell:Int,uX (ns.map V.int) i=some (V.int cell)/\True:=by
      obtain ⟨m',rfl⟩:=Int.eq_ofNat_of_zero_le i0;have:m'<ns.length:=by (clear h1 lG pU i1 i0 hR f2 Cr yF ln h0 jh m1 m0 hn c1 c0 f0 nb hB;omega)
      exact ⟨ns[m'],bZ (by simp [this]),trivial⟩
     refine ⟨_,rfl,_,_,_,_,rfl,rfl,bA.of pU,rfl,_,_,rfl,rfl,_,rfl, ?_⟩;rw [decide_eq_true f2];refine iV ?_;refine ⟨_,rfl,_,_,_,_,rfl,rfl,bA.of pU,rfl,_,rfl,_,_,_,_,rfl,rfl,bA.of pU,rfl,_,_,_,_,rfl,rfl,bA.of lG,hc, ?_⟩;refine ⟨_,rfl,_,_,_,_,rfl,rfl,bA.of pU,rfl,_,_,rfl,rfl,_,rfl,_,_,_,_,rfl,rfl,pU,rfl, ?_⟩;have k2:Kp r (upd H r (.lst [.ref b,.int i,.int f,.int (c+1),.int t])) (upd (upd H r (.lst [.ref b,.int i,.int f,.int (c+1),.int t])) r (.lst [.ref b,.int (i+1),.int f,.int (c+1),.int t])):=Kp.set;have OJ:(upd (upd H r (.lst [.ref b,.int i,.int f,.int (c+1),.int t])) r (.lst [.ref b,.int (i+1),.int f,.int (c+1),.int t])) r=some (.lst [.ref b,.int (i+1),.int f,.int (c+1),.int t]):=aq;have hB2:=k2 _ _ lG nb;refine ⟨_,rfl,_,_,rfl,rfl,(by show Tt 10 18;exact ⟨by decide,by decide,by decide⟩),_,_,rfl,rfl,_,rfl, ?_⟩;refine pC (fun h2=> ?_) (fun h2=> ?_)
     ·refine ⟨_,rfl,_,_,rfl,rfl,(by show (0:Int)<2305843009213693951;decide),_,rfl,_,_,_,_,rfl,rfl,bA.of OJ,rfl,_,c+1,rfl,yF,Cr,fun z z0=> ?_⟩
      refine ⟨_,rfl,_,_,rfl,rfl,m0, ?_⟩;exact k _ _ (md0 z) (md1 z) ⟨ns,i+1,f,c+1,t,OJ,hB2,nb,by (clear z0 h2 hB2 OJ hc hlt h1 f2 Cr yF ln lG pU h0 jh m1 m0 hn c1 c0 f0 i1 nb hB hR;omega),by (clear z0 h2 hB2 OJ hc h1 f2 Cr yF ln lG pU h0 jh m1 m0 hn c1 c0 f0 i1 i0 nb hB hR;omega),f0,yF,by (clear z0 h2 hB2 OJ hc hlt h1 f2 Cr yF ln lG pU h0 jh m1 m0 hn c0 f0 i1 i0 nb hB hR;omega)⟩ (k1.trans k2)
     ·have hbig:(0:Int)<=cell - 10 ^ ((18:Int).toNat):=by
       have h2':(1000000000000000000:Int)<=cell:=by simpa using h2
       show (0:Int)<=cell - 1000000000000000000
       (clear h2 hB2 OJ hc hlt h1 f2 Cr yF ln lG pU h0 jh m1 m0 hn c1 c0 f0 i1 i0 nb hB hR;omega)
      refine ⟨_,rfl,_,_,rfl,rfl,(by show Tt 10 18;exact ⟨by decide,by decide,by decide⟩),_,_,rfl,rfl,_,rfl,_,_,_,_,rfl,rfl,OJ,rfl, ?_⟩;have V7:(upd (upd (upd H r (.lst [.ref b,.int i,.int f,.int (c+1),.int t])) r (.lst [.ref b,.int (i+1),.int f,.int (c+1),.int t])) r (.lst [.ref b,.int (i+1),.int (cell - 10 ^ ((18:Int).toNat)),.int (c+1),.int t])) r=some (.lst [.ref b,.int (i+1),.int (cell - 10 ^ ((18:Int).toNat)),.int (c+1),.int t]):=aq;have k3:Kp r (upd (upd H r (.lst [.ref b,.int i,.int f,.int (c+1),.int t])) r (.lst [.ref b,.int (i+1),.int f,.int (c+1),.int t])) (upd (upd (upd H r (.lst [.ref b,.int i,.int f,.int (c+1),.int t])) r (.lst [.ref b,.int (i+1),.int f,.int (c+1),.int t])) r (.lst [.ref b,.int (i+1),.int (cell - 10 ^ ((18:Int).toNat)),.int (c+1),.int t])):=Kp.set;have hB3:=k3 _ _ hB2 nb;refine ⟨_,rfl,_,_,_,_,rfl,rfl,bA.of V7,rfl,_,rfl,_,_,rfl,rfl,m0, ?_⟩;refine ⟨_,rfl,_,_,_,_,rfl,rfl,bA.of V7,rfl,_,rfl,_,_,rfl,rfl,⟨m0,m1⟩,_,rfl,_,_,_,_,rfl,rfl,V7,rfl, ?_⟩;refine ⟨_,rfl, ?_⟩;refine k _ _ (md0 _) (md1 _) ⟨ns,i+1,_,c+1,t,aq, ?_,nb,by (clear hB3 V7 hbig h2 hB2 OJ hc hlt h1 f2 Cr yF ln lG pU h0 jh m1 m0 hn c1 c0 f0 i1 nb hB hR;omega),by (clear hB3 V7 hbig h2 hB2 OJ hc h1 f2 Cr yF ln lG pU h0 jh m1 m0 hn c1 c0 f0 i1 i0 nb hB hR;omega),Int.ediv_nonneg hbig (by (clear hB3 V7 hbig h2 hB2 OJ hc hlt h1 f2 Cr yF ln lG pU h0 jh m1 hn c1 c0 f0 i1 i0 nb hB hR;omega)),yF,by (clear hB3 V7 hbig h2 hB2 OJ hc hlt h1 f2 Cr yF ln lG pU h0 jh m1 m0 hn c0 f0 i1 i0 nb hB hR;omega)⟩ (((k1.trans k2).trans k3).trans Kp.set);rw [aN nb];exact hB3
   ·have Wc:decide (f<2)=false:=decide_eq_false f2
    rw [Wc];refine gb ?_;refine ⟨_,rfl,_,_,_,_,rfl,rfl,bA.of pU,rfl,_,_,rfl,rfl,_,rfl, ?_⟩;rw [Wc];refine gb ?_;refine ⟨_,rfl,_,_,_,_,rfl,rfl,bA.of pU,rfl,_,rfl,_,_,rfl,rfl,m0, ?_⟩;refine ⟨_,rfl,_,_,_,_,rfl,rfl,bA.of pU,rfl,_,rfl,_,_,rfl,rfl,⟨m0,m1⟩,_,rfl,_,_,_,_,rfl,rfl,pU,rfl, ?_⟩;refine ⟨_,rfl, ?_⟩;refine k _ _ (md0 _) (md1 _) ⟨ns,i,_,c+1,t,aq, ?_,nb,by (clear Wc f2 Cr yF ln lG pU h0 jh m1 m0 hn c1 c0 f0 i1 nb hB hR;omega),by (clear Wc f2 Cr yF ln lG pU h0 jh m1 m0 hn c1 c0 f0 i0 nb hB hR;omega),Int.ediv_nonneg f0 (by (clear Wc f2 Cr yF ln lG pU h0 jh m1 hn c1 c0 f0 i1 i0 nb hB hR;omega)),yF,by (clear Wc f2 Cr yF ln lG pU h0 jh m1 m0 hn c0 f0 i1 i0 nb hB hR;omega)⟩ (k1.trans Kp.set);rw [aN nb];exact lG
def MJ (K:PySem.W.Frag):Sp:=fun vs H Q _=>∃(a:Addr) (ns:List Int),vs=[.ref a]/\bA K H a (ns.map V.int)/\ns.length<=63 /\ ∀(r b:Addr) (H':Hp),H r=none->H b=none->bU H' r b 0->Same H H'->Q (.ref r) H'
theorem Vt {f:Addr} {fd:FuncData} (F:jZ K "_law_bag" "_law_bag" mj f fd) (Bt:qY mg):cu P w K mg base jY 1 f fd ["script"] (MJ K):=by
 refine F.ok vC (fun vs H Q E h=> ?_) (fun cdv A outer s H vs Q E hr h=> ?_)
 ·obtain ⟨a,ns,rfl,_⟩:=h
  rfl
 ·obtain ⟨a,ns,rfl,hs,hlen,k⟩:=h
  refine ⟨_,(aC (aW (i:=1) vC.nd rfl (Or.inl rfl) aF)
   (aC (mz PassesOwn.never rfl (iC (K:=K) rfl (pv 0)) (bw (i:=2) vC.nd rfl (Or.inl rfl))
   (aH (aW (i:=1) vC.nd rfl (Or.inl rfl) (bB kW (bB fu (bB fu (bB nW (pv 1) aF) (bB kW (pv 2) aF)) aF) aF))))
   (aH (aX (bO (ak (dW (fj (K:=K) rfl) (by rfl) Bt.mO jH (ak (pv 0) au)) (ak aF (ak aF (ak aF (ak (pv 1) au)))))))))), ?_⟩
  refine ⟨_,rfl,a,rfl,⟨_,hs⟩,xJ (K:=K) (a:=a) (xs:=ns.map V.int) (fun i σ H2=>∃(t:Int) (v:Option V),σ=[some (.ref a),some (.int t),v]/\H2=H)
   ⟨1,none,rfl,rfl⟩ (fun i σ H2 _ ⟨_,_,_,e⟩=>by rw [e];exact hs) ?_ ?_⟩
  ·rintro i y σ H2 hi ⟨t,v,rfl,rfl⟩
   obtain ⟨z,rfl⟩:∃z,y=V.int z:=by
    rw [List.getElem?_map] at hi;cases e:ns[i]? with
    | none=>rw [e] at hi;cases hi
    | some z=>rw [e] at hi;exact ⟨z,(Option.some.inj hi).symm⟩
   refine ⟨_,rfl,_,_,rfl,rfl,.inr ⟨by decide,by decide⟩,_,rfl,_,_,rfl,rfl,(by show (0:Int)<2305843009213693951;decide),_,_,rfl,rfl,_,_,rfl,rfl,_,_,rfl,rfl,(by show (0:Int)<2305843009213693951;decide), ?_⟩;exact ⟨_,_,rfl,rfl⟩
  ·rintro σ H2 ⟨t,v,rfl,rfl⟩
   refine ⟨_,rfl,a,_,rfl,.inl hs,fun b hb=> ?_⟩;refine ⟨_,rfl,(by show 5<=sizeLine;decide),fun r hr'=> ?_⟩;have sm:=aD (o:=HO.lst (ns.map V.int)) hb;exact k r b _ (sm.free hr') hb ⟨ns,0,0,0,t,aq,aD hr' _ _ aq,aB aq hr',by decide,by (clear hr' hb hlen;omega),by decide,by decide,by decide⟩ (sm.trans (aD hr'))
section
variable {D r b:Addr} {te:TE} {Q:VK} {rest:St} {H1:Hp} {n bn:Nat}
theorem G7 {zs:List Int} {z:Int} {p:Nat->Int->Prop} {i:Nat} (hl:zs.length=i) (h:∀j z,zs[j]? = some z->p j z) (hz:p i z):∀j y,(zs++[z])[j]? = some y->p j y:=by
 intro j y e
 by_cases hj:j<zs.length
 ·rw [List.getElem?_append_left hj] at e
  exact h j y e
 ·rw [List.getElem?_append_right (by (clear e hl;omega))] at e
  have:j - zs.length=0:=by
   have:=(List.getElem?_eq_some_iff.mp e).1;simp at this;omega
  rw [this] at e;cases e;have:j=i:=by omega
  rw [this];exact hz
theorem G_ (p:Nat->Int->Prop) (hD:H1 D=none) (hB:bU H1 r b bn) (hx:n<=100000)
 (hs:∀i H (F:VK),i<n->Kp r H1 H->bU H r b (bn+i)->(∀z H',p i z->Kp r H H'->bU H' r b (bn+i+1)->F (.int z) H')->te (some (.int (0+i))::rest) H F)
 (hd:∀H (zs:List Int),zs.length=n->(∀i z,zs[i]? = some z->p i z)->H D=some (.lst (zs.map V.int))->Kp r H1 H->bU H r b (bn+n)->Q (.ref D) H):oH (Tp 0 n) (gM 0) JK te Q D (none::rest) H1:=by
 obtain ⟨nr,nb⟩:=hB.ne hD;have mv:∀{H:Hp} {o:HO},Kp r H1 H->Kp r H1 (upd H D o):=fun k c u e m=>by rw [aN (aB e hD)];exact k c u e m
 refine iW (lo:=0) (n:=n) (fun i σ H=>(∃v,σ=v::rest) /\ ∃zs:List Int,zs.length=i/\(∀j z,zs[j]? = some z->p j z)/\H D=some (.lst (zs.map V.int))/\Kp r H1 H/\bU H r b (bn+i)) ⟨⟨none,rfl⟩,[],rfl,fun j z e=>(by cases e),aq,.of_same (aD hD),hB.keep (aD hD)⟩ ?_ (fun σ H ⟨_,zs,hl,hp,e,k,B⟩=>hd H zs hl hp e k B);rintro i σ H hi ⟨⟨v,rfl⟩,zs,hl,hp,e,k1,B1⟩;refine hs i H _ hi k1 B1 fun z H' hz k2 B2=> ?_;refine ⟨_,k2 _ _ e nr, ?_,⟨_,rfl⟩,zs++[z],by simp [hl],G7 hl hp hz, ?_,mv (k1.trans k2),B2.kp Kp.set nr.symm nb.symm⟩
 ·rw [List.length_map,sizeLine_eq];omega
 ·rw [aq];simp
end
abbrev bK:=Int×Str×Int
def tD (x:bK):PyData:= .tuple [.int x.1,.str x.2.1,.int x.2.2]
theorem uq (x:bK):Qt (tD x)=true:=rfl
def ZS (x:bK):Prop:=(0<=x.1/\x.1<8)/\(x.2.1 = "load" \/ x.2.1 = "store" \/ x.2.1 = "swap")/\(0<=x.2.2/\x.2.2<20)
theorem Jk {H:Hp} {t:Addr} {x:bK} (h:H t=some (.tup [.int x.1,.str x.2.1,.int x.2.2])):Dat H (.ref t) (tD x):=by
 simp only [tD,Dat];exact ⟨t,_,rfl,h,by simp only [aL,Dat,and_self]⟩
theorem DR {H:Hp} {v:V} {d:PyData} (h:Dat H v d):aL H [v] [d]:=by
 simp only [aL,and_true];exact h
def gn (H:Hp) (a:Addr) (ws:List bK):Prop:=∃vs,H a=some (.lst vs)/\aL H vs (ws.map tD)
theorem gn.same {H H':Hp} {a:Addr} {ws:List bK} (h:gn H a ws) (k:Same H H'):gn H' a ws:=by
 obtain ⟨vs,e,d⟩:=h;exact ⟨vs,k _ _ e,aL.keep k.tups _ (cj _ uq ws) d⟩
theorem gn.kp {H H':Hp} {a r:Addr} {ws:List bK} {ys:List V} (h:gn H a ws) (hr:H r=some (.lst ys)) (k:Kp r H H') (n:a≠r):gn H' a ws:=by
 obtain ⟨vs,e,d⟩:=h;exact ⟨vs,k _ _ e n,aL.keep (k.tups hr) _ (cj _ uq ws) d⟩
theorem oA {H:Hp} {v:V} {x:bK} (h:Dat H v (tD x)):∃t,v = .ref t/\H t=some (.tup [.int x.1,.str x.2.1,.int x.2.2]):=by
 simp only [tD,Dat] at h;obtain ⟨t,vs,e,q,d⟩:=h
 match vs,d with
 | [a,b,c],d=>
   simp only [aL,Dat,and_true] at d;obtain ⟨rfl,rfl,rfl⟩:=d;exact ⟨t,e,q⟩
 | [],d=>simp only [aL] at d
 | [_],d=>simp only [aL,and_false] at d
 | [_,_],d=>simp only [aL,and_false] at d
 | _::_::_::_::_,d=>simp only [aL,and_false] at d
theorem qZ {H:Hp} {a:Addr} {ws:List bK} {i:Nat} {x:bK} (h:gn H a ws) (e:ws[i]? = some x):∃vs t,H a=some (.lst vs)/\vs[i]? = some (.ref t)/\H t=some (.tup [.int x.1,.str x.2.1,.int x.2.2]):=by
 obtain ⟨vs,ha,d⟩:=h;obtain ⟨v,ev,dv⟩:=d.getD (i:=i) (d:=tD x) (by rw [List.getElem?_map,e];rfl);obtain ⟨t,rfl,ht⟩:=oA dv;exact ⟨vs,t,ha,ev,ht⟩
def zY (K:PySem.W.Frag):Sp:=fun vs H Q _=>∃(r b:Addr) (n:Nat),vs=[.ref r]/\bU H r b n/\n<549755813888 /\ ∀(z:Int) (H':Hp),1<=z->z<=8->bU H' r b (n+2)->Kp r H H'->Q (.int z) H'
theorem Yl (n:Int) (h0:0<=n) (h1:n<6):∃z:Int,uX [V.int 2,V.int 3,V.int 4,V.int 2,V.int 3,V.int 1] n=some (V.int z)/\1<=z/\z<=4:=by
 have:n=0\/n=1\/n=2\/n=3\/n=4\/n=5:=by omega
 rcases this with rfl|rfl|rfl|rfl|rfl|rfl
 ·exact ⟨2,rfl,by decide,by decide⟩
 ·exact ⟨3,rfl,by decide,by decide⟩
 ·exact ⟨4,rfl,by decide,by decide⟩
 ·exact ⟨2,rfl,by decide,by decide⟩
 ·exact ⟨3,rfl,by decide,by decide⟩
 ·exact ⟨1,rfl,by decide,by decide⟩
theorem Oa {f:Addr} {fd:FuncData} (F:jZ K "_law_hands" "_law_hands" iB f fd) (b_:FnAt P w K mg base 2 "_law_draw" ["bag","many"] (nJ K)):cu P w K mg base jY 3 f fd ["bag"] (zY K):=by
 refine F.ok JQ (fun vs H Q E h=> ?_) (fun cdv A outer s H vs Q E hr h=> ?_)
 ·obtain ⟨r,b,n,rfl,_⟩:=h
  rfl
 ·obtain ⟨r,b,n,rfl,B0,hn,k⟩:=h
  refine ⟨_,(aC (dN (bY mW (bx b_ (hr.mono (by decide)) (by rfl) (ak (pv 0) (ak aF au))) aF (bD _)) (aH (aX (bB fu aF (bx b_ (hr.mono (by decide)) (by rfl) (ak (pv 0) (ak aF au)))))) bQ)
   (aH (aX (aR (aM (K:=K) rfl) (bO (ak aF (ak aF (ak aF (ak aF (ak aF (ak aF au))))))) (bx b_ (hr.mono (by decide)) (by rfl) (ak (pv 0) (ak aF au))) (fun _ _=>rfl))))), ?_⟩
  refine ⟨_,rfl,r,b,8,n,rfl,B0,by omega,by decide,by decide,fun z H1 z0 z1 B1 k1=>⟨rfl,_,rfl, ?_⟩⟩;refine pC (fun _=> ?_) (fun _=> ?_)
  ·refine ⟨_,rfl,r,b,4,_,rfl,B1,by (clear z1 z0;omega),by decide,by decide,fun y H2 y0 y1 B2 k2=>⟨_,_,rfl,rfl, ?_⟩⟩
   exact k _ H2 (by (clear y1 z1 z0 hn;omega)) (by (clear y0 z1 z0 hn;omega)) B2 (k1.trans k2)
  ·refine ⟨(by show 6<=sizeLine;decide),fun p hp=> ?_⟩
   have sp:=aD (o:=HO.lst [V.int 2,V.int 3,V.int 4,V.int 2,V.int 3,V.int 1]) hp;obtain ⟨Ae,_⟩:=B1.ne hp;refine ⟨_,rfl,r,b,6,_,rfl,B1.keep sp,by (clear Ae hp z1 z0;omega),by decide,by decide,fun y H2 y0 y1 B2 k2=> ?_⟩;obtain ⟨v,ev,v0,v1⟩:=Yl y y0 y1;exact ⟨_,_,_,_,rfl,rfl,bA.of (k2 _ _ aq Ae),ev,k v H2 v0 (by (clear v0 ev y1 y0 Ae hp z1 z0 hn;omega)) B2 ((k1.trans (.of_same sp)).trans k2)⟩
theorem Te {α:Type} {xs:List α} {n:Int} (h0:0<=n) (h1:n<xs.length):∃v,uX xs n=some v/\xs[n.toNat]? = some v:=by
 obtain ⟨m,rfl⟩:=Int.eq_ofNat_of_zero_le h0;have:m<xs.length:=by (clear h0;omega)
 exact ⟨xs[m],bZ (by simp [this]),by simp [this]⟩
def Z8 (k:Str):Prop:=k = "load" \/ k = "store" \/ k = "swap"
theorem VL {H:Hp} {p1 p2 p3:Addr} (h1:H p1=some (.lst [.str "load",.str "store",.str "swap"])) (h2:H p2=some (.lst [.str "load",.str "load",.str "swap",.str "load"])) (h3:H p3=some (.lst [.str "store",.str "swap",.str "load",.str "store"])) (n:Int) (n0:0<=n) (n1:n<3):
 ∃(q:Addr) (ks:List Str),uX [V.ref p1,V.ref p2,V.ref p3] n=some (V.ref q)/\H q=some (.lst (ks.map V.str))/\3<=ks.length/\ks.length<=4/\(∀k∈ks,Z8 k)/\(q=p1\/q=p2\/q=p3):=by
 have:n=0\/n=1\/n=2:=by (clear h3 h2 h1;omega)
 rcases this with rfl|rfl|rfl
 ·refine ⟨p1,["load","store","swap"],rfl,h1,by decide,by decide,fun k hk=> ?_,.inl rfl⟩
  simp only [List.mem_cons,List.not_mem_nil,or_false] at hk;exact hk
 ·refine ⟨p2,["load","load","swap","load"],rfl,h2,by decide,by decide,fun k hk=> ?_,.inr (.inl rfl)⟩
  simp only [List.mem_cons,List.not_mem_nil,or_false] at hk;rcases hk with h|h|h|h
  ·exact .inl h
  ·exact .inl h
  ·exact .inr (.inr h)
  ·exact .inl h
 ·refine ⟨p3,["store","swap","load","store"],rfl,h3,by decide,by decide,fun k hk=> ?_,.inr (.inr rfl)⟩
  simp only [List.mem_cons,List.not_mem_nil,or_false] at hk;rcases hk with h|h|h|h
  ·exact .inr (.inl h)
  ·exact .inr (.inr h)
  ·exact .inl h
  ·exact .inr (.inl h)
def mY (hn:Int) (x:bK):Prop:=(0<=x.1/\x.1<hn)/\Z8 x.2.1/\(0<=x.2.2/\x.2.2<20)
def zU (K:PySem.W.Frag):Sp:=fun vs H Q _=>∃(r b:Addr) (n:Nat) (hn cl ld ap:Int),vs=[.ref r,.int hn,.int cl,.int ld,.int ap]/\bU H r b n/\n<549755813888/\1<=hn/\hn<=8/\1<=cl/\cl<=20/\0<=ld/\ld<3 /\
 ∀(t:Addr) (x:bK) (H':Hp),H t=none->H' t=some (.tup [.int x.1,.str x.2.1,.int x.2.2])->mY hn x->bU H' r b (n+3)->Kp r H H'->Q (.ref t) H'
theorem NK {f:Addr} {fd:FuncData} (F:jZ K "_law_touch" "_law_touch" iu f fd) (b_:FnAt P w K mg base 2 "_law_draw" ["bag","many"] (nJ K)) (Bt:qY mg):cu P w K mg base jY 3 f fd ["bag","hands","cells","loads","apart"] (zU K):=by
 refine F.ok oN (fun vs H Q E h=> ?_) (fun cdv A outer s H vs Q E hr h=> ?_)
 ·obtain ⟨r,b,n,hn,cl,ld,ap,rfl,_⟩:=h
  rfl
 ·obtain ⟨r,b,n,hn,cl,ld,ap,rfl,B0,nn,hn0,hn1,SX,cl1,u9,u6,k⟩:=h
  refine ⟨_,(aC (aW (i:=5) oN.nd rfl (Or.inl rfl) (aR (aM (K:=K) rfl) (bO (ak (bO (ak cY (ak cY (ak cY au)))) (ak (bO (ak cY (ak cY (ak cY (ak cY au))))) (ak (bO (ak cY (ak cY (ak cY (ak cY au))))) au)))) (pv 3) (fun _ _=>rfl)))
   (aC (aW (i:=6) oN.nd rfl (Or.inl rfl) (bx b_ (hr.mono (by decide)) (by rfl) (ak (pv 0) (ak (pv 1) au))))
   (aC (aW (i:=7) oN.nd rfl (Or.inl rfl) (aR (aM (K:=K) rfl) (pv 5) (bx b_ (hr.mono (by decide)) (by rfl) (ak (pv 0) (ak (aO (aU (K:=K) rfl) (by rfl) Bt.fX dI (ak (pv 5) au)) au))) (fun _ _=>rfl)))
   (aH (aX (nR (ak (pv 6) (ak (pv 7) (ak (bB kW (bB fu (pv 4) (bB nW aF (bx b_ (hr.mono (by decide)) (by rfl) (ak (pv 0) (ak (pv 2) au))))) aF) au))))))))), ?_⟩
  refine ⟨(by show 3<=sizeLine;decide),fun p1 h1=> ?_⟩;have s1:=aD (o:=HO.lst [V.str "load",V.str "store",V.str "swap"]) h1;refine ⟨(by show 4<=sizeLine;decide),fun p2 h2=> ?_⟩;have s2:=aD (o:=HO.lst [V.str "load",V.str "load",V.str "swap",V.str "load"]) h2;refine ⟨(by show 4<=sizeLine;decide),fun p3 h3=> ?_⟩;have s3:=aD (o:=HO.lst [V.str "store",V.str "swap",V.str "load",V.str "store"]) h3;refine ⟨(by show 3<=sizeLine;decide),fun p h4=> ?_⟩;have s4:=aD (o:=HO.lst [V.ref p1,V.ref p2,V.ref p3]) h4;obtain ⟨q,ks,eq,hq,RQ,RP,kok,qq⟩:=VL (s4 _ _ (s3 _ _ (s2 _ _ aq))) (s4 _ _ (s3 _ _ aq)) (s4 _ _ aq) ld u9 u6;have QT:=((s1.trans s2).trans s3).trans s4;have B4:=B0.keep QT;refine ⟨_,rfl,_,_,_,_,rfl,rfl,bA.of aq,eq, ?_⟩
  have Ln:q≠r:=by
   have a1:=(B0.ne h1).1;have a2:=((B0.keep s1).ne h2).1;have a3:=((B0.keep (s1.trans s2)).ne h3).1;rcases qq with rfl|rfl|rfl<;>assumption
  generalize (upd (upd (upd (upd H p1 (HO.lst [V.str "load",V.str "store",V.str "swap"])) p2 (HO.lst [V.str "load",V.str "load",V.str "swap",V.str "load"])) p3 (HO.lst [V.str "store",V.str "swap",V.str "load",V.str "store"])) p (HO.lst [V.ref p1,V.ref p2,V.ref p3]))=H4 at QT hq B4 ⊢;refine ⟨_,rfl,_,rfl,r,b,hn,n,rfl,B4,by (clear hq Ln qq RP RQ eq h4 h3 h2 h1 u6 u9 cl1 SX hn1 hn0;omega),by (clear hq Ln qq RP RQ eq h4 h3 h2 h1 u6 u9 cl1 SX hn1 nn;omega),by (clear hq Ln qq RP RQ eq h4 h3 h2 h1 u6 u9 cl1 SX hn0 nn;omega),fun z H5 z0 z1 B5 k5=> ?_⟩;have R0:=k5 _ _ hq Ln;refine ⟨_,rfl,_,rfl,_,rfl,q,_,rfl,.inl (bA.of R0),r,b,_,_,rfl,B5,by (clear R0 z1 z0 hq Ln qq RP RQ eq h4 h3 h2 h1 u6 u9 cl1 SX hn1 hn0;omega),by rw [List.length_map];(clear R0 z1 z0 hq Ln qq RP eq h4 h3 h2 h1 u6 u9 cl1 SX hn1 hn0 nn;omega),by rw [List.length_map];(clear R0 z1 z0 hq Ln qq RQ eq h4 h3 h2 h1 u6 u9 cl1 SX hn1 hn0 nn;omega),fun y H6 y0 y1 B6 k6=> ?_⟩;rw [List.length_map] at y1;obtain ⟨v,ev,gv⟩:=Te (xs:=ks.map V.str) y0 (by rw [List.length_map];(clear y0 R0 z1 z0 hq Ln qq RP RQ eq h4 h3 h2 h1 u6 u9 cl1 SX hn1 hn0 nn;omega));rw [List.getElem?_map] at gv;cases ek:ks[y.toNat]? with
  | none=>rw [ek] at gv;cases gv
  | some kd=>
    rw [ek] at gv;cases gv;refine ⟨_,_,_,_,rfl,rfl,bA.of (k6 _ _ R0 Ln),ev, ?_⟩;refine ⟨_,rfl,_,rfl,_,rfl,_,rfl,_,rfl,r,b,_,_,rfl,B6,by (clear ev ek y1 y0 R0 z1 z0 hq Ln qq RP RQ eq h4 h3 h2 h1 u6 u9 cl1 SX hn1 hn0;omega),by (clear ev ek y1 y0 R0 z1 z0 hq Ln qq RP RQ eq h4 h3 h2 h1 u6 u9 cl1 hn1 hn0 nn;omega),by (clear ev ek y1 y0 R0 z1 z0 hq Ln qq RP RQ eq h4 h3 h2 h1 u6 u9 SX hn1 hn0 nn;omega),fun u H7 u0 u1 B7 k7=>⟨_,_,rfl,rfl,.inl ⟨by decide,by decide⟩,_,_,rfl,rfl,_,_,rfl,rfl,(by show (0:Int)<20;decide), ?_⟩⟩;refine ⟨(by show 3<=sizeLine;decide),fun t ht=> ?_⟩;have st:=aD (o:=HO.tup [V.int z,V.str kd,V.int ((ap+7*u) % 20)]) ht;have kk:Kp r H H7:=(((Kp.of_same QT).trans k5).trans k6).trans k7;exact k t (z,kd,(ap+7*u) % 20) _ (Kp.new kk ht B7.at) aq ⟨⟨z0,z1⟩,kok kd (List.mem_of_getElem? ek),Int.emod_nonneg _ (by decide),Int.emod_lt_of_pos _ (by decide)⟩ (B7.keep st) (kk.trans (.of_same st))
def tM (K:PySem.W.Frag):Sp:=fun vs H Q _=>∃(r b:Addr) (n:Nat) (hn:Int),vs=[.ref r,.int hn]/\bU H r b n/\n<274877906944/\1<=hn/\hn<=8 /\
 ∀(a:Addr) (ws:List bK) (H':Hp),H a=none->gn H' a ws->(∀x∈ws,mY hn x)->ws.length<=300->bU H' r b (n+1000)->Kp r H H'->Q (.ref a) H'
theorem VD (n:Int) (h0:0<=n) (h1:n<4):∃z:Int,uX [V.int 1,V.int 2,V.int 3,V.int 20] n=some (V.int z)/\1<=z/\z<=20:=by
 have:n=0\/n=1\/n=2\/n=3:=by omega
 rcases this with rfl|rfl|rfl|rfl
 ·exact ⟨1,rfl,by decide,by decide⟩
 ·exact ⟨2,rfl,by decide,by decide⟩
 ·exact ⟨3,rfl,by decide,by decide⟩
 ·exact ⟨20,rfl,by decide,by decide⟩
theorem VF (n:Int) (h0:0<=n) (h1:n<32):∃z:Int,uX [V.int 31,V.int 101,V.int 301] (n / 28+n / 31)=some (V.int z)/\1<=z/\z<=301:=by
 have:n / 28+n / 31=0\/n / 28+n / 31=1\/n / 28+n / 31=2:=by omega
 rcases this with e|e|e<;>rw [e]
 ·exact ⟨31,rfl,by decide,by decide⟩
 ·exact ⟨101,rfl,by decide,by decide⟩
 ·exact ⟨301,rfl,by decide,by decide⟩
theorem Gj {f:Addr} {fd:FuncData} (F:jZ K "_law_touches" "_law_touches" d_ f fd) (b_:FnAt P w K mg base 2 "_law_draw" ["bag","many"] (nJ K)) (Qf:FnAt P w K mg base 3 "_law_touch" ["bag","hands","cells","loads","apart"] (zU K)) (Bt:qY mg):cu P w K mg base jY 4 f fd ["bag","hands"] (tM K):=by
 refine F.ok gJ (fun vs H Q E h=> ?_) (fun cdv A outer s H vs Q E hr h=> ?_)
 ·obtain ⟨r,b,n,hn,rfl,_⟩:=h
  rfl
 ·obtain ⟨r,b,n,hn,rfl,B0,nn,hn0,hn1,k⟩:=h
  refine ⟨_,(aC (aW (i:=2) gJ.nd rfl (Or.inl rfl) (bx b_ (hr.mono (by decide)) (by rfl) (ak (pv 0) (ak aF au))))
   (aC (aW (i:=3) gJ.nd rfl (Or.inr rfl) (aR (aM (K:=K) rfl) (bO (ak aF (ak aF (ak aF (ak aF au))))) (bx b_ (hr.mono (by decide)) (by rfl) (ak (pv 0) (ak aF au))) (fun _ _=>rfl)))
   (aC (aW (i:=4) gJ.nd rfl (Or.inr rfl) (bx b_ (hr.mono (by decide)) (by rfl) (ak (pv 0) (ak aF au))))
   (aC (aW (i:=5) gJ.nd rfl (Or.inr rfl) (bx b_ (hr.mono (by decide)) (by rfl) (ak (pv 0) (ak aF au))))
   (aC (aW (i:=6) gJ.nd rfl (Or.inl rfl) (bx b_ (hr.mono (by decide)) (by rfl) (ak (pv 0) (ak (aR (aM (K:=K) rfl) (bO (ak aF (ak aF (ak aF au)))) (bB fu (bB vL (pv 2) aF) (bB vL (pv 2) aF)) (fun _ _=>rfl)) au))))
   (aH (aX (gw rfl (N:=["step","bag","hands","cells","loads","apart"]) (own:=["step"]) (caps:=[0,1,3,4,5]) (bf.of (by kernel_rfl)) (dJ (by rfl) Bt.fD (ak (pv 6) au)) (fun _ _ _ _=>(bw (i:=0) (show List.Nodup (["step","bag","hands","cells","loads","apart"]:List Str) by decide +kernel) rfl (Or.inl rfl))) (fun _ _ _ _=>eN) (fun _ _ _ _=>(bx Qf (hr.mono (by decide)) (by rfl) (ak (pv 1) (ak (pv 2) (ak (pv 3) (ak (pv 4) (ak (pv 5) au))))))))))))))), ?_⟩
  refine ⟨_,rfl,r,b,32,n,rfl,B0,by (clear hn1 hn0;omega),by decide,by decide,fun sz H1 Fv Ft B1 k1=> ?_⟩;refine ⟨(by show 4<=sizeLine;decide),fun p hp=> ?_⟩;have sp:=aD (o:=HO.lst [V.int 1,V.int 2,V.int 3,V.int 20]) hp;obtain ⟨Ae,_⟩:=B1.ne hp;refine ⟨_,rfl,r,b,4,_,rfl,B1.keep sp,by (clear Ae hp Ft Fv hn1 hn0;omega),by decide,by decide,fun y H2 y0 y1 B2 k2=> ?_⟩;obtain ⟨cl,ec,c0,c1⟩:=VD y y0 y1;refine ⟨_,_,_,_,rfl,rfl,bA.of (k2 _ _ aq Ae),ec, ?_⟩;have kk2:Kp r H H2:=(k1.trans (.of_same sp)).trans k2;refine ⟨_,rfl,r,b,3,_,rfl,B2,by (clear c1 c0 ec y1 y0 Ae hp Ft Fv hn1 hn0;omega),by decide,by decide,fun ld H3 u9 u6 B3 k3=> ?_⟩;refine ⟨_,rfl,r,b,20,_,rfl,B3,by (clear u6 u9 c1 c0 ec y1 y0 Ae hp Ft Fv hn1 hn0;omega),by decide,by decide,fun ap H4 Qc Qa B4 k4=> ?_⟩;have kk4:=(kk2.trans k3).trans k4;refine ⟨_,rfl,(by show 3<=sizeLine;decide),fun p2 hp2=> ?_⟩;have sp2:=aD (o:=HO.lst [V.int 31,V.int 101,V.int 301]) hp2;obtain ⟨mn,em,m0,m1⟩:=VF sz Fv Ft;refine ⟨_,rfl,_,_,rfl,rfl,(by show Qm _ 28;exact ⟨by decide,by decide⟩),_,rfl,_,_,rfl,rfl,(by show Qm _ 31;exact ⟨by decide,by decide⟩),_,_,rfl,rfl,_,_,_,_,rfl,rfl,bA.of aq,em,r,b,mn,_,rfl,B4.keep sp2,by (clear m1 m0 em hp2 Qa Qc u6 u9 c1 c0 ec y1 y0 Ae hp Ft Fv hn1 hn0;omega),by (clear m1 em hp2 Qa Qc u6 u9 c1 c0 ec y1 y0 Ae hp Ft Fv hn1 hn0 nn;omega),by (clear m0 em hp2 Qa Qc u6 u9 c1 c0 ec y1 y0 Ae hp Ft Fv hn1 hn0 nn;omega),fun many H5 y0 y1 B5 k5=> ?_⟩;have kk5:=(kk4.trans (.of_same sp2)).trans k5;refine ⟨_,rfl,many,rfl,by (clear y1 m1 m0 em hp2 Qa Qc u6 u9 c1 c0 ec Ae hp Ft Fv hn1 hn0 nn;omega),by (clear y0 m0 em hp2 Qa Qc u6 u9 c1 c0 ec Ae hp Ft Fv hn1 hn0 nn;omega),fun D hD=> ?_⟩;obtain ⟨ml,rfl⟩:=Int.eq_ofNat_of_zero_le y0;rw [show ((ml:Int)).toNat=ml by (clear y1 y0 hD m1 m0 em hp2 Qa Qc u6 u9 c1 c0 ec Ae hp Ft Fv hn1 hn0 nn;omega)];obtain ⟨RG,WX⟩:=B5.ne hD;have mv:∀{H:Hp} {o:HO},Kp r H5 H->Kp r H5 (upd H D o):=fun k c u e m=>by rw [aN (aB e hD)];exact k c u e m
  refine iW (lo:=0) (n:=ml) (fun i σ H6=>(∃v,σ=[v,some (.ref r),some (.int hn),some (.int cl),some (.int ld),some (.int ap)]) /\ ∃ws:List bK,ws.length=i/\(∀x∈ws,mY hn x)/\gn H6 D ws/\Kp r H5 H6/\bU H6 r b (n+1+1+1+1+1+3*i))
   ⟨⟨none,rfl⟩,[],rfl,fun _ z=>absurd z (by simp),⟨[],aq,by simp [aL]⟩,.of_same (aD hD),B5.keep (aD hD)⟩ ?_ ?_
  ·rintro i σ H6 hi ⟨⟨v,rfl⟩,ws,wl,Fb,W,k6,B6⟩
   refine ⟨_,rfl,_,rfl,_,rfl,_,rfl,_,rfl,r,b,_,hn,cl,ld,ap,rfl,B6,by (clear wl WX RG y0 hD m0 em hp2 Qa Qc u6 u9 c1 c0 ec Ae hp Ft Fv hn1 hn0;omega),hn0,hn1,c0,c1,u9,u6,fun t x H7 ht0 ht xok B7 k7=> ?_⟩;obtain ⟨vs,hv,dv⟩:=id W;have vl:vs.length=i:=by rw [dv.length,List.length_map,wl]
   have W2:=k7 _ _ hv RG;have k8:Kp D H7 (upd H7 D (.lst (vs++[V.ref t]))):=Kp.set;have t8:=k8.tups W2;refine ⟨vs,W2,by rw [sizeLine_eq];(clear W2 hv ht ht0 wl WX RG y0 hD m0 em hp2 Qa Qc u6 u9 c1 c0 ec Ae hp Ft Fv hn1 hn0 nn;omega),⟨_,rfl⟩,ws++[x],by simp [wl],fun y hy=> ?_,⟨_,aq, ?_⟩,mv (k6.trans k7),(B7.mono (by (clear W2 vl hv ht ht0 wl hi WX RG y1 y0 hD m1 m0 em hp2 Qa Qc u6 u9 c1 c0 ec Ae hp Ft Fv hn1 hn0 nn;omega))).kp k8 RG.symm WX.symm⟩
   ·rcases List.mem_append.mp hy with hy|hy
    ·exact Fb y hy
    ·have:y=x:=by simpa using hy
     subst this;exact xok
   ·rw [List.map_append]
    refine aL.append (aL.keep (fun a xs h=>t8 _ _ (B6.tups k7 _ _ h)) _ (cj _ uq _) dv) (DR (Jk (t8 _ _ ht)))
  ·rintro σ H6 ⟨⟨v,rfl⟩,ws,wl,Fb,W,k6,B6⟩
   exact k D ws H6 (Kp.new kk5 hD B5.at) W Fb (by (clear WX RG y0 hD m0 em hp2 Qa Qc u6 u9 c1 c0 ec Ae hp Ft Fv hn1 hn0 nn;omega)) (B6.mono (by (clear wl WX RG y0 hD m0 em hp2 Qa Qc u6 u9 c1 c0 ec Ae hp Ft Fv hn1 hn0 nn;omega))) (kk5.trans k6)
def mt (x y:bK):Bool:=if x.1=y.1 then false else if x.2.2=y.2.2 then (if x.2.1 = "load" then !decide (y.2.1 = "load") else true) else false
def U9 (K:PySem.W.Frag):Sp:=fun vs H Q _=>∃(a b:Addr) (x y:bK),vs=[.ref a,.ref b]/\H a=some (.tup [.int x.1,.str x.2.1,.int x.2.2])/\H b=some (.tup [.int y.1,.str y.2.1,.int y.2.2])/\Q (.bl (mt x y)) H
theorem RK {K:PySem.W.Frag} {a b:Addr} {x y:bK} {H:Hp} {Q:VK} (ha:H a=some (.tup [.int x.1,.str x.2.1,.int x.2.2])) (hb:H b=some (.tup [.int y.1,.str y.2.1,.int y.2.2])) (k:Q (.bl (mt x y)) H) {D:Ends} (hD:D.rt=Q):
 (UL (Xj (tOr (HW (HX rEq (HX (z9 K) (v9 0) (tC (.int 0))) (HX (z9 K) (v9 1) (tC (.int 0))))) (HW (HX rNe (HX (z9 K) (v9 0) (tC (.int 2))) (HX (z9 K) (v9 1) (tC (.int 2)))))) (QG (tC (.bl false))) HY)
   (QG (Xh (HX rNe (HX (z9 K) (v9 0) (tC (.int 1))) (tC (.str "load"))) (HX rNe (HX (z9 K) (v9 1) (tC (.int 1))) (tC (.str "load")))))) D [some (.ref a),some (.ref b)] H:=by
 refine ⟨_,rfl,_,_,_,_,rfl,rfl,gC.of ha,rfl,_,rfl,_,_,_,_,rfl,rfl,gC.of hb,rfl,rfl,_,rfl, ?_⟩;refine pC (fun h1=> ?_) (fun h1=> ?_)
 ·have e:x.1=y.1:=by injection (of_decide_eq_true h1)
  have em:mt x y=false:=by unfold mt;rw [if_pos e]
  refine (show D.rt (.bl false) H from ?_);rw [hD,←em];exact k
 ·have e:¬x.1=y.1:=fun z=>h1 (decide_eq_true (by rw [z]))
  refine ⟨_,rfl,_,_,_,_,rfl,rfl,gC.of ha,rfl,_,rfl,_,_,_,_,rfl,rfl,gC.of hb,rfl,rfl,_,rfl, ?_⟩
  by_cases e2:x.2.2=y.2.2
  ·refine uR (by rw [e2]) ?_
   refine ⟨_,rfl,_,_,_,_,rfl,rfl,gC.of ha,rfl,rfl,_,rfl, ?_⟩
   by_cases e3:x.2.1 = "load"
   ·refine uR (by rw [e3]) ?_
    refine ⟨_,rfl,_,_,_,_,rfl,rfl,gC.of hb,rfl,rfl, ?_⟩
    have em:mt x y = !decide (V.str y.2.1=V.str "load"):=by
     unfold mt;rw [if_neg e,if_pos e2,if_pos e3];congr 1;rw [Bool.eq_iff_iff,decide_eq_true_iff,decide_eq_true_iff];exact ⟨fun z=>by rw [z],fun z=>by injection z⟩
    rw [←em,hD];exact k
   ·have ne:¬V.str x.2.1=V.str "load" :=fun z=>e3 (by injection z)
    rw [decide_eq_false ne];refine iV ?_;have em:mt x y=true:=by unfold mt;rw [if_neg e,if_pos e2,if_neg e3]
    rw [←em,hD];exact k
  ·have ne:¬V.int x.2.2=V.int y.2.2:=fun z=>e2 (by injection z)
   rw [decide_eq_false ne];refine iV ?_;have em:mt x y=false:=by unfold mt;rw [if_neg e,if_neg e2]
   refine (show D.rt (.bl false) H from ?_);rw [hD,←em];exact k
theorem u5 {f:Addr} {fd:FuncData} (F:jZ K "touches_meet" "touches_meet" cF f fd):cu P w K mg base jY 1 f fd ["one","other"] (U9 K):=by
 refine F.ok uZ (fun vs H Q E h=> ?_) (fun cdv A outer s H vs Q E hr h=> ?_)
 ·obtain ⟨a,b,x,y,rfl,_⟩:=h
  rfl
 ·obtain ⟨a,b,x,y,rfl,ha,hb,k⟩:=h
  exact ⟨_,(aC (dN (PW.pt (wG (bY mW (aR (cH (K:=K) rfl) (pv 0) aF (fun _ _=>rfl)) (aR (cH (K:=K) rfl) (pv 1) aF (fun _ _=>rfl)) (bD _)) (qH (bY k_ (aR (cH (K:=K) rfl) (pv 0) aF (fun _ _=>rfl)) (aR (cH (K:=K) rfl) (pv 1) aF (fun _ _=>rfl)) (bD _))))) (aH (aX iM)) bQ)
   (aH (aX (Nm (eO k_ (aR (cH (K:=K) rfl) (pv 0) aF (fun _ _=>rfl)) cY (bD _)) (mG (eO k_ (aR (cH (K:=K) rfl) (pv 1) aF (fun _ _=>rfl)) cY (bD _))))))),RK (K:=K) ha hb k rfl⟩
def U7 (ws:List bK) (i j:Nat):Bool:=match ws[i]?,ws[j]? with |some x,some y=>decide (x.1=y.1)||mt x y|_,_=>false
def uL (ws:List bK) (i j:Nat):Bool:=decide (i<j)&&U7 ws i j
theorem tL {ws:List bK} {i j:Nat} (h:uL ws i j=true):i<j/\j<ws.length:=by
 unfold uL U7 at h;simp only [Bool.and_eq_true,decide_eq_true_eq] at h;refine ⟨h.1, ?_⟩
 by_cases l:j<ws.length
 ·exact l
 ·have e:ws[j]? = none:=by simp;(clear h;omega)
  rw [e] at h;cases ws[i]? <;> simp at h
theorem vR {vs:List V} {i:Nat} {v:V} (h:vs[i]? = some v):uX vs (i:Int)=some v:=bZ h
def Fx (K:PySem.W.Frag):Sp:=fun vs H Q _=>∃(a:Addr) (ws:List bK) (i j:Nat),vs=[.ref a,.int i,.int j]/\gn H a ws/\i<ws.length/\j<ws.length/\Q (.bl (uL ws i j)) H
theorem Gp {f:Addr} {fd:FuncData} (F:jZ K "is_step" "is_step" fU f fd) (yx:FnAt P w K mg base 1 "touches_meet" ["one","other"] (U9 K)):cu P w K mg base jY 2 f fd ["web","place","later"] (Fx K):=by
 refine F.ok FW (fun vs H Q E h=> ?_) (fun cdv A outer s H vs Q E hr h=> ?_)
 ·obtain ⟨a,ws,i,j,rfl,_⟩:=h
  rfl
 ·obtain ⟨a,ws,i,j,rfl,W,hi,hj,k⟩:=h
  refine ⟨_,(aC (dN (bY T_ (pv 1) (pv 2) (bD _)) (aH (aX iM)) bQ)
   (aH (aX (Nm (eO mW (aR (cH (K:=K) rfl) (aR (aM (K:=K) rfl) (pv 0) (pv 1) (fun _ _=>rfl)) aF (fun _ _=>rfl)) (aR (cH (K:=K) rfl) (aR (aM (K:=K) rfl) (pv 0) (pv 2) (fun _ _=>rfl)) aF (fun _ _=>rfl)) (bD _)) (mG (bx yx (hr.mono (by decide)) (by rfl) (ak (aR (aM (K:=K) rfl) (pv 0) (pv 1) (fun _ _=>rfl)) (ak (aR (aM (K:=K) rfl) (pv 0) (pv 2) (fun _ _=>rfl)) au)))))))), ?_⟩
  refine ⟨_,rfl,_,rfl,_,_,rfl,rfl,_,rfl, ?_⟩
  by_cases l:i<j
  ·rw [decide_eq_false (show ¬(j:Int)<=(i:Int) by omega)]
   refine gb ?_;obtain ⟨x,ex⟩:∃x,ws[i]? = some x:=⟨ws[i],by simp [hi]⟩;obtain ⟨y,ey⟩:∃y,ws[j]? = some y:=⟨ws[j],by simp [hj]⟩;obtain ⟨vs,t1,ha,e1,ht1⟩:=qZ W ex;obtain ⟨vs',t2,ha',e2,Yx⟩:=qZ W ey;have ev:vs=vs':=by rw [ha] at ha';injection ha' with q;injection q
   subst ev;have es:uL ws i j=(decide (x.1=y.1)||mt x y):=by unfold uL U7;rw [ex,ey,decide_eq_true l,Bool.true_and]
   refine ⟨_,rfl,_,rfl,_,_,_,_,rfl,rfl,bA.of ha,vR e1,_,_,_,_,rfl,rfl,gC.of ht1,rfl,_,rfl,_,rfl,_,_,_,_,rfl,rfl,bA.of ha,vR e2,_,_,_,_,rfl,rfl,gC.of Yx,rfl,rfl,_,rfl, ?_⟩
   by_cases q:x.1=y.1
   ·rw [show decide (V.int x.1=V.int y.1)=true by simp [q]]
    refine iV ?_;rw [decide_eq_true q,Bool.true_or] at es;rw [←es];exact k
   ·rw [show decide (V.int x.1=V.int y.1)=false by simp [q]]
    refine gb ?_;rw [decide_eq_false q,Bool.false_or] at es;exact ⟨_,rfl,_,rfl,_,_,_,_,rfl,rfl,bA.of ha,vR e1,_,rfl,_,rfl,_,_,_,_,rfl,rfl,bA.of ha,vR e2,t1,t2,x,y,rfl,ht1,Yx,by rw [←es];exact k⟩
  ·rw [decide_eq_true (show (j:Int)<=(i:Int) by omega)]
   refine iV ?_;have es:uL ws i j=false:=by unfold uL;rw [decide_eq_false l,Bool.false_and]
   rw [←es];exact k
inductive vp (ws:List bK) (j:Nat):Nat->Prop
 | one {i:Nat} (h:uL ws i j=true):vp ws j i
 | more {i k:Nat} (h:uL ws i k=true) (r:vp ws j k):vp ws j i
theorem vp.lt {ws:List bK} {i j:Nat} (r:vp ws j i):i<j/\j<ws.length:=by
 induction r with
 | one h=>exact tL h
 | more h _ ih=>exact ⟨Nat.lt_trans (tL h).1 ih.1,ih.2⟩
abbrev Nt:=Int×Int×Int×Int
def nD (x:Nt):PyData:= .tuple [.int x.1,.int x.2.1,.int x.2.2.1,.int x.2.2.2]
def nV (x:Nt):List V:=[.int x.1,.int x.2.1,.int x.2.2.1,.int x.2.2.2]
theorem jQ (x:Nt):Qt (nD x)=true:=rfl
theorem G8 {H:Hp} {t:Addr} {x:Nt} (h:H t=some (.tup (nV x))):Dat H (.ref t) (nD x):=by
 simp only [nD,Dat];exact ⟨t,_,rfl,h,by simp only [nV,aL,Dat,and_self]⟩
theorem xR {H:Hp} {v:V} {x:Nt} (h:Dat H v (nD x)):∃t,v = .ref t/\H t=some (.tup (nV x)):=by
 simp only [nD,Dat] at h;obtain ⟨t,vs,e,q,d⟩:=h
 match vs,d with
 | [a,b,c,z],d=>
   simp only [aL,Dat,and_true] at d;obtain ⟨rfl,rfl,rfl,rfl⟩:=d;exact ⟨t,e,q⟩
 | [],d=>simp only [aL] at d
 | [_],d=>simp only [aL,and_false] at d
 | [_,_],d=>simp only [aL,and_false] at d
 | [_,_,_],d=>simp only [aL,and_false] at d
 | _::_::_::_::_::_,d=>simp only [aL,and_false] at d
def gq (H:Hp) (a:Addr) (ns:List Nt):Prop:=∃vs,H a=some (.lst vs)/\aL H vs (ns.map nD)
theorem gq.kp {H H':Hp} {a r:Addr} {ns:List Nt} (h:gq H a ns) (hr:∀a xs,H a=some (HO.tup xs)->H' a=some (HO.tup xs)) (k:Kp r H H') (n:a≠r):gq H' a ns:=by
 obtain ⟨vs,e,d⟩:=h;exact ⟨vs,k _ _ e n,aL.keep hr _ (cj _ jQ ns) d⟩
theorem gq.same {H H':Hp} {a:Addr} {ns:List Nt} (h:gq H a ns) (k:Same H H'):gq H' a ns:=by
 obtain ⟨vs,e,d⟩:=h;exact ⟨vs,k _ _ e,aL.keep k.tups _ (cj _ jQ ns) d⟩
theorem Ad {H:Hp} {vs:List V} {ns:List Nt} {i:Nat} {v:V} (d:aL H vs (ns.map nD)) (e:vs[i]? = some v):∃x t,ns[i]? = some x/\v = .ref t/\H t=some (.tup (nV x)):=by
 obtain ⟨q,eq,dq⟩:=d.get e;rw [List.getElem?_map] at eq;cases ex:ns[i]? with
 | none=>rw [ex] at eq;cases eq
 | some x=>
   rw [ex] at eq;cases eq;obtain ⟨t,rfl,ht⟩:=xR dq;exact ⟨x,t,rfl,rfl,ht⟩
def gI (cs:List Int) (h:Int):Int:=(cs[h.toNat]?).getD 0
theorem yr {cs:List Int} {h:Int} (h0:0<=h) (h1:h<cs.length):uX (cs.map V.int) h=some (.int (gI cs h)):=by
 obtain ⟨m,rfl⟩:=Int.eq_ofNat_of_zero_le h0;have:m<cs.length:=by (clear h0;omega)
 refine bZ ?_;simp [gI,this]
theorem xG {cs:List Int} {i:Nat} {c:Int} (h:cs[i]? = some c):gI cs i=c:=by simp [gI,h]
theorem Ak {n:Nat} {i:Int} (h0:0<=i) (h1:i<n):Oq n i=some i.toNat:=by unfold Oq;rw [if_pos h0,if_pos h1]
theorem Ao {cs:List Int} {h k v:Int} (h0:0<=h) (h1:h<cs.length) (k0:0<=k):gI (cs.set h.toNat v) k=if k=h then v else gI cs k:=by
 unfold gI;rw [List.getElem?_set]
 by_cases e:k=h
 ·subst e
  have:k.toNat<cs.length:=by (clear h0;omega)
  simp [this]
 ·have:¬h.toNat=k.toNat:=by (clear h1;omega)
  simp [e,this]
def Qd (cs:List Int) (x:Nt):Prop:=(0<=x.1/\x.1<cs.length)/\(0<=x.2.1/\x.2.1<gI cs x.1)/\(0<=x.2.2.1/\x.2.2.1<cs.length)/\(0<=x.2.2.2/\x.2.2.2<gI cs x.2.2.1)/\x.1≠x.2.2.1
def Ql (cs:List Int):Prop:=cs.length<=8 /\ ∀c∈cs,0<=c/\c<=300
theorem Ql.gI {cs:List Int} (h:Ql cs) (i:Int):0<=gI cs i/\gI cs i<=300:=by
 unfold Prf.gI;cases e:cs[i.toNat]? with
 | none=>simp
 | some c=>exact h.2 c (List.mem_of_getElem? e)
abbrev Qx:=Int×Int
def pD (x:Qx):PyData:= .tuple [.int x.1,.int x.2]
theorem GR (x:Qx):Qt (pD x)=true:=rfl
theorem SM {H:Hp} {t:Addr} {x:Qx} (h:H t=some (.tup [.int x.1,.int x.2])):Dat H (.ref t) (pD x):=by
 simp only [pD,Dat];exact ⟨t,_,rfl,h,by simp only [aL,Dat,and_self]⟩
theorem DX {H:Hp} {v:V} {x:Qx} (h:Dat H v (pD x)):∃t,v = .ref t/\H t=some (.tup [.int x.1,.int x.2]):=by
 simp only [pD,Dat] at h;obtain ⟨t,vs,e,q,d⟩:=h
 match vs,d with
 | [a,b],d=>
   simp only [aL,Dat,and_true] at d;obtain ⟨rfl,rfl⟩:=d;exact ⟨t,e,q⟩
 | [],d=>simp only [aL] at d
 | [_],d=>simp only [aL,and_false] at d
 | _::_::_::_,d=>simp only [aL,and_false] at d
def lC (H:Hp) (a:Addr) (ps:List Qx):Prop:=∃vs,H a=some (.lst vs)/\aL H vs (ps.map pD)
theorem lC.same {H H':Hp} {a:Addr} {ws:List Qx} (h:lC H a ws) (k:Same H H'):lC H' a ws:=by
 obtain ⟨vs,e,d⟩:=h;exact ⟨vs,k _ _ e,aL.keep k.tups _ (cj _ GR ws) d⟩
theorem lC.kp {H H':Hp} {a r:Addr} {ws:List Qx} {ys:List V} (h:lC H a ws) (hr:H r=some (.lst ys)) (k:Kp r H H') (n:a≠r):lC H' a ws:=by
 obtain ⟨vs,e,d⟩:=h;exact ⟨vs,k _ _ e n,aL.keep (k.tups hr) _ (cj _ GR ws) d⟩
def cnt (ws:List bK) (h:Int):Int:=((ws.filter fun x=>decide (x.1=h)).length:Int)
theorem iD (ws:List bK) (x:bK) (h:Int):cnt (ws++[x]) h=if h=x.1 then cnt ws h+1 else cnt ws h:=by
 unfold cnt;rw [List.filter_append,List.length_append]
 by_cases e:h=x.1
 ·subst e;simp
 ·rw [if_neg e]
  have:¬x.1=h:=fun z=>e z.symm;simp [this]
def hnd (ws:List bK) (i:Nat):Int:=match ws[i]? with |some x=>x.1|none=>0
theorem ur {ws:List bK} {i:Nat} {x:bK} (h:ws[i]? = some x):hnd ws i=x.1:=by unfold hnd;rw [h]
def nm (ws:List bK):List Qx:=(List.range ws.length).map fun i=>(hnd ws i,cnt (ws.take i) (hnd ws i))
theorem RD (ws:List bK) (x:bK):nm (ws++[x])=nm ws++[(x.1,cnt ws x.1)]:=by
 unfold nm;rw [List.length_append,List.length_singleton,List.range_succ,List.map_append];congr 1
 ·refine List.map_congr_left fun i hi=> ?_
  have hi':i<ws.length:=by simpa using hi
  unfold hnd;rw [List.getElem?_append_left hi',List.take_append_of_le_length (by omega)]
 ·simp [hnd]
theorem Ke (ws:List bK):(nm ws).length=ws.length:=by unfold nm;simp
theorem M7 {ws:List bK} {j m:Nat} (r:vp ws j m):∃i,uL ws i j=true/\(m=i\/vp ws i m):=by
 induction r with
 | one h=>exact ⟨_,h,.inl rfl⟩
 | more h _ ih=>
   obtain ⟨i,st,q⟩:=ih;refine ⟨i,st,.inr ?_⟩;rcases q with rfl|q
   ·exact .one h
   ·exact .more h q
theorem M6 {ws:List bK} {i j m:Nat} (st:uL ws i j=true) (r:vp ws i m):vp ws j m:=by
 induction r with
 | one h=>exact .more h (.one st)
 | more h _ ih=>exact .more h ih
theorem ji (ws:List bK) (h:Int) (i:Nat):∀d:Nat,cnt (ws.take i) h<=cnt (ws.take (i+d)) h
 | 0=>Int.le_refl _
 | d+1=>by
   have ih:=ji ws h i d;have e:ws.take (i+(d+1))=ws.take (i+d)++(ws[i+d]?).toList:=by rw [←Nat.add_assoc,List.take_add_one]
   rw [e];cases ws[i+d]? with
   | none=>simpa using ih
   | some x=>
     show _<=cnt (ws.take (i+d)++[x]) h;rw [iD];split<;>(clear e;omega)
theorem jx (ws:List bK) (h:Int):0<=cnt ws h:=by unfold cnt;omega
theorem Gx {ws:List bK} {i:Nat} {x:bK} (e:ws[i]? = some x):(nm ws)[i]? = some (x.1,cnt (ws.take i) x.1):=by
 have:i<ws.length:=(List.getElem?_eq_some_iff.mp e).1;unfold nm;rw [List.getElem?_map,List.getElem?_range this];simp only [Option.map_some,ur e]
theorem Gb {H:Hp} {a:Addr} {ps:List Qx} {i:Nat} {x:Qx} (h:lC H a ps) (e:ps[i]? = some x):∃vs t,H a=some (.lst vs)/\vs[i]? = some (.ref t)/\H t=some (.tup [.int x.1,.int x.2]):=by
 obtain ⟨vs,ha,d⟩:=h;obtain ⟨v,ev,dv⟩:=d.getD (i:=i) (d:=pD x) (by rw [List.getElem?_map,e];rfl);obtain ⟨t,rfl,ht⟩:=DX dv;exact ⟨vs,t,ha,ev,ht⟩
def mx (a b:Int):Int:=if b>a then b else a
theorem Og {c a b:Int}:c<mx a b↔c<a\/c<b:=by unfold mx;split<;>omega
theorem Yk {a b:Int} (h:0<=a):0<=mx a b:=by unfold mx;split<;>omega
def zX (K:PySem.W.Frag):Sp:=fun vs H Q _=>∃(t d:Addr) (h k:Int) (g:Int->Int),vs=[.ref t,.ref d]/\H t=some (.tup [.int h,.int k])/\jz H d g/\Q (.bl (decide (k<g h))) H
theorem N_ {f:Addr} {fd:FuncData} (F:jZ K "is_known" "is_known" d8 f fd):cu P w K mg base jY 1 f fd ["name","known"] (zX K):=by
 refine F.ok BW (fun vs H Q E h=> ?_) (fun cdv A outer s H vs Q E hr h=> ?_)
 ·obtain ⟨t,d,h,k,g,rfl,_⟩:=h
  rfl
 ·obtain ⟨t,d,h,k,g,rfl,ht,kd,q⟩:=h
  have hu:=Dq hr;refine ⟨_,(aH (aX (eO uM (aR (cH (K:=K) rfl) (pv 0) aF (fun _ _=>rfl)) (rP hu (pv 1) (aR (cH (K:=K) rfl) (pv 0) aF (fun _ _=>rfl)) aF ⟨rfl,rfl,rfl,rfl⟩) (bD _)))), ?_⟩;obtain ⟨kvs,hd,_,val⟩:=kd.get;refine ⟨_,rfl,_,_,_,_,rfl,rfl,gC.of ht,rfl,_,rfl,d,rfl,.inl ⟨_,.inl hd⟩,_,rfl,_,_,_,_,rfl,rfl,gC.of ht,rfl,_,yC.k (k:=Sum.inl h) hd, ?_⟩;rw [val h];exact ⟨_,_,rfl,rfl,q⟩
def zW (K:PySem.W.Frag):Sp:=fun vs H Q _=>∃(d m:Addr) (g1 g2:Int->Int),vs=[.ref d,.ref m]/\jz H d g1/\jz H m g2/\d≠m /\ ∀H',jz H' d (fun h=>mx (g1 h) (g2 h))->Kp d H H'->Q .non H'
def W9 (hs:List Int) (g1 g2:Int->Int):Int->Int:=fun h=>if h∈hs then mx (g1 h) (g2 h) else g1 h
theorem N8 {f:Addr} {fd:FuncData} (F:jZ K "learn" "learn" jB f fd) (Bt:qY mg):cu P w K mg base jY 1 f fd ["known","more"] (zW K):=by
 refine F.ok BP (fun vs H Q E h=> ?_) (fun cdv A outer s H vs Q E hr h=> ?_)
 ·obtain ⟨d,m,g1,g2,rfl,_⟩:=h
  rfl
 ·obtain ⟨d,m,g1,g2,rfl,k1,k2,ne,q⟩:=h
  have hu:=Dq hr
  refine ⟨_,(aH (Q8 (mz PassesOwn.never rfl (Rg (pv 1)) (bw (i:=2) BP.nd rfl (Or.inl rfl))
   (aH (Q9 hu (pv 0) (pv 2) (aO (zH rfl) (by rfl) Bt.Ut Px (ak (rP hu (pv 0) (pv 2) aF ⟨rfl,rfl,rfl,rfl⟩) (ak (Rk hu (pv 1) (pv 2) (fun _ _=>rfl)) au))) rfl))))), ?_⟩
  obtain ⟨hs,hm,nd,rg,zz⟩:=k2.ex;refine ⟨_,rfl,m,_,rfl,hm,fun o=> ?_⟩;have kf:Kp m H (upd H m (.m6 o (.dK (yP hs g2)))):=Kp.set
  refine O8 (fun i σ H2=>∃v:Option V,σ=[some (.ref d),some (.ref m),v]/\jz H2 d (W9 (hs.take i) g1 g2)/\H2 m=some (.m6 o (.dK (yP hs g2)))/\Kp d (upd H m (.m6 o (.dK (yP hs g2)))) H2)
   ⟨none,rfl,(k1.kp kf ne).ext (fun h=>by simp [W9]),aq,Kp.refl _ _⟩ (fun i σ H2 _ ⟨_,_,_,e,_⟩=>e) ?_ ?_
  ·rintro i kk v σ H2 hi ⟨x,rfl,kd,fz,kp⟩
   have hi':(yP hs g2)[i]? = some (kk,v):=hi;unfold yP at hi';rw [List.getElem?_map] at hi';cases eh:hs[i]? with
   | none=>rw [eh] at hi';cases hi'
   | some h=>
     rw [eh] at hi';cases hi';have hm':h∈hs:=List.mem_of_getElem? eh;obtain ⟨h0,h1⟩:=rg h hm';have tk:hs.take (i+1)=hs.take i++[h]:=by rw [List.take_add_one,eh];rfl
     have nin:h∉hs.take i:=by
      intro z;have:(hs.take i++[h]).Nodup:=by rw [←tk];exact nd.sublist (List.take_sublist _ _)
      rw [List.nodup_append] at this;exact this.2.2 h z h (by simp) rfl
     obtain ⟨kvs,hd2,_,val⟩:=kd.get;have gi:W9 (hs.take i) g1 g2 h=g1 h:=by unfold W9;rw [if_neg nin]
     refine ⟨_,rfl,d,rfl,.inl ⟨_,.inl hd2⟩,_,rfl,_,yC.k (k:=Sum.inl h) hd2, ?_⟩;rw [val h,gi];have gm:yC H2 m (kV (Sum.inl h)) (some (V.int (g2 h))):= .inl ⟨_,Sum.inl h,.inr ⟨o,fz⟩,rfl,by rw [Ai,if_pos hm']⟩;refine ⟨_,rfl,_,rfl,m,_,rfl,gm,_,_,rfl, ?_⟩;obtain ⟨kvs',hd3,hz,put⟩:=kd.put (v:=mx (g1 h) (g2 h)) h0 h1 (Yk (k1.nn h));refine ⟨_,rfl,_,rfl,d,_,rfl,Qk.k (k:=Sum.inl h) hd3 hz, ?_⟩;refine ⟨_,rfl,(put _ aq).ext fun x=> ?_,by rw [aN ne.symm];exact fz,kp.trans Kp.set⟩;unfold Dy W9;rw [tk]
     by_cases e:x=h
     ·subst e;simp
     ·simp [e]
  ·rintro σ H2 ⟨x,rfl,kd,fz,kp⟩
   refine ⟨_,⟨m,_,o,_,hm,fz,rfl⟩, ?_⟩;have kt:Kp m H2 (upd H2 m (.dK (yP hs g2))):=Kp.set;refine q _ ((kd.kp kt ne).ext fun h=> ?_) fun b u e nb=> ?_
   ·have el:hs.take (yP hs g2).length=hs:=by rw [yP,List.length_map,List.take_length]
    rw [el];unfold W9
    by_cases hh:h∈hs
    ·rw [if_pos hh]
    ·rw [if_neg hh,zz h hh]
     have:=k1.nn h;unfold mx;rw [if_neg (by (clear hh el fz hm hu ne;omega))]
   ·by_cases eb:b=m
    ·subst eb
     rw [hm] at e;rw [aq];exact e
    ·rw [aN eb]
     exact kp _ _ (by rw [aN eb];exact e) nb
def Tn (ws:List bK) (g:Int->Int) (R:Nat->Prop):Prop:=∀m x,ws[m]? = some x->(cnt (ws.take m) x.1<g x.1↔R m)
def pL (ws:List bK) (j:Nat) (g:Int->Int):Prop:=Tn ws g (fun m=>m=j\/vp ws j m) /\ ∀h,g h<=cnt (ws.take (j+1)) h
def Jz (ws:List bK) (j lo m:Nat):Prop:=∃x,lo<=x/\uL ws x j=true/\(m=x\/vp ws x m)
def Bare (ws:List bK) (j e:Nat):Prop:=uL ws e j=true /\ ¬Jz ws j (e+1) e
noncomputable instance (ws:List bK) (j e:Nat):Decidable (Bare ws j e):=Classical.propDecidable _
theorem JT {ws:List bK} {a b c:Nat} (h:vp ws b a) (g:vp ws c b):vp ws c a:=by
 induction h with
 | one h=>exact .more h g
 | more h _ ih=>exact .more h ih
theorem Tn.iff {ws:List bK} {g:Int->Int} {R S:Nat->Prop} (h:Tn ws g R) (e:∀m,R m↔S m):Tn ws g S:=fun m x ex=>(h m x ex).trans (e m)
theorem DY {ws:List bK} {j e m:Nat} (h:¬uL ws e j=true):Jz ws j (e+1) m↔Jz ws j e m:=by
 constructor
 ·rintro ⟨x,a,b,c⟩
  exact ⟨x,by omega,b,c⟩
 ·rintro ⟨x,a,b,c⟩
  have:x≠e:=fun z=>h (z▸b);exact ⟨x,by omega,b,c⟩
theorem KR {ws:List bK} {j e m:Nat} (k:Jz ws j (e+1) e):Jz ws j (e+1) m↔Jz ws j e m:=by
 constructor
 ·rintro ⟨x,a,b,c⟩
  exact ⟨x,by omega,b,c⟩
 ·rintro ⟨x,a,b,c⟩
  by_cases z:x=e
  ·subst z
   obtain ⟨y,y1,y2,y3⟩:=k;have r:vp ws y x:=y3.resolve_left (by (clear y3 y2 a c b;omega));rcases c with c|c
   ·subst c;exact ⟨y,y1,y2,.inr r⟩
   ·exact ⟨y,y1,y2,.inr (JT c r)⟩
  ·exact ⟨x,by omega,b,c⟩
theorem Jm {ws:List bK} {j e m:Nat} (h:uL ws e j=true):(Jz ws j (e+1) m\/(m=e\/vp ws e m))↔Jz ws j e m:=by
 constructor
 ·rintro (⟨x,a,b,c⟩|c)
  ·exact ⟨x,by omega,b,c⟩
  ·exact ⟨e,Nat.le_refl _,h,c⟩
 ·rintro ⟨x,a,b,c⟩
  by_cases z:x=e
  ·subst z;exact .inr c
  ·exact .inl ⟨x,by (clear c b h;omega),b,c⟩
theorem RN {ws:List bK} {g g':Int->Int} {R S:Nat->Prop} (h:Tn ws g R) (h':Tn ws g' S):Tn ws (fun x=>mx (g x) (g' x)) fun m=>R m\/S m:=fun m x ex=>by
 show cnt _ _<mx _ _↔_;rw [Og,h m x ex,h' m x ex]
theorem Jl {ws:List bK} {j m:Nat}:Jz ws j 0 m↔vp ws j m:=by
 constructor
 ·rintro ⟨x,_,b,c|c⟩
  ·subst c;exact .one b
  ·exact M6 b c
 ·intro r
  obtain ⟨i,s,q⟩:=M7 r;exact ⟨i,Nat.zero_le _,s,q⟩
theorem RM {ws:List bK} {j:Nat} {y:bK} {g:Int->Int} (h:Tn ws g (vp ws j)) (bd:∀h,g h<=cnt (ws.take j) h) (ey:ws[j]? = some y):pL ws j (fun x=>mx (g x) (if x=y.1 then cnt (ws.take j) y.1+1 else 0)):=by
 have tk:ws.take (j+1)=ws.take j++[y]:=by rw [List.take_add_one,ey];rfl
 refine ⟨?_,fun h=> ?_⟩
 rotate_left
 ·have b1:=bd h
  have b2:=jx (ws.take j) h;rw [tk,iD];show mx _ _<=_;unfold mx
  by_cases e:h=y.1
  ·rw [if_pos e,if_pos e];subst e;split<;>(clear b2 tk ey;omega)
  ·rw [if_neg e,if_neg e];split<;>(clear e tk ey;omega)
 intro m x ex;show cnt _ _<mx _ _↔_;rw [Og,h m x ex]
 by_cases e:x.1=y.1
 ·rw [if_pos e]
  constructor
  ·rintro (z|z)
   ·exact .inr z
   ·rw [e] at z
    by_cases l:m<=j
    ·by_cases em:m=j
     ·exact .inl em
     ·refine .inr (.one ?_)
      unfold uL U7;rw [ex,ey,decide_eq_true (show m<j by (clear z e ex tk ey;omega))];simp [e]
    ·have:=ji ws y.1 (j+1) (m - (j+1))
     rw [show j+1+(m - (j+1))=m by (clear this z e ex tk ey;omega)] at this;have t:ws.take (j+1)=ws.take j++[y]:=by rw [List.take_add_one,ey];rfl
     rw [t,iD,if_pos rfl] at this;omega
  ·rintro (z|z)
   ·subst z
    rw [e];exact .inr (by (clear tk ey e ex;omega))
   ·exact .inl z
 ·rw [if_neg e]
  constructor
  ·rintro (z|z)
   ·exact .inr z
   ·have:=jx (ws.take m) x.1;(clear e ex tk ey;omega)
  ·rintro (z|z)
   ·subst z
    rw [ex] at ey;cases ey;exact absurd rfl e
   ·exact .inl z
def kj (H:Hp) (kn:Addr) (ws:List bK) (n:Nat):Prop:=∃rs:List Addr,H kn=some (.lst (rs.map V.ref))/\rs.length=n /\ ∀j r,rs[j]? = some r -> ∃g,jz H r g/\pL ws j g
theorem kj.same {H H':Hp} {kn:Addr} {ws:List bK} {n:Nat} (h:kj H kn ws n) (k:Same H H'):kj H' kn ws n:=by
 obtain ⟨rs,e,l,q⟩:=h;refine ⟨rs,k _ _ e,l,fun j r hj=> ?_⟩;obtain ⟨g,a,b⟩:=q j r hj;exact ⟨g,a.same k,b⟩
theorem kj.kp {H H':Hp} {kn r:Addr} {ys:List V} {ws:List bK} {n:Nat} (h:kj H kn ws n) (k:Kp r H H') (hr:H r=some (.lst ys)) (ne:kn≠r):kj H' kn ws n:=by
 obtain ⟨rs,e,l,q⟩:=h;refine ⟨rs,k _ _ e ne,l,fun j r' hj=> ?_⟩;obtain ⟨g,a,b⟩:=q j r' hj;obtain ⟨hs,e',_⟩:=a.ex;exact ⟨g,a.kp k (uO e' hr (by intro z;cases z)),b⟩
noncomputable def cL (ws:List bK) (j i:Nat):List Nat:=((List.range i).map fun t=>j - 1 - t).filter fun e=>decide (Bare ws j e)
theorem yp (ws:List bK) (j i:Nat):cL ws j (i+1)=cL ws j i++(if Bare ws j (j - 1 - i) then [j - 1 - i] else []):=by
 unfold cL;rw [List.range_succ,List.map_append,List.filter_append];congr 1
 by_cases h:Bare ws j (j - 1 - i)<;>simp [h]
theorem lB (ws:List bK) (j i:Nat):(cL ws j i).length<=i:=by
 unfold cL;exact Nat.le_trans (List.length_filter_le _ _) (by simp)
def dG (l:List Nat):List V:=l.map fun n:Nat=>V.int (n:Int)
def FP (K:PySem.W.Frag):Sp:=fun vs H Q _=>∃(a nd kn:Addr) (ws:List bK) (j:Nat),vs=[.ref a,.ref nd,.ref kn,.int j]/\gn H a ws/\lC H nd (nm ws)/\kj H kn ws j/\j<ws.length/\ws.length<=300/\(∀x∈ws,0<=x.1/\x.1<8) /\
 ∀(p b d:Addr) (g:Int->Int) (H':Hp),H' p=some (.tup [.ref b,.ref d])->H' b=some (.lst (dG (cL ws j j)))->jz H' d g->pL ws j g->H b=none->H d=none->H p=none->Same H H'->Q (.ref p) H'
theorem Om {H:Hp} {d:Addr} (h:H d=some (.dK [])):jz H d fun _=>0:=⟨⟨[],h,List.nodup_nil,fun _ z=>absurd z (by simp),fun _ _=>rfl⟩,fun _=>Int.le_refl _⟩
theorem Rw {f:Addr} {fd:FuncData} (F:jZ K "bare_steps" "bare_steps" dz f fd) (Lj:FnAt P w K mg base 2 "is_step" ["web","place","later"] (Fx K)) (Hw:FnAt P w K mg base 1 "is_known" ["name","known"] (zX K)) (Jw:FnAt P w K mg base 1 "learn" ["known","more"] (zW K)) (Bt:qY mg):cu P w K mg base jY 3 f fd ["web","named","knowns","place"] (FP K):=by
 refine F.ok i_ (fun vs H Q E h=> ?_) (fun cdv A outer s H vs Q E hr h=> ?_)
 ·obtain ⟨a,nd,kn,ws,j,rfl,_⟩:=h
  rfl
 ·obtain ⟨a,nd,kn,ws,j,rfl,W,N,Kn,jl,wl,Lk,k⟩:=h
  have hu:=Dq hr
  refine ⟨_,(aC (aW (i:=4) i_.nd rfl (Or.inl rfl) (bO au))
   (aC (aW (i:=5) i_.nd rfl (Or.inl rfl) wL)
   (aC (mz PassesOwn.never rfl (zq (by rfl) Bt.fD (ak (bB wM (pv 3) aF) (ak (wK qC aF) (ak (wK qC aF) au)))) (bw (i:=6) i_.nd rfl (Or.inl rfl))
   (aH (dN (PW.pt (z_ (gG (bx Lj (hr.mono (by decide)) (by rfl) (ak (pv 0) (ak (pv 6) (ak (pv 3) au))))) (vD (iT (gG (bx Hw (hr.mono (by decide)) (by rfl) (ak (aR (aM (K:=K) rfl) (pv 1) (pv 6) (fun _ _=>rfl)) (ak (pv 5) au)))))))) (aC (cW (eU (K:=K) rfl (pv 4) (ak (pv 6) au)))
   (aH (cW (bx Jw (hr.mono (by decide)) (by rfl) (ak (pv 5) (ak (aR (aM (K:=K) rfl) (pv 2) (pv 6) (fun _ _=>rfl)) au)))))) bQ)))
   (aC (cW (bx Jw (hr.mono (by decide)) (by rfl) (ak (pv 5) (ak (Rj (Ni (aR (cH (K:=K) rfl) (aR (aM (K:=K) rfl) (pv 1) (pv 3) (fun _ _=>rfl)) aF (fun _ _=>rfl)) (bB fu (aR (cH (K:=K) rfl) (aR (aM (K:=K) rfl) (pv 1) (pv 3) (fun _ _=>rfl)) aF (fun _ _=>rfl)) aF) Q_) rfl rfl (by simp) (by decide)) au))))
   (aH (aX (nR (ak (pv 4) (ak (pv 5) au))))))))), ?_⟩
  refine ⟨(by show 0<=sizeLine;decide),fun b hb=> ?_⟩;have s1:=aD (o:=HO.lst []) hb;intro d hd;have s2:=aD (o:=HO.dK []) hd;have s12:=s1.trans s2;have hd0:H d=none:=s1.free hd;have CT:b≠d:=aB aq hd;refine ⟨_,rfl,_,_,rfl,rfl,_,rfl,_,rfl,(j:Int) - 1, -1,rfl,⟨by (clear CT hd0 hd hb hu wl jl;omega),by (clear CT hd0 hd hb hu;omega),by (clear CT hd0 hd hb hu wl jl;omega),by (clear CT hd0 hd hb hu wl jl;omega)⟩, ?_⟩;have en:((j:Int) - 1 - (-1)).toNat=j:=by (clear CT hd0 hd hb hu wl jl;omega)
  rw [en]
  refine xH (hi:=(j:Int) - 1) (n:=j) (fun i σ H2=>∃(x1:Option V) (g:Int->Int),σ=[some (.ref a),some (.ref nd),some (.ref kn),some (.int j),some (.ref b),some (.ref d),x1]/\Same H H2/\H2 b=some (.lst (dG (cL ws j i)))/\jz H2 d g/\Tn ws g (Jz ws j (j - i)) /\ ∀h,g h<=cnt (ws.take j) h)
   ⟨none,fun _=>0,rfl,s12,s2 _ _ (by rw [aq];rfl),Om aq,⟨fun m x ex=>⟨fun z=> ?_,fun ⟨x,x1,x2,_⟩=> ?_⟩,fun h=>jx _ _⟩⟩ ?_ ?_
  ·have:=jx (ws.take m) x.1
   have z:cnt (ws.take m) x.1<0:=z;omega
  ·have:=(tL x2).1
   omega
  ·rintro i σ H2 hi ⟨x1,g,rfl,sm,hb2,kd,kp,bd⟩
   have ee:(j:Int) - 1 - (i:Int)=((j - 1 - i:Nat):Int):=by (clear hb2 en CT hd0 hd hb hu wl jl;omega)
   rw [ee];have bs:=yp ws j i;have bl:=lB ws j i;generalize he:j - 1 - i=e at bs;have el:e<ws.length:=by (clear bs bl ee hb2 hi en CT hd0 hd hb hu wl;omega)
   have e1:j - i=e+1:=by (clear el bs bl ee hb2 en CT hd0 hd hb hu wl jl;omega)
   have e2:j - (i+1)=e:=by (clear e1 el bs bl ee hb2 hi en CT hd0 hd hb hu wl jl;omega)
   rw [e1] at kp;rw [e2];obtain ⟨x,ex⟩:∃x,ws[e]? = some x:=⟨ws[e],by simp [el]⟩;refine ⟨_,rfl,_,rfl,_,rfl,a,ws,e,j,rfl,W.same sm,el,jl,_,rfl, ?_⟩
   by_cases st:uL ws e j=true
   ·rw [st]
    refine iV ?_;obtain ⟨ns,t,hn,en,ht⟩:=Gb (N.same sm) (Gx ex);refine ⟨_,rfl,_,rfl,_,_,_,_,rfl,rfl,bA.of hn,bZ en,_,rfl,t,d,_,_,g,rfl,ht,kd,_,rfl, ?_⟩;have kx:=kp e x ex
    by_cases kk:Jz ws j (e+1) e
    ·rw [decide_eq_true (kx.mpr kk)]
     refine gb ?_;have nb:¬Bare ws j e:=fun z=>z.2 kk;rw [if_neg nb,List.append_nil] at bs;exact ⟨_,g,rfl,sm,by rw [bs];exact hb2,kd,kp.iff fun m=>KR kk,bd⟩
    ·rw [decide_eq_false (fun z=>kk (kx.mp z))]
     refine iV ?_;have nb:Bare ws j e:=⟨st,kk⟩;rw [if_pos nb] at bs;refine ⟨_,rfl,.inl ⟨rfl,_,bA.of hb2⟩,_,rfl,b,_,_,rfl,rfl,hb2,by rw [dG,List.length_map,sizeLine_eq];(clear kk kx ht en hn st ex e2 e1 el bs he ee hb2 CT hd0 hd hb hu;omega), ?_⟩;have k3:Kp b H2 (upd H2 b (.lst (dG (cL ws j i)++[V.int (e:Int)]))):=Kp.set;obtain ⟨rs,hk,rl,rq⟩:=id (Kn.same sm);have er:e<rs.length:=by (clear hk kk kx ht en hn st ex e2 e1 el bs bl ee hb2 CT hd0 hd hb hu wl jl;omega)
     obtain ⟨r,err⟩:∃r,rs[e]? = some r:=⟨rs[e],by simp [er]⟩;obtain ⟨ge,kde,kne⟩:=rq e r err
     have nkb:kn≠b:=by
      obtain ⟨_,hk0,_⟩:=Kn;exact aB hk0 hb
     obtain ⟨_,RZ,_⟩:=kde.ex;have nrb:r≠b:=uO RZ hb2 (by intro z;cases z)
     have nrd:d≠r:=by
      obtain ⟨rs0,hk0,_,rq0⟩:=Kn
      have er0:rs=rs0:=by
       have:=(sm _ _ hk0).symm.trans hk;injection this with this
       injection this with this
       exact (List.map_inj_right (fun x y e=>by injection e)).mp this.symm
      subst er0;obtain ⟨g0,kd0,_⟩:=rq0 e r err;obtain ⟨_,h0,_⟩:=kd0.ex;exact (aB h0 hd0).symm
     have hk3:=k3 _ _ hk nkb;have kd3:=kd.kp k3 CT.symm;have aeA:=kde.kp k3 nrb;refine ⟨_,rfl,_,rfl,_,rfl,_,_,_,_,rfl,rfl,bA.of hk3,bZ (by rw [List.getElem?_map,err];rfl),d,r,g,ge,rfl,kd3,aeA,nrd,fun H4 kd4 k4=> ?_⟩;refine ⟨_,_,rfl,fun y u hy=>k4 _ _ (k3 _ _ (sm _ _ hy) (aB hy hb)) (aB hy hd0), ?_,kd4, ?_,fun h=> ?_⟩
     ·have:=k4 _ _ (aq (H:=H2) (a:=b) (o:= .lst (dG (cL ws j i)++[V.int (e:Int)]))) CT
      rw [this,bs];unfold dG;rw [List.map_append];rfl
     ·exact (RN kp kne.1).iff fun m=>Jm st
     ·have b1:=bd h
      have b2:=kne.2 h;have b3:=ji ws h (e+1) (j - (e+1));rw [show e+1+(j - (e+1))=j by (clear b3 b2 b1 hk3 nrd nrb RZ nkb err er rl hk kk kx ht en hn st ex e2 e1 el bs bl ee hb2 CT hd0 hd hb hu wl jl;omega)] at b3;show mx _ _<=_;unfold mx;split<;>(clear hk3 nrd nrb RZ nkb err er rl hk kk kx ht en hn st ex e2 e1 el bs he bl ee hb2 hi CT hd0 hd hb hu wl jl;omega)
   ·have st':uL ws e j=false:=by simpa using st
    rw [st'];refine gb ?_;have nb:¬Bare ws j e:=fun z=>st z.1;rw [if_neg nb,List.append_nil] at bs;exact ⟨_,g,rfl,sm,by rw [bs];exact hb2,kd,kp.iff fun m=>DY st,bd⟩
  ·rintro σ H2 ⟨x1,g,rfl,sm,hb2,kd,kp,bd⟩
   rw [Nat.sub_self] at kp;obtain ⟨y,ey⟩:∃y,ws[j]? = some y:=⟨ws[j],by simp [jl]⟩;obtain ⟨y0,y1⟩:=Lk y (List.mem_of_getElem? ey);obtain ⟨ns,t,hn,en,ht⟩:=Gb (N.same sm) (Gx ey);refine ⟨_,rfl,fun m hm=> ?_⟩;have s3:=aD (o:=HO.dK []) hm;refine ⟨_,rfl,_,rfl,_,_,_,_,rfl,rfl,bA.of (s3 _ _ hn),bZ en,_,_,_,_,rfl,rfl,gC.of (s3 _ _ ht),rfl,_,rfl,_,rfl,_,_,_,_,rfl,rfl,bA.of (s3 _ _ hn),bZ en,_,_,_,_,rfl,rfl,gC.of (s3 _ _ ht),rfl,_,_,rfl,rfl,aq,[(Sum.inl y.1,V.int (cnt (ws.take j) y.1+1))],rfl,by show 1<=15;decide, ?_⟩
   have e1:upd (upd H2 m (.dK [])) m (.dK (uf [] [(Sum.inl y.1,V.int (cnt (ws.take j) y.1+1))]))=upd H2 m (.dK (yP [y.1] fun x=>if x=y.1 then cnt (ws.take j) y.1+1 else 0)):=by
    rw [QC];congr 2;show [(Sum.inl y.1,V.int (cnt (ws.take j) y.1+1))]=_;simp [yP]
   rw [e1];have s4:Same H2 (upd H2 m (.dK (yP [y.1] fun x=>if x=y.1 then cnt (ws.take j) y.1+1 else 0))):=aD hm
   have hmd:d≠m:=by
    obtain ⟨_,h,_⟩:=kd.ex;exact aB h hm
   have kdm:jz (upd H2 m (.dK (yP [y.1] fun x=>if x=y.1 then cnt (ws.take j) y.1+1 else 0))) m (fun x=>if x=y.1 then cnt (ws.take j) y.1+1 else 0):=by
    refine ⟨⟨[y.1],aq,by simp,fun h hh=> ?_,fun h hh=> ?_⟩,fun h=> ?_⟩
    ·have:h=y.1:=by simpa using hh
     subst this;exact ⟨y0,y1⟩
    ·have:h≠y.1:=by simpa using hh
     rw [if_neg this]
    ·have:=jx (ws.take j) y.1
     show (0:Int)<=if h=y.1 then _ else 0;split<;>(clear hmd e1 hm ht en hn y1 y0 ey hb2 CT hd0 hd hb hu wl jl;omega)
   refine ⟨d,m,g,_,rfl,kd.same s4,kdm,hmd,fun H5 kd5 k5=> ?_⟩;have hb5:H5 b=some (.lst (dG (cL ws j j))):=k5 _ _ (s4 _ _ hb2) CT;refine ⟨_,rfl,_,rfl,(by show 2<=sizeLine;decide),fun p hp=> ?_⟩;have s6:=aD (o:=HO.tup [V.ref b,V.ref d]) hp;have s05:Same H H5:=fun y u hy=>k5 _ _ (s4 _ _ (sm _ _ hy)) (aB hy hd0);exact k p b d _ _ aq (s6 _ _ hb5) (kd5.same s6) (RM (kp.iff fun m=>Jl) bd ey) hb hd0 (s05.free hp) (s05.trans s6)
def nK (x:Nt):List Int:=[x.1,x.2.1,x.2.2.1,x.2.2.2]
theorem Vz (x:Nt):(nK x).map V.int=nV x:=rfl
theorem VB {x y:Nt} (h:nK x=nK y):x=y:=by
 obtain ⟨a,b,c,d⟩:=x;obtain ⟨a',b',c',d'⟩:=y;simp only [nK,List.cons.injEq,and_true] at h;obtain ⟨rfl,rfl,rfl,rfl⟩:=h;rfl
def yw (ns:List Nt):Prop:=ns.Pairwise fun x y=>Tim.jg (nK y) (nK x)=false
theorem lu:∀{a b:List Nt},a.Perm b->yw a->yw b->a=b
 | [],_,p,_,_=>p.nil_eq
 | x::r,b,p,ha,hb=>by
   cases b with
   | nil=>exact absurd p.length_eq (by simp)
   | cons y t=>
     have hx:x∈y::t:=p.mem_iff.mp (.head _);have hy:y∈x::r:=p.mem_iff.mpr (.head _)
     have e:x=y:=by
      rcases List.mem_cons.mp hx with h|h
      ·exact h
      ·rcases List.mem_cons.mp hy with h'|h'
       ·exact h'.symm
       ·exact VB (Tim.Dh _ _ ((List.pairwise_cons.mp hb).1 x h) ((List.pairwise_cons.mp ha).1 y h'))
     subst e;rw [lu (List.perm_cons _ |>.mp p) (List.pairwise_cons.mp ha).2 (List.pairwise_cons.mp hb).2]
def vInt:V->Int
 | .int n=>n
 | _=>0
def tupK (H:Hp) (v:V):List Int:=match v with
 | .ref t=>match H t with
   | some (.tup xs)=>xs.map vInt
   | _=>[]
 | _=>[]
def toN:List Int->Nt
 | [a,b,c,d]=>(a,b,c,d)
 | _=>(0,0,0,0)
theorem oK {H:Hp} {t:Addr} {x:Nt} (h:H t=some (.tup (nV x))):tupK H (.ref t)=nK x:=by
 unfold tupK;dsimp only;rw [h];rfl
theorem Ms (x:Nt):toN (nK x)=x:=rfl
theorem Iz {H:Hp} {vs:List V} {ns:List Nt} (d:aL H vs (ns.map nD)) {v:V} (hv:v∈vs):∃t x,v = .ref t/\x∈ns/\H t=some (.tup (nV x)):=by
 obtain ⟨i,hi,e⟩:=List.getElem_of_mem hv;obtain ⟨x,t,ex,ev,ht⟩:=Ad d (i:=i) (v:=v) (by rw [List.getElem?_eq_getElem hi,e]);exact ⟨t,x,ev,List.mem_of_getElem? ex,ht⟩
theorem IK {H:Hp}:∀{vs:List V} {ns:List Nt},aL H vs (ns.map nD)->vs.map (fun v=>toN (tupK H v))=ns
 | [],[],_=>rfl
 | [],_::_,h=>by simp only [List.map_cons,aL] at h
 | _::_,[],h=>by simp only [List.map_nil,aL] at h
 | v::vs,n::ns,h=>by
   simp only [List.map_cons,aL] at h;obtain ⟨t,rfl,ht⟩:=xR h.1;rw [List.map_cons,IK h.2,oK ht,Ms]
theorem Ob {H:Hp}:∀{vs:List V},(∀v∈vs,∃t x,v=V.ref t/\H t=some (.tup (nV x)))->aL H vs ((vs.map fun v=>toN (tupK H v)).map nD)
 | [],_=>by simp [aL]
 | v::vs,h=>by
   obtain ⟨t,x,rfl,ht⟩:=h v (.head _);simp only [List.map_cons,aL];exact ⟨by rw [oK ht,Ms];exact G8 ht,Ob fun v hv=>h v (.tail _ hv)⟩
theorem rH {K:PySem.W.Frag} {H:Hp} {p:Addr} {ns:List Nt} {Q:VK} (N:gq H p ns) (k:∀l ns' H',H l=none->gq H' l ns'->ns'.Perm ns->yw ns'->Same H H'->Q (.ref l) H'):Ga K [.ref p] H Q:=by
 obtain ⟨ys,hp,d⟩:=N;refine ⟨p,ys,4,tupK H,rfl,bA.of hp,by decide,fun y hy=> ?_,fun l zs hl pz sz=> ?_⟩
 ·obtain ⟨t,x,rfl,_,ht⟩:=Iz d hy
  exact ⟨t,rfl,by rw [oK ht,Vz];exact gC.of ht,by rw [oK ht];rfl⟩
 ·have sm:=aD (o:=HO.lst zs) hl
  have all:∀v∈zs,∃t x,v=V.ref t/\H t=some (.tup (nV x)):=fun v hv=>by
   obtain ⟨t,x,e,_,ht⟩:=Iz d (pz.mem_iff.mp hv);exact ⟨t,x,e,ht⟩
  refine k l (zs.map fun v=>toN (tupK H v)) _ hl ⟨zs,aq,aL.keep sm.tups _ (cj _ jQ _) (Ob all)⟩ ?_ ?_ sm
  ·rw [←IK d]
   exact pz.map _
  ·unfold yw
   rw [List.pairwise_map];refine List.Pairwise.imp_of_mem (fun {x y} hx hy h=> ?_) sz;obtain ⟨t,a,rfl,ht⟩:=all x hx;obtain ⟨u,b,rfl,hu⟩:=all y hy;rw [oK ht,oK hu] at h ⊢;exact h
def jO (ws:List bK) (i j:Nat):Nt:=(hnd ws i,cnt (ws.take i) (hnd ws i),hnd ws j,cnt (ws.take j) (hnd ws j))
def bC (ws:List bK) (j:Nat) (l:List Nat):List Nt:=(l.filter fun e=>decide (¬hnd ws e=hnd ws j)).map fun e=>jO ws e j
def tR (K:PySem.W.Frag):Sp:=fun vs H Q _=>∃(nd b t:Addr) (ws:List bK) (j:Nat) (l:List Nat),vs=[.ref nd,.ref b,.ref t]/\lC H nd (nm ws)/\H b=some (.lst (dG l))/\H t=some (.tup [.int (hnd ws j),.int (cnt (ws.take j) (hnd ws j))])/\(∀e∈l,e<ws.length)/\l.length<=300 /\
 ∀(r:Addr) (H':Hp),H r=none->gq H' r (bC ws j l)->Same H H'->Q (.ref r) H'
theorem Wa {α β:Type} (l:List α) (f:α->Option β):(List.range l.length).filterMap (fun i=>(l[i]?).bind f)=l.filterMap f:=by
 induction l with
 | nil=>rfl
 | cons x l ih=>
   rw [List.length_cons,List.range_succ_eq_map,List.filterMap_cons,List.filterMap_map,List.filterMap_cons];have e:List.filterMap ((fun i=>((x::l)[i]?).bind f)∘Nat.succ) (List.range l.length)=l.filterMap f:=by rw [←ih];rfl
   rw [e];rfl
theorem Gu (ws:List bK) (j:Nat) (l:List Nat):(l.filterMap fun e=>if hnd ws e=hnd ws j then none else some (nD (jO ws e j)))=(bC ws j l).map nD:=by
 unfold bC
 induction l with
 | nil=>rfl
 | cons e l ih=>
   rw [List.filterMap_cons,List.filter_cons]
   by_cases h:hnd ws e=hnd ws j
   ·rw [if_pos h]
    simp only [h,not_true_eq_false,decide_false,Bool.false_eq_true,if_false];exact ih
   ·rw [if_neg h]
    simp only [h,not_false_eq_true,decide_true,if_true,List.map_cons];rw [ih]
theorem Gm {f:Addr} {fd:FuncData} (F:jZ K "notes_to" "notes_to" dZ f fd):cu P w K mg base jY 1 f fd ["named","bare","name"] (tR K):=by
 refine F.ok BL (fun vs H Q E h=> ?_) (fun cdv A outer s H vs Q E hr h=> ?_)
 ·obtain ⟨nd,b,t,ws,j,l,rfl,_⟩:=h
  rfl
 ·obtain ⟨nd,b,t,ws,j,l,rfl,N,hb,ht,el,ll,k⟩:=h
  refine ⟨_,(aH (aX (gw rfl (N:=["earlier","name","named"]) (own:=["earlier"]) (caps:=[2,0]) (bf.of (by kernel_rfl)) (iC (K:=K) rfl (pv 1)) (fun _ _ _ _=>(bw (i:=0) (show List.Nodup (["earlier","name","named"]:List Str) by decide +kernel) rfl (Or.inl rfl))) (fun _ _ _ _=>(Io (bY k_ (aR (cH (K:=K) rfl) (aR (aM (K:=K) rfl) (pv 2) (pv 0) (fun _ _=>rfl)) aF (fun _ _=>rfl)) (aR (cH (K:=K) rfl) (pv 1) aF (fun _ _=>rfl)) (bD _)))) (fun _ _ _ _=>(bB (Nz (K:=K) rfl) (aR (aM (K:=K) rfl) (pv 2) (pv 0) (fun _ _=>rfl)) (pv 1)))))), ?_⟩;have il:(dG l).length=l.length:=by rw [dG,List.length_map]
  refine ⟨_,rfl,b,rfl,⟨_,bA.of hb⟩,fun D hD=> ?_⟩;refine K4 (K:=K) (xs:=dG l) (fun i=>(l[i]?).bind fun e=>if hnd ws e=hnd ws j then none else some (nD (jO ws e j))) (fun i d h=> ?_) hD (bA.of hb) (by (clear hD ht hb;omega)) (fun i x H2 G F hi s2 kG kF=> ?_) (fun H2 vs s2 e2 d2=> ?_)
  ·cases e:l[i]? with
   | none=>rw [e] at h;cases h
   | some z=>
     rw [e] at h;simp only [Option.bind_some] at h;split at h
     ·cases h
     ·cases h;rfl
  ·unfold dG at hi
   rw [List.getElem?_map] at hi;cases e:l[i]? with
   | none=>rw [e] at hi;cases hi
   | some z=>
     rw [e] at hi;cases hi;have zl:=el z (List.mem_of_getElem? e);obtain ⟨x,ex⟩:∃x,ws[z]? = some x:=⟨ws[z],by simp [zl]⟩;have hx:=ur ex;obtain ⟨ns,tz,hn,en,htz⟩:=Gb (N.same s2) (Gx ex);rw [←hx] at htz;refine ⟨_,rfl,_,rfl,_,_,_,_,rfl,rfl,bA.of hn,bZ en,_,_,_,_,rfl,rfl,gC.of htz,rfl,_,rfl,_,_,_,_,rfl,rfl,gC.of (s2 _ _ ht),rfl,rfl,_,rfl, ?_⟩
     by_cases eh:hnd ws z=hnd ws j
     ·rw [show (!decide (V.int (hnd ws z)=V.int (hnd ws j)))=false by simp [eh]]
      refine gb ?_;exact kG _ (Same.refl _) (by rw [e];simp [eh])
     ·rw [show (!decide (V.int (hnd ws z)=V.int (hnd ws j)))=true by simp [eh]]
      refine iV ?_;refine ⟨_,rfl,_,rfl,_,_,_,_,rfl,rfl,bA.of hn,bZ en,_,rfl,tz,t,_,_,rfl,rfl,gC.of htz,gC.of (s2 _ _ ht),by simp,by show 4<=sizeLine;decide,fun z=>absurd z (by simp),fun _ p hp=> ?_⟩;exact kF _ (nD (jO ws z j)) _ (aD hp) (by rw [e];simp [eh]) (G8 (x:=jO ws z j) (by rw [aq];rfl))
  ·rw [il,Wa,Gu] at d2
   exact k D H2 hD ⟨vs,e2,d2⟩ s2
noncomputable def jk (ws:List bK) (n:Nat):List Nt:=(List.range n).flatMap fun j=>bC ws j (cL ws j j)
theorem o_ (ws:List bK) (n:Nat):jk ws (n+1)=jk ws n++bC ws n (cL ws n n):=by
 unfold jk;rw [List.range_succ,List.flatMap_append];simp
theorem j7 (ws:List bK) (j:Nat) (l:List Nat):(bC ws j l).length<=l.length:=by
 unfold bC;rw [List.length_map];exact List.length_filter_le _ _
theorem sV (ws:List bK):∀n,(jk ws n).length<=n*n
 | 0=>Nat.le_refl _
 | n+1=>by
   rw [o_,List.length_append];have h1:=sV ws n;have h2:=Nat.le_trans (j7 ws n (cL ws n n)) (lB ws n n);have:(n+1)*(n+1)=n*n+n+n+1:=by rw [Nat.add_mul,Nat.mul_add];(clear h2 h1;omega)
   omega
theorem P0 {ws:List bK} {j i e:Nat} (h:e∈cL ws j i):e<j\/j=0:=by
 unfold cL at h;obtain ⟨h1,_⟩:=List.mem_filter.mp h;obtain ⟨t,_,rfl⟩:=List.mem_map.mp h1;omega
def qR (ws:List bK) (hn:Nat) (row:List Int) (R:Nat->Prop) (B:Nat):Prop:=row.length=hn/\(∀m x,ws[m]? = some x->(cnt (ws.take m) x.1<gI row x.1↔R m)) /\ ∀h:Nat,0<=gI row (h:Int)/\gI row (h:Int)<=cnt (ws.take B) (h:Int)
theorem qR.mono {ws:List bK} {hn:Nat} {row:List Int} {R:Nat->Prop} {B B':Nat} (h:qR ws hn row R B) (l:B<=B'):qR ws hn row R B':=⟨h.1,h.2.1,fun x=>⟨(h.2.2 x).1,by
 have:=ji ws (x:Int) B (B' - B);rw [show B+(B' - B)=B' by omega] at this;exact Int.le_trans (h.2.2 x).2 this⟩⟩
def bN (H:Hp) (t:Addr) (ex:List Addr) (n:Nat) (C:Hp->Nat->Addr->Prop):Prop:=∃rs:List Addr,H t=some (.lst (rs.map V.ref))/\rs.length=n /\ ∀j r,rs[j]? = some r->(∀e∈ex,r≠e)/\C H j r
def RowC (ws:List bK) (hn:Nat):Hp->Nat->Addr->Prop:=fun H j r=>∃a:List Int,H r=some (.lst (a.map V.int))/\qR ws hn a (fun m=>m=j\/vp ws j m) (j+1)
def WK (ws:List bK):Hp->Nat->Addr->Prop:=fun H j r=>∃ns:List Nt,gq H r ns/\ns.Perm (bC ws j (cL ws j j))/\yw ns
def Keeps (C:Hp->Nat->Addr->Prop):Prop:=∀(H H':Hp) (j:Nat) (r:Addr),C H j r->(∃o,H r=some o)/\((∀a xs,H a=some (HO.tup xs)->H' a=some (HO.tup xs))->(∀o,H r=some o->H' r=some o)->C H' j r)
theorem gK (ws:List bK) (hn:Nat):Keeps (RowC ws hn):=fun H H' j r ⟨a,h,q⟩=>⟨⟨_,h⟩,fun _ k=>⟨a,k _ h,q⟩⟩
theorem jP (ws:List bK):Keeps (WK ws):=fun H H' j r ⟨ns,⟨vs,h,d⟩,q⟩=>⟨⟨_,h⟩,fun t k=>⟨ns,⟨vs,k _ h,aL.keep t _ (cj _ jQ ns) d⟩,q⟩⟩
theorem bN.same {H H':Hp} {t:Addr} {ex:List Addr} {n:Nat} {C:Hp->Nat->Addr->Prop} (kc:Keeps C) (h:bN H t ex n C) (k:Same H H'):bN H' t ex n C:=by
 obtain ⟨rs,e,l,q⟩:=h;exact ⟨rs,k _ _ e,l,fun j r hj=>⟨(q j r hj).1,((kc H H' j r (q j r hj).2).2 k.tups fun o ho=>k _ _ ho)⟩⟩
theorem bN.kp {H H':Hp} {t x:Addr} {ys:List V} {ex:List Addr} {n:Nat} {C:Hp->Nat->Addr->Prop} (kc:Keeps C) (h:bN H t ex n C) (k:Kp x H H') (hx:H x=some (.lst ys)) (ne:t≠x) (m:x∈ex):bN H' t ex n C:=by
 obtain ⟨rs,e,l,q⟩:=h;exact ⟨rs,k _ _ e ne,l,fun j r hj=>⟨(q j r hj).1,((kc H H' j r (q j r hj).2).2 (k.tups hx) fun o ho=>k _ _ ho ((q j r hj).1 x m))⟩⟩
theorem bN.move {H2 H':Hp} {t:Addr} {ex:List Addr} {n:Nat} {C:Hp->Nat->Addr->Prop} (kc:Keeps C) (h:bN H2 t ex n C) (W:List Addr) (k:∀b o,H2 b=some o->b∉W->H' b=some o) (tw:t∉W) (hw:∀x∈W,x∈ex\/H2 x=none) (tp:∀a xs,H2 a=some (HO.tup xs)->H' a=some (HO.tup xs)):bN H' t ex n C:=by
 obtain ⟨rs,e,l,q⟩:=h;refine ⟨rs,k _ _ e tw,l,fun j r hj=>⟨(q j r hj).1, ?_⟩⟩;have c:=(q j r hj).2;refine (kc H2 H' j r c).2 tp fun o ho=>k _ _ ho fun m=> ?_;rcases hw r m with z|z
 ·exact (q j r hj).1 r z rfl
 ·rw [ho] at z;cases z
theorem bN.push {H:Hp} {t r:Addr} {ex:List Addr} {n:Nat} {C:Hp->Nat->Addr->Prop} (kc:Keeps C) (h:bN H t ex n C) (te:t∈ex) (re:∀e∈ex,r≠e) (c:C H n r):∃rs:List Addr,H t=some (.lst (rs.map V.ref))/\rs.length=n/\bN (upd H t (.lst (rs.map V.ref++[V.ref r]))) t ex (n+1) C:=by
 obtain ⟨rs,e,l,q⟩:=h;have k:Kp t H (upd H t (.lst (rs.map V.ref++[V.ref r]))):=Kp.set;have mv:∀j r',(∀e∈ex,r'≠e)->C H j r'->C (upd H t (.lst (rs.map V.ref++[V.ref r]))) j r':=fun j r' x c=>(kc _ _ j r' c).2 (k.tups e) fun o ho=>k _ _ ho (x t te);refine ⟨rs,e,l,rs++[r],by rw [aq,List.map_append];rfl,by simp [l],fun j r' hj=> ?_⟩
 by_cases hl:j<rs.length
 ·rw [List.getElem?_append_left hl] at hj
  exact ⟨(q j r' hj).1,mv _ _ (q j r' hj).1 (q j r' hj).2⟩
 ·have h2:=(List.getElem?_eq_some_iff.mp hj).1
  rw [List.length_append,List.length_singleton] at h2;have em:j=rs.length:=by (clear hj l e;omega)
  subst em;rw [List.getElem?_append_right (Nat.le_refl _)] at hj;simp at hj;subst hj;rw [l];exact ⟨re,mv _ _ re c⟩
def RJ (hn:Nat) (a b:List Int):List Int:=(List.range hn).map fun h:Nat=>mx (gI a (h:Int)) (gI b (h:Int))
theorem O6 {hn:Nat} {a b:List Int} {h:Int} (h0:0<=h) (h1:h<hn):gI (RJ hn a b) h=mx (gI a h) (gI b h):=by
 obtain ⟨m,rfl⟩:=Int.eq_ofNat_of_zero_le h0;have hm:m<hn:=by (clear h0;omega)
 refine xG ?_;unfold RJ;rw [List.getElem?_map,List.getElem?_range hm];rfl
theorem M4 {ws:List bK} {hn B:Nat} {a b:List Int} {R S:Nat->Prop} (ok:∀x∈ws,0<=x.1/\x.1<(hn:Int)) (p:qR ws hn a R B) (q:qR ws hn b S B):qR ws hn (RJ hn a b) (fun m=>R m\/S m) B:=by
 refine ⟨by unfold RJ;simp,fun m x ex=> ?_,fun h=> ?_⟩
 ·obtain ⟨x0,x1⟩:=ok x (List.mem_of_getElem? ex)
  rw [O6 x0 x1,Og,p.2.1 m x ex,q.2.1 m x ex]
 ·by_cases hl:h<hn
  ·rw [O6 (by omega) (by omega)]
   have p':=p.2.2 h;have q':=q.2.2 h;unfold mx;split<;>exact ⟨by omega,by omega⟩
  ·have e:gI (RJ hn a b) (h:Int)=0:=by
    unfold gI RJ;rw [Int.toNat_natCast,List.getElem?_eq_none (by simp;omega)];rfl
   rw [e];exact ⟨Int.le_refl _,jx _ _⟩
theorem qR.iff {ws:List bK} {hn B:Nat} {a:List Int} {R S:Nat->Prop} (h:qR ws hn a R B) (e:∀m,R m↔S m):qR ws hn a S B:=⟨h.1,fun m x ex=>(h.2.1 m x ex).trans (e m),h.2.2⟩
theorem M5 {ws:List bK} {hn j:Nat} {a:List Int} {y:bK} (ok:∀x∈ws,0<=x.1/\x.1<(hn:Int)) (p:qR ws hn a (vp ws j) j) (ey:ws[j]? = some y):qR ws hn (a.set y.1.toNat (cnt (ws.take j) y.1+1)) (fun m=>m=j\/vp ws j m) (j+1):=by
 obtain ⟨y0,y1⟩:=ok y (List.mem_of_getElem? ey);have al:=p.1;refine ⟨by simp [al],fun m x ex=> ?_,fun h=> ?_⟩
 rotate_left
 ·have t:ws.take (j+1)=ws.take j++[y]:=by rw [List.take_add_one,ey];rfl
  have ph:=p.2.2 h;have c0:=jx (ws.take j) y.1;rw [Ao y0 (by omega) (by omega),t,iD]
  by_cases e:(h:Int)=y.1
  ·rw [if_pos e,if_pos e,e]
   exact ⟨by omega,by omega⟩
  ·rw [if_neg e,if_neg e]
   exact ph
 obtain ⟨x0,x1⟩:=ok x (List.mem_of_getElem? ex);rw [Ao y0 (by (clear x1 x0 ex y0 ey;omega)) x0]
 by_cases e:x.1=y.1
 ·rw [if_pos e,e]
  by_cases l:m<=j
  ·have:=ji ws y.1 m (j - m)
   rw [show m+(j - m)=j by (clear this e x1 x0 ex al y1 y0 ey;omega)] at this;refine ⟨fun _=> ?_,fun _=>by (clear l e x1 x0 ex al y1 y0 ey;omega)⟩
   by_cases em:m=j
   ·exact .inl em
   ·refine .inr (.one ?_)
    unfold uL U7;rw [ex,ey,decide_eq_true (show m<j by (clear this e x1 x0 ex al y1 y0 ey;omega))];simp [e]
  ·have:=ji ws y.1 (j+1) (m - (j+1))
   rw [show j+1+(m - (j+1))=m by (clear this e x1 x0 ex al y1 y0 ey;omega)] at this;have t:ws.take (j+1)=ws.take j++[y]:=by rw [List.take_add_one,ey];rfl
   rw [t,iD,if_pos rfl] at this;refine ⟨fun h=>by (clear t l e x1 x0 ex al y1 y0 ey;omega),fun h=> ?_⟩;rcases h with h|h
   · (clear t this e x1 x0 ex al y1 y0 ey;omega)
   ·have:=h.lt;(clear t e x1 x0 ex al y1 y0 ey;omega)
 ·rw [if_neg e,p.2.1 m x ex]
  constructor
  ·intro z;exact .inr z
  ·rintro (z|z)
   ·subst z
    rw [ex] at ey;cases ey;exact absurd rfl e
   ·exact z
theorem Vc (hn:Int):(List.replicate hn.toNat [V.int 0]).flatten=(List.replicate hn.toNat (0:Int)).map V.int:=by
 generalize hn.toNat=n
 induction n with
 | zero=>rfl
 | succ n ih=>rw [List.replicate_succ,List.flatten_cons,ih,List.replicate_succ,List.map_cons];rfl
theorem Aq (n:Nat) (h:Int):gI (List.replicate n 0) h=0:=by unfold gI;rw [List.getElem?_replicate];split<;>rfl
def Bq (ws:List bK) (n:Nat):List Int:=(List.range n).map fun i=>cnt (ws.take i) (hnd ws i)
theorem SQ {ws:List bK} {n i:Nat} (h:i<n):(Bq ws n)[i]? = some (cnt (ws.take i) (hnd ws i)):=by
 unfold Bq;rw [List.getElem?_map,List.getElem?_range h];rfl
theorem Pr (ws:List bK) (n:Nat):Bq ws (n+1)=Bq ws n++[cnt (ws.take n) (hnd ws n)]:=by
 unfold Bq;rw [List.range_succ,List.map_append];rfl
theorem uN (ws:List bK) (j:Nat) (l l':List Nat):bC ws j (l++l')=bC ws j l++bC ws j l':=by
 unfold bC;rw [List.filter_append,List.map_append]
def wu (K:PySem.W.Frag):Sp:=fun vs H Q _=>∃(a:Addr) (hn:Int) (ws:List bK),vs=[.ref a,.int hn]/\gn H a ws/\(∀x∈ws,mY hn x)/\1<=hn/\hn<=8/\ws.length<=300 /\
 ∀(p t1 t2:Addr) (H':Hp),H' p=some (.tup [.ref t1,.ref t2])->bN H' t1 [] ws.length (RowC ws hn.toNat)->bN H' t2 [] ws.length (WK ws)->H t1=none->H t2=none->Same H H'->Q (.ref p) H'
theorem bN.any {H:Hp} {t:Addr} {ex:List Addr} {n:Nat} {C:Hp->Nat->Addr->Prop} (h:bN H t ex n C):bN H t [] n C:=by
 obtain ⟨rs,e,l,q⟩:=h;exact ⟨rs,e,l,fun j r hj=>⟨fun _ z=>absurd z (by simp),(q j r hj).2⟩⟩
def Xa (a:Addr) (hn:Int) (rw' cl br mn:Addr) (x1 x2 x3 x4 x5 x6 x7 x8 x9 x10:Option V):St:=[some (.ref a),some (.int hn),some (.ref rw'),some (.ref cl),some (.ref br),some (.ref mn),x1,x2,x3,x4,x5,x6,x7,x8,x9,x10]
structure aad (ws:List bK) (hn:Int) (H H2:Hp) (a rw' cl br mn:Addr) (j:Nat):Prop where
 sm:Same H H2
 rows:bN H2 rw' [rw',cl,br,mn] j (RowC ws hn.toNat)
 brt:bN H2 br [rw',cl,br,mn] j (WK ws)
 called:H2 cl=some (.lst ((Bq ws j).map V.int))
 many:∃ms:List Int,H2 mn=some (.lst (ms.map V.int))/\ms.length=hn.toNat /\ ∀h:Int,0<=h->h<hn->gI ms h=cnt (ws.take j) h
theorem RW {c:Bool} {A B:Prop} (a:A) (b:¬c=true->A->B):if c=true then A else B:=by
 split
 ·exact a
 ·rename_i h
  exact b h a
theorem J9 {f:Addr} {fd:FuncData} (F:jZ K "_law_table" "_law_table" iw f fd) (Bt:qY mg):cu P w K mg base jY 1 f fd ["touches","hands"] (wu K):=by
 refine F.ok cI (fun vs H Q E h=> ?_) (fun cdv A outer s H vs Q E hr h=> ?_)
 ·obtain ⟨a,hn,ws,rfl,_⟩:=h
  rfl
 ·obtain ⟨a,hn,ws,rfl,W,ok,hn0,hn1,wl,k⟩:=h
  obtain ⟨vs,ha,dv⟩:=id W;have fH:vs.length=ws.length:=by rw [dv.length,List.length_map]
  have Lk:∀x∈ws,0<=x.1/\x.1<((hn.toNat:Nat):Int):=fun x hx=>⟨(ok x hx).1.1,by have:=(ok x hx).1.2;(clear fH ha wl hn1 hn0;omega)⟩
  refine ⟨_,(aC (aW (i:=2) cI.nd rfl (Or.inl rfl) (bO au))
   (aC (aW (i:=3) cI.nd rfl (Or.inl rfl) (bO au))
   (aC (aW (i:=4) cI.nd rfl (Or.inl rfl) (bO au))
   (aC (aW (i:=5) cI.nd rfl (Or.inl rfl) (bB Gf (bO (ak aF au)) (pv 1)))
   (aC (mz PassesOwn.never rfl (iC (K:=K) rfl (pv 0)) (vK (K:=K) (n:=3) rfl rfl (fO (bw (i:=6) cI.nd rfl (Or.inl rfl)) (fO (bw (i:=7) cI.nd rfl (Or.inl rfl)) (fO (bw (i:=8) cI.nd rfl (Or.inl rfl)) vJ))))
   (aC (aW (i:=9) cI.nd rfl (Or.inl rfl) (bB Gf (bO (ak aF au)) (pv 1)))
   (aC (aW (i:=10) cI.nd rfl (Or.inl rfl) (bO au))
   (aC (mz PassesOwn.never rfl (zq (by rfl) Bt.fD (ak (bB wM (aO (aU (K:=K) rfl) (by rfl) Bt.fX dI (ak (pv 2) au)) aF) (ak (wK qC aF) (ak (wK qC aF) au)))) (bw (i:=11) cI.nd rfl (Or.inl rfl))
   (aC (mF (aR (aM (K:=K) rfl) (pv 0) (pv 11) (fun _ _=>rfl)) (vK (K:=K) (n:=3) rfl rfl (fO (bw (i:=12) cI.nd rfl (Or.inl rfl)) (fO (bw (i:=13) cI.nd rfl (Or.inl rfl)) (fO (bw (i:=14) cI.nd rfl (Or.inl rfl)) vJ)))))
   (aC (aW (i:=15) cI.nd rfl (Or.inl rfl) (nU (eO k_ (pv 12) (pv 6) (bD _)) (nU (eO mW (pv 14) (pv 8) (bD _)) (mG (Nm (eO k_ (pv 7) cY (bD _)) (mG (eO k_ (pv 13) cY (bD _))))))))
   (aC (dN (PW.pt (z_ (gG (pv 15)) (vD (bY T_ (aR (aM (K:=K) rfl) (pv 3) (pv 11) (fun _ _=>rfl)) (aR (aM (K:=K) rfl) (pv 9) (pv 12) (fun _ _=>rfl)) (bD _))))) (aH (cW (eU (K:=K) rfl (pv 10) (ak (nR (ak (pv 12) (ak (aR (aM (K:=K) rfl) (pv 3) (pv 11) (fun _ _=>rfl)) (ak (pv 6) (ak (aR (aM (K:=K) rfl) (pv 5) (pv 6) (fun _ _=>rfl)) au))))) au)))) bQ)
   (aH (dN (PW.pt (wG (gG (pv 15)) (qH (bY mW (pv 12) (pv 6) (bD _))))) (aH (vG (i:=9) rfl cI.nd rfl (Or.inl rfl) (N:=["a","b"]) (own:=["a","b"]) (caps:=[]) (bf.of (by kernel_rfl)) (Ra (K:=K) rfl (by rfl) Bt.ZP (ak (pv 9) (ak (aR (aM (K:=K) rfl) (pv 2) (pv 11) (fun _ _=>rfl)) au))) (fun _ _ _ _=>(vK (K:=K) (n:=2) rfl rfl (fO (bw (i:=0) (show List.Nodup (["a","b"]:List Str) by decide +kernel) rfl (Or.inl rfl)) (fO (bw (i:=1) (show List.Nodup (["a","b"]:List Str) by decide +kernel) rfl (Or.inl rfl)) vJ)))) (fun _ _ _ _=>eN) (fun _ _ _ _=>(aO (zH rfl) (by rfl) Bt.Ut Px (ak (pv 0) (ak (pv 1) au)))))) bQ))))))
   (aC (cW (eU (K:=K) rfl (pv 3) (ak (aR (aM (K:=K) rfl) (pv 5) (pv 6) (fun _ _=>rfl)) au)))
   (aC (mF (bB fu (aR (aM (K:=K) rfl) (pv 5) (pv 6) (fun _ _=>rfl)) aF) (qI (pv 5) (pv 6) set_list))
   (aC (mF (aR (aM (K:=K) rfl) (pv 5) (pv 6) (fun _ _=>rfl)) (qI (pv 9) (pv 6) set_list))
   (aC (cW (eU (K:=K) rfl (pv 2) (ak (pv 9) au)))
   (aH (cW (eU (K:=K) rfl (pv 4) (ak (aO (kh (K:=K) rfl) (by rfl) Bt.sO o9 (ak (pv 10) au)) au))))))))))))
   (aH (aX (nR (ak (pv 2) (ak (pv 4) au)))))))))), ?_⟩
  refine ⟨(by show 0<=sizeLine;decide),fun rw' h1=> ?_⟩;have s1:=aD (o:=HO.lst []) h1;refine ⟨(by show 0<=sizeLine;decide),fun cl h2=> ?_⟩;have s2:=aD (o:=HO.lst []) h2;refine ⟨(by show 0<=sizeLine;decide),fun br h3=> ?_⟩;have s3:=aD (o:=HO.lst []) h3;refine ⟨(by show 1<=sizeLine;decide),fun l h4=> ?_⟩;have s4:=aD (o:=HO.lst [V.int 0]) h4;refine ⟨_,rfl,l,_,_,rfl,rfl,aq,by (clear h4 h3 h2 h1 fH ha wl hn1;omega),by (clear h4 h3 h2 h1 fH ha wl hn0;omega),by rw [sizeLine_eq];simp;(clear h4 h3 h2 h1 fH ha wl hn0;omega),fun mn h5=> ?_⟩;rw [Vc];have s5:=aD (o:=HO.lst ((List.replicate hn.toNat (0:Int)).map V.int)) h5;have n12:rw'≠cl:=aB aq h2;have n13:rw'≠br:=aB (s2 _ _ aq) h3;have n23:cl≠br:=aB aq h3;have n15:rw'≠mn:=aB (s4 _ _ (s3 _ _ (s2 _ _ aq))) h5;have n25:cl≠mn:=aB (s4 _ _ (s3 _ _ aq)) h5;have n35:br≠mn:=aB (s4 _ _ aq) h5;have Vb:=(((s1.trans s2).trans s3).trans s4).trans s5;have f1:H rw'=none:=h1;have f2:H cl=none:=s1.free h2;have f3:H br=none:=(s1.trans s2).free h3;have f5:H mn=none:=(((s1.trans s2).trans s3).trans s4).free h5
  have I0:aad ws hn H _ a rw' cl br mn 0:=⟨Vb,⟨[],s5 _ _ (s4 _ _ (s3 _ _ (s2 _ _ aq))),rfl,fun j r hj=>by simp at hj⟩,⟨[],s5 _ _ (s4 _ _ aq),rfl,fun j r hj=>by simp at hj⟩,s5 _ _ (s4 _ _ (s3 _ _ aq)),
   ⟨List.replicate hn.toNat 0,aq,by simp,fun h _ _=>by rw [Aq];rfl⟩⟩
  generalize (upd (upd (upd (upd (upd H rw' (HO.lst [])) cl (HO.lst [])) br (HO.lst [])) l (HO.lst [V.int 0])) mn (HO.lst ((List.replicate hn.toNat (0:Int)).map V.int)))=H5 at I0 ⊢;refine ⟨_,rfl,a,rfl,⟨_,bA.of (I0.sm _ _ ha)⟩, ?_⟩
  refine xJ (K:=K) (a:=a) (xs:=vs) (fun j σ H2=>∃x1 x2 x3 x4 x5 x6 x7 x8 x9 x10,σ=Xa a hn rw' cl br mn x1 x2 x3 x4 x5 x6 x7 x8 x9 x10/\aad ws hn H H2 a rw' cl br mn j)
   ⟨none,none,none,none,none,none,none,none,none,none,rfl,I0⟩ (fun j σ H2 _ ⟨_,_,_,_,_,_,_,_,_,_,_,I⟩=>bA.of (I.sm _ _ ha)) ?_ ?_
  ·rintro j v σ H2 hj ⟨x1,x2,x3,x4,x5,x6,x7,x8,x9,x10,rfl,I⟩
   have jl:j<ws.length:=by have:=(List.getElem?_eq_some_iff.mp hj).1;(clear hj f5 f3 f2 f1 n35 n25 n15 n23 n13 n12 h5 h4 h3 h2 h1 ha wl hn1 hn0;omega)
   obtain ⟨y,ey⟩:∃y,ws[j]? = some y:=⟨ws[j],by simp [jl]⟩;obtain ⟨dd,ed,dy⟩:=dv.get hj;rw [List.getElem?_map,ey] at ed;cases ed;obtain ⟨t,rfl,ht⟩:=oA dy;obtain ⟨⟨y0,y1⟩,ykd,_⟩:=ok y (List.mem_of_getElem? ey);have m_:=ur ey;refine ⟨t,_,rfl,gC.of (I.sm _ _ ht),rfl,_,_,rfl,_,_,rfl,_,_,rfl,rfl, ?_⟩;refine ⟨(by show 1<=sizeLine;decide),fun l0 hl0=> ?_⟩;have s6:=aD (o:=HO.lst [V.int 0]) hl0;refine ⟨_,rfl,l0,_,_,rfl,rfl,aq,by (clear hl0 m_ y1 y0 hj ht ey jl f5 f3 f2 f1 n35 n25 n15 n23 n13 n12 h5 h4 h3 h2 h1 fH ha wl hn1;omega),by (clear hl0 m_ y1 y0 hj ht ey jl f5 f3 f2 f1 n35 n25 n15 n23 n13 n12 h5 h4 h3 h2 h1 fH ha wl hn0;omega),by rw [sizeLine_eq];simp;(clear hl0 m_ y1 y0 hj ht ey jl f5 f3 f2 f1 n35 n25 n15 n23 n13 n12 h5 h4 h3 h2 h1 fH ha wl hn0;omega),fun gt hgt=> ?_⟩;rw [Vc];have s7:=aD (o:=HO.lst ((List.replicate hn.toNat (0:Int)).map V.int)) hgt;refine ⟨(by show 0<=sizeLine;decide),fun fr hfr=> ?_⟩;have s8:=aD (o:=HO.lst []) hfr;have s27:=s6.trans s7;have s28:=s27.trans s8;have g0:H2 gt=none:=s6.free hgt;have r0:H2 fr=none:=s27.free hfr;have oU:gt≠fr:=aB aq hfr;have gP:(upd (upd (upd H2 l0 (HO.lst [V.int 0])) gt (HO.lst ((List.replicate hn.toNat (0:Int)).map V.int))) fr (HO.lst [])) gt=some (.lst ((List.replicate hn.toNat (0:Int)).map V.int)):=s8 _ _ aq;have gQ:(upd (upd (upd H2 l0 (HO.lst [V.int 0])) gt (HO.lst ((List.replicate hn.toNat (0:Int)).map V.int))) fr (HO.lst [])) fr=some (.lst []):=aq;generalize (upd (upd (upd H2 l0 (HO.lst [V.int 0])) gt (HO.lst ((List.replicate hn.toNat (0:Int)).map V.int))) fr (HO.lst []))=H8 at s28 gP gQ ⊢;obtain ⟨rs,hrs,rl,_⟩:=id I.rows;refine ⟨_,rfl,rw',_,rfl,.inl (bA.of (s28 _ _ hrs)),_,_,rfl,rfl,_,rfl,_,rfl,(j:Int) - 1, -1,by rw [List.length_map,rl],⟨by (clear rl hrs gQ gP oU r0 g0 hfr hgt hl0 m_ y1 y0 hj ht ey jl f5 f3 f2 f1 n35 n25 n15 n23 n13 n12 h5 h4 h3 h2 h1 fH ha wl hn1 hn0;omega),by (clear rl hrs gQ gP oU r0 g0 hfr hgt hl0 m_ y1 y0 hj ht ey f5 f3 f2 f1 n35 n25 n15 n23 n13 n12 h5 h4 h3 h2 h1 fH ha hn1 hn0;omega),by (clear rl hrs gQ gP oU r0 g0 hfr hgt hl0 m_ y1 y0 hj ht ey jl f5 f3 f2 f1 n35 n25 n15 n23 n13 n12 h5 h4 h3 h2 h1 fH ha wl hn1 hn0;omega),by (clear rl hrs gQ gP oU r0 g0 hfr hgt hl0 m_ y1 y0 hj ht ey jl f5 f3 f2 f1 n35 n25 n15 n23 n13 n12 h5 h4 h3 h2 h1 fH ha wl hn1 hn0;omega)⟩, ?_⟩;rw [show ((j:Int) - 1 - (-1)).toNat=j by (clear rl hrs gQ gP oU r0 g0 hfr hgt hl0 m_ y1 y0 hj ht ey jl f5 f3 f2 f1 n35 n25 n15 n23 n13 n12 h5 h4 h3 h2 h1 fH ha wl hn1 hn0;omega)]
   refine xH (hi:=(j:Int) - 1) (n:=j) (fun i σ H9=>∃(gt:Addr) (row:List Int) (x6 x7 x8 x9 x10:Option V),σ=Xa a hn rw' cl br mn (some (.int y.1)) (some (.str y.2.1)) (some (.int y.2.2)) (some (.ref gt)) (some (.ref fr)) x6 x7 x8 x9 x10/\Same H2 H9/\H2 gt=none/\gt≠fr/\H9 gt=some (.lst (row.map V.int))/\qR ws hn.toNat row (Jz ws j (j - i)) j/\gq H9 fr (bC ws j (cL ws j i)))
    ⟨gt,List.replicate hn.toNat 0,_,_,_,_,_,rfl,s28,g0,oU,gP,⟨by simp,fun m x ex=>⟨fun z=> ?_,fun ⟨x,q1,q2,_⟩=> ?_⟩,fun h=>by rw [Aq];exact ⟨Int.le_refl _,jx _ _⟩⟩,⟨[],gQ,by simp [cL,bC,aL]⟩⟩ ?_ ?_
   ·rw [Aq] at z
    have:=jx (ws.take m) x.1;omega
   ·have:=(tL q2).1
    omega
   ·rintro i σ H9 hi ⟨gt,row,x6,x7,x8,x9,x10,rfl,s9,g0,oU,tu,rh,N9⟩
    have ee:(j:Int) - 1 - (i:Int)=((j - 1 - i:Nat):Int):=by (clear tu oU g0 rl hrs gQ gP r0 hfr hgt hl0 m_ y1 y0 hj ht ey jl f5 f3 f2 f1 n35 n25 n15 n23 n13 n12 h5 h4 h3 h2 h1 fH ha wl hn1 hn0;omega)
    rw [ee];have bs:=yp ws j i;have bl:=lB ws j i;generalize he:j - 1 - i=e at bs;have el:e<ws.length:=by (clear bs bl ee tu oU g0 hi rl hrs gQ gP r0 hfr hgt hl0 m_ y1 y0 hj ht ey f5 f3 f2 f1 n35 n25 n15 n23 n13 n12 h5 h4 h3 h2 h1 fH ha wl hn1 hn0;omega)
    have ej:e<j:=by (clear el bs bl ee tu oU g0 rl hrs gQ gP r0 hfr hgt hl0 m_ y1 y0 hj ht ey jl f5 f3 f2 f1 n35 n25 n15 n23 n13 n12 h5 h4 h3 h2 h1 fH ha wl hn1 hn0;omega)
    have e1:j - i=e+1:=by (clear ej el bs bl ee tu oU g0 rl hrs gQ gP r0 hfr hgt hl0 m_ y1 y0 hj ht ey jl f5 f3 f2 f1 n35 n25 n15 n23 n13 n12 h5 h4 h3 h2 h1 fH ha wl hn1 hn0;omega)
    have e2:j - (i+1)=e:=by (clear e1 ej el bs bl ee tu oU g0 hi rl hrs gQ gP r0 hfr hgt hl0 m_ y1 y0 hj ht ey jl f5 f3 f2 f1 n35 n25 n15 n23 n13 n12 h5 h4 h3 h2 h1 fH ha wl hn1 hn0;omega)
    rw [e1] at rh;rw [e2];obtain ⟨x,ex⟩:∃x,ws[e]? = some x:=⟨ws[e],by simp [el]⟩;obtain ⟨⟨x0,x1'⟩,xkd,_⟩:=ok x (List.mem_of_getElem? ex);have Lp:=ur ex;have sH9:=I.sm.trans s9;obtain ⟨us,tx,hus,Uq,htx⟩:=qZ (W.same sH9) ex;have vf:uL ws e j=(decide (x.1=y.1)||mt x y):=by unfold uL U7;rw [ex,ey,decide_eq_true ej,Bool.true_and]
    have jo:=rh.1;refine ⟨_,rfl,_,rfl,_,_,_,_,rfl,rfl,bA.of hus,bZ Uq,tx,_,rfl,gC.of htx,rfl,_,_,rfl,_,_,rfl,_,_,rfl,rfl, ?_⟩;dsimp only;refine jA (fun σ Ju=>Ju=H9/\σ=Xa a hn rw' cl br mn (some (.int y.1)) (some (.str y.2.1)) (some (.int y.2.2)) (some (.ref gt)) (some (.ref fr)) (some (.int (e:Int))) (some (.int x.1)) (some (.str x.2.1)) (some (.int x.2.2)) (some (.bl (mt x y)))) (fun D' hD' _=> ?_) ?_
    ·have fin:∀b:Bool,b=mt x y->D'.nx (Xa a hn rw' cl br mn (some (.int y.1)) (some (.str y.2.1)) (some (.int y.2.2)) (some (.ref gt)) (some (.ref fr)) (some (.int (e:Int))) (some (.int x.1)) (some (.str x.2.1)) (some (.int x.2.2)) (some (.bl b))) H9:=fun b hb=>hD' _ _ ⟨rfl,by rw [hb]⟩
     refine ⟨_,rfl,_,rfl,rfl,_,rfl, ?_⟩
     by_cases c1:x.1=y.1
     ·rw [show (!decide (V.int x.1=V.int y.1))=false by simp [c1]]
      refine gb ?_;exact fin false (by unfold mt;rw [if_pos c1])
     rw [show (!decide (V.int x.1=V.int y.1))=true by simp [c1]];refine iV ?_;refine ⟨_,rfl,_,rfl,rfl,_,rfl, ?_⟩
     by_cases c2:x.2.2=y.2.2
     rotate_left
     ·rw [show decide (V.int x.2.2=V.int y.2.2)=false by simp [c2]]
      refine gb ?_;exact fin false (by unfold mt;rw [if_neg c1,if_neg c2])
     rw [show decide (V.int x.2.2=V.int y.2.2)=true by simp [c2]];refine iV ?_;refine ⟨_,rfl,rfl,_,rfl, ?_⟩
     by_cases c3:y.2.1 = "load"
     ·rw [show (!decide (V.str y.2.1=V.str "load"))=false by simp [c3]]
      refine gb ?_;refine ⟨_,rfl,rfl, ?_⟩;refine fin _ ?_;unfold mt;rw [if_neg c1,if_pos c2,c3]
      by_cases c4:x.2.1 = "load"
      ·rw [if_pos c4];simp [c4]
      ·rw [if_neg c4];simp [c4]
     ·rw [show (!decide (V.str y.2.1=V.str "load"))=true by simp [c3]]
      refine iV ?_;refine fin true ?_;unfold mt;rw [if_neg c1,if_pos c2]
      by_cases c4:x.2.1 = "load"
      ·rw [if_pos c4];simp [c3]
      ·rw [if_neg c4]
    rintro σ Ju ⟨rfl,rfl⟩;have jw:Ju cl=some (.lst ((Bq ws j).map V.int)):=s9 _ _ I.called;have hcle:uX ((Bq ws j).map V.int) ((e:Nat):Int)=some (V.int (cnt (ws.take e) (hnd ws e))):=bZ (by rw [List.getElem?_map,SQ ej];rfl);have rx:=rh.2.1 e x ex;refine jA (fun σ Xb=>σ=Xa a hn rw' cl br mn (some (.int y.1)) (some (.str y.2.1)) (some (.int y.2.2)) (some (.ref gt)) (some (.ref fr)) (some (.int (e:Int))) (some (.int x.1)) (some (.str x.2.1)) (some (.int x.2.2)) (some (.bl (mt x y)))/\Same H2 Xb/\Xb gt=some (.lst (row.map V.int))/\gq Xb fr (bC ws j (cL ws j (i+1)))) (fun D' hD' _=> ?_) ?_
    ·have stay:¬(Bare ws j e /\ ¬hnd ws e=hnd ws j)->D'.nx (Xa a hn rw' cl br mn (some (.int y.1)) (some (.str y.2.1)) (some (.int y.2.2)) (some (.ref gt)) (some (.ref fr)) (some (.int (e:Int))) (some (.int x.1)) (some (.str x.2.1)) (some (.int x.2.2)) (some (.bl (mt x y)))) Ju:=fun nb=>hD' _ _ ⟨rfl,s9,tu,by
      rw [bs,uN]
      by_cases b1:Bare ws j e
      ·have b2:hnd ws e=hnd ws j:=Classical.byContradiction fun z=>nb ⟨b1,z⟩
       rw [if_pos b1];simp only [bC,List.filter_cons,b2,not_true_eq_false,decide_false,Bool.false_eq_true,if_false,List.filter_nil,List.map_nil,List.append_nil];exact N9
      ·rw [if_neg b1]
       simp only [bC,List.filter_nil,List.map_nil,List.append_nil];exact N9⟩
     refine ⟨_,rfl,_,rfl, ?_⟩
     by_cases mm:mt x y=true
     rotate_left
     ·have mm':mt x y=false:=by simpa using mm
      refine pC (fun z=>absurd z mm) (fun _=> ?_);refine pC (fun z=>absurd z (by decide)) (fun _=> ?_);refine stay fun z=> ?_;have st:=z.1.1;rw [vf,mm',Bool.or_false] at st;exact z.2 (by rw [Lp,m_];exact of_decide_eq_true st)
     refine pC (fun _=> ?_) (fun z=>absurd mm z);have hne:¬x.1=y.1:=fun z=>by unfold mt at mm;rw [if_pos z] at mm;cases mm
     have st:uL ws e j=true:=by rw [vf,mm,Bool.or_true]
     refine ⟨_,rfl,_,rfl,_,_,_,_,rfl,rfl,bA.of jw,hcle,_,rfl,_,rfl,_,_,_,_,rfl,rfl,bA.of tu,yr x0 (by (clear st hne mm rx hcle jw htx hus tu vf Uq Lp x0 ex e2 e1 ej el bs he bl ee oU g0 hi rl hrs gQ gP r0 hfr hgt hl0 m_ y1 y0 hj ht ey jl f5 f3 f2 f1 n35 n25 n15 n23 n13 n12 h5 h4 h3 h2 h1 fH ha wl hn1 hn0;omega)),_,_,rfl,rfl,_,rfl, ?_⟩;rw [Lp]
     by_cases cv:Jz ws j (e+1) e
     ·have lt:=rx.mpr cv
      rw [decide_eq_false (show ¬gI row x.1<=cnt (ws.take e) x.1 by (clear st hne mm rx hcle jw htx hus tu jo vf Uq Lp x1' x0 ex e2 e1 ej el bs he bl ee oU g0 hi rl hrs gQ gP r0 hfr hgt hl0 m_ y1 y0 hj ht ey jl f5 f3 f2 f1 n35 n25 n15 n23 n13 n12 h5 h4 h3 h2 h1 fH ha wl hn1 hn0;omega))];refine gb ?_;exact stay fun z=>z.1.2 cv
     ·have ge:¬cnt (ws.take e) x.1<gI row x.1:=fun z=>cv (rx.mp z)
      rw [decide_eq_true (show gI row x.1<=cnt (ws.take e) x.1 by (clear cv st hne mm rx hcle jw htx hus tu jo vf Uq Lp x1' x0 ex e2 e1 ej el bs he bl ee oU g0 hi rl hrs gQ gP r0 hfr hgt hl0 m_ y1 y0 hj ht ey jl f5 f3 f2 f1 n35 n25 n15 n23 n13 n12 h5 h4 h3 h2 h1 fH ha wl hn1 hn0;omega))];refine iV ?_;obtain ⟨ms,hm,ml,mg⟩:=I.many;obtain ⟨ts,hts,Y7⟩:=id N9;have tl:ts.length<=i:=by rw [Y7.length,List.length_map];exact Nat.le_trans (j7 ws j _) bl
      refine ⟨_,rfl,.inl ⟨rfl,_,bA.of hts⟩,_,rfl,_,rfl,_,rfl,_,_,_,_,rfl,rfl,bA.of jw,hcle,_,rfl,_,rfl,_,rfl,_,_,_,_,rfl,rfl,bA.of (s9 _ _ hm),yr y0 (by (clear tl hts hm ge cv st hne mm rx hcle jw htx hus tu jo vf Uq Lp x1' x0 ex e2 e1 ej el bs he bl ee oU g0 hi rl hrs gQ gP r0 hfr hgt hl0 m_ y0 hj ht ey jl f5 f3 f2 f1 n35 n25 n15 n23 n13 n12 h5 h4 h3 h2 h1 fH ha wl hn1 hn0;omega)),(by show 4<=sizeLine;decide),fun q hq=> ?_⟩;rw [mg y.1 y0 y1,←Lp,←m_];have sq:=aD (o:=HO.tup [V.int (hnd ws e),V.int (cnt (ws.take e) (hnd ws e)),V.int (hnd ws j),V.int (cnt (ws.take j) (hnd ws j))]) hq;refine ⟨fr,ts,_,rfl,rfl,sq _ _ hts,by rw [sizeLine_eq];(clear hq hts ml hm ge cv st hne mm rx hcle jw htx hus tu jo vf Uq Lp x1' x0 ex e2 e1 ej el bs he bl ee oU g0 rl hrs gQ gP r0 hfr hgt hl0 m_ y1 y0 hj ht ey f5 f3 f2 f1 n35 n25 n15 n23 n13 n12 h5 h4 h3 h2 h1 fH ha hn1 hn0;omega), ?_⟩;have kf:Kp fr (upd Ju q (HO.tup [V.int (hnd ws e),V.int (cnt (ws.take e) (hnd ws e)),V.int (hnd ws j),V.int (cnt (ws.take j) (hnd ws j))])) (upd (upd Ju q (HO.tup [V.int (hnd ws e),V.int (cnt (ws.take e) (hnd ws e)),V.int (hnd ws j),V.int (cnt (ws.take j) (hnd ws j))])) fr (.lst (ts++[V.ref q]))):=Kp.set;have tf:=kf.tups (sq _ _ hts);refine hD' _ _ ⟨by rw [Lp,m_],fun b u e=>kf _ _ (sq _ _ (s9 _ _ e)) (aB e r0),kf _ _ (sq _ _ tu) oU,ts++[V.ref q],aq, ?_⟩;have nb:Bare ws j e:=⟨st,cv⟩;have hne':¬hnd ws e=hnd ws j:=by rw [Lp,m_];exact hne
      rw [bs,if_pos nb,uN,List.map_append];refine aL.append (aL.keep (fun a xs h=>tf _ _ (sq.tups _ _ h)) _ (cj _ jQ _) Y7) ?_;simp only [bC,List.filter_cons,hne',not_false_eq_true,decide_true,if_true,List.filter_nil,List.map_cons,List.map_nil];exact DR (G8 (x:=jO ws e j) (tf _ _ aq))
    rintro σ Xb ⟨rfl,WQ,Ox,N11⟩;obtain ⟨MP,V6,rl2,rq2⟩:=I.rows.same (gK ws hn.toNat) WQ;have er:e<MP.length:=by (clear V6 Ox rx hcle jw htx hus tu jo vf Uq Lp x1' x0 ex e2 e1 ej el bs bl ee oU g0 rl hrs gQ gP r0 hfr hgt hl0 m_ y1 y0 hj ht ey jl f5 f3 f2 f1 n35 n25 n15 n23 n13 n12 h5 h4 h3 h2 h1 fH ha wl hn1 hn0;omega)
    obtain ⟨rr,err⟩:∃rr,MP[e]? = some rr:=⟨MP[e],by simp [er]⟩;obtain ⟨_,re,RZ,rhe⟩:=rq2 e rr err;have rel:=rhe.1;refine ⟨_,rfl,_,rfl, ?_⟩
    by_cases st:uL ws e j=true
    rotate_left
    ·have mm:mt x y=false:=by
      cases q:mt x y with
      | false=>rfl
      | true=>rw [vf,q,Bool.or_true] at st;exact absurd rfl st
     have hne:¬x.1=y.1:=fun z=>by rw [vf,decide_eq_true z,Bool.true_or] at st;exact absurd rfl st
     rw [mm];refine gb ?_;refine ⟨_,rfl,_,rfl,rfl,_,rfl, ?_⟩;rw [show decide (V.int x.1=V.int y.1)=false by simp [hne]];refine gb ?_;exact ⟨gt,row,_,_,_,_,_,rfl,WQ,g0,oU,Ox,rh.iff fun m=>DY st,N11⟩
    refine RW ?_ (fun mm core=> ?_)
    rotate_left
    ·have mm:mt x y=false:=by simpa using mm
     have heq:x.1=y.1:=by rw [vf,mm,Bool.or_false] at st;exact of_decide_eq_true st
     refine ⟨_,rfl,_,rfl,rfl,_,rfl, ?_⟩;rw [show decide (V.int x.1=V.int y.1)=true by simp [heq]];exact iV core
    refine ⟨_,rfl,_,rfl,_,rfl,_,_,_,_,rfl,rfl,bA.of V6,bZ (by rw [List.getElem?_map,err];rfl),gt,rr,_,_,rfl,bA.of Ox,bA.of RZ,fun D hD=> ?_⟩;refine KY (K:=K) (n:=hn.toNat) (by rw [List.length_map,jo]) (by rw [List.length_map,rel]) (fun h=>some (.int (mx (gI row (h:Int)) (gI re (h:Int))))) hD (bA.of Ox) (bA.of RZ) (by (clear hD st rel RZ err er rl2 V6 Ox rx hcle jw htx hus tu jo vf Uq Lp x1' x0 ex e2 e1 ej el bs he bl ee oU g0 hi rl hrs gQ gP r0 hfr hgt hl0 m_ y1 y0 hj ht ey jl f5 f3 f2 f1 n35 n25 n15 n23 n13 n12 h5 h4 h3 h2 h1 fH ha wl hn0;omega)) (fun h u v Lx G F hu hv s12 kG kF=> ?_) (fun Lx s12 e12=> ?_)
    ·rw [List.getElem?_map] at hu hv
     cases eu:row[h]? with
     | none=>rw [eu] at hu;cases hu
     | some uu=>
       cases ev:re[h]? with
       | none=>rw [ev] at hv;cases hv
       | some vv=>
         rw [eu] at hu;rw [ev] at hv;cases hu;cases hv;exact ⟨_,rfl,_,rfl,_,_,rfl,kF _ Lx (Same.refl _) (by rw [xG eu,xG ev];rfl)⟩
    have aft:Lx D=some (.lst ((RJ hn.toNat row re).map V.int)):=by
     rw [e12];unfold RJ;rw [List.map_map,←List.filterMap_eq_map];rfl
    have nDf:D≠fr:=by
     obtain ⟨_,h,_⟩:=N11;exact (aB h hD).symm
    exact ⟨D,RJ hn.toNat row re,_,_,_,_,_,rfl,WQ.trans s12,WQ.free hD,nDf,aft,(M4 Lk rh (rhe.mono (by omega))).iff fun m=>Jm st,N11.same s12⟩
   ·rintro σ H9 ⟨gt,row,x6,x7,x8,x9,x10,rfl,s9,g0,oU,tu,rh,N9⟩
    rw [Nat.sub_self] at rh;have rh':=rh.iff fun m=>Jl;have jo:=rh'.1;obtain ⟨ms,hm,ml,mg⟩:=I.many;have jw:=s9 _ _ I.called;have hm9:=s9 _ _ hm;have Qo:y.1<ms.length:=by (clear hm9 jw hm jo tu oU g0 rl hrs gQ gP r0 hfr hgt hl0 m_ y0 hj ht ey jl f5 f3 f2 f1 n35 n25 n15 n23 n13 n12 h5 h4 h3 h2 h1 fH ha wl hn1 hn0;omega)
    have SN:(Bq ws j).length=j:=by unfold Bq;simp
    have f1':=I.rows;have Wc:=I.brt;obtain ⟨rs0,vg,_,_⟩:=id I.rows;obtain ⟨bs0,xr,_,_⟩:=id I.brt;refine ⟨_,rfl,.inl ⟨rfl,_,bA.of jw⟩,_,rfl,_,rfl,_,_,_,_,rfl,rfl,bA.of hm9,yr y0 (by (clear xr vg SN Qo hm9 jw hm jo tu oU g0 rl hrs gQ gP r0 hfr hgt hl0 m_ y0 hj ht ey jl f5 f3 f2 f1 n35 n25 n15 n23 n13 n12 h5 h4 h3 h2 h1 fH ha wl hn1 hn0;omega)),cl,_,_,rfl,rfl,jw,by rw [List.length_map,sizeLine_eq];(clear xr vg Qo hm9 jw ml hm jo tu oU g0 rl hrs gQ gP r0 hfr hgt hl0 m_ y1 y0 hj ht ey f5 f3 f2 f1 n35 n25 n15 n23 n13 n12 h5 h4 h3 h2 h1 fH ha hn1 hn0;omega), ?_⟩;rw [mg y.1 y0 y1];have k1:Kp cl H9 (upd H9 cl (.lst ((Bq ws j).map V.int++[V.int (cnt (ws.take j) y.1)]))):=Kp.set;have hm1:=k1 _ _ hm9 n25.symm;refine ⟨_,rfl,_,rfl,_,_,_,_,rfl,rfl,bA.of hm1,yr y0 (by (clear hm1 xr vg SN Qo hm9 jw hm jo tu oU g0 rl hrs gQ gP r0 hfr hgt hl0 m_ y0 hj ht ey jl f5 f3 f2 f1 n35 n25 n15 n23 n13 n12 h5 h4 h3 h2 h1 fH ha wl hn1 hn0;omega)),_,_,rfl,rfl,_,rfl,_,rfl,_,_,_,_,rfl,rfl,hm1,Ak y0 (by rw [List.length_map];(clear hm1 xr vg SN Qo hm9 jw hm jo tu oU g0 rl hrs gQ gP r0 hfr hgt hl0 m_ y0 hj ht ey jl f5 f3 f2 f1 n35 n25 n15 n23 n13 n12 h5 h4 h3 h2 h1 fH ha wl hn1 hn0;omega)), ?_⟩;rw [mg y.1 y0 y1];have k2:Kp mn (upd H9 cl (.lst ((Bq ws j).map V.int++[V.int (cnt (ws.take j) y.1)]))) (upd (upd H9 cl (.lst ((Bq ws j).map V.int++[V.int (cnt (ws.take j) y.1)]))) mn (.lst ((ms.map V.int).set y.1.toNat (V.int (cnt (ws.take j) y.1+1))))):=Kp.set;have hm2:(upd (upd H9 cl (.lst ((Bq ws j).map V.int++[V.int (cnt (ws.take j) y.1)]))) mn (.lst ((ms.map V.int).set y.1.toNat (V.int (cnt (ws.take j) y.1+1))))) mn=some (.lst ((ms.set y.1.toNat (cnt (ws.take j) y.1+1)).map V.int)):=by rw [aq,List.map_set]
    have Dv:=k2 _ _ (aq (H:=H9) (a:=cl) (o:= .lst ((Bq ws j).map V.int++[V.int (cnt (ws.take j) y.1)]))) n25;have CQ:gt≠cl:=(aB I.called g0).symm;have CP:gt≠mn:=(aB hm g0).symm;have Gr:gt≠rw':=(aB vg g0).symm;have GC:gt≠br:=(aB xr g0).symm;have hg2:=k2 _ _ (k1 _ _ tu CQ) CP;have Gz:fr≠cl:=(aB I.called r0).symm;have Gw:fr≠mn:=(aB hm r0).symm;have Gs:fr≠rw':=(aB vg r0).symm;have N2:=(N9.kp (k1.tups jw) k1 Gz).kp (k2.tups hm1) k2 Gw;have T2:∀a xs,H2 a=some (HO.tup xs)->(upd (upd H9 cl (.lst ((Bq ws j).map V.int++[V.int (cnt (ws.take j) y.1)]))) mn (.lst ((ms.map V.int).set y.1.toNat (V.int (cnt (ws.take j) y.1+1))))) a=some (HO.tup xs):=fun a xs h=>k2.tups hm1 _ _ (k1.tups jw _ _ (s9.tups _ _ h));have S2:∀b u,H2 b=some u->b≠cl->b≠mn->(upd (upd H9 cl (.lst ((Bq ws j).map V.int++[V.int (cnt (ws.take j) y.1)]))) mn (.lst ((ms.map V.int).set y.1.toNat (V.int (cnt (ws.take j) y.1+1))))) b=some u:=fun b u e n1 n2=>k2 _ _ (k1 _ _ (s9 _ _ e) n1) n2;generalize (upd (upd H9 cl (.lst ((Bq ws j).map V.int++[V.int (cnt (ws.take j) y.1)]))) mn (.lst ((ms.map V.int).set y.1.toNat (V.int (cnt (ws.take j) y.1+1)))))=Lx at hm2 Dv hg2 N2 S2 T2 ⊢;have W8:gI (ms.set y.1.toNat (cnt (ws.take j) y.1+1)) y.1=cnt (ws.take j) y.1+1:=by rw [Ao y0 (by (clear hg2 Dv hm2 Gs Gw Gz GC Gr CP CQ hm1 xr vg SN Qo hm9 jw hm jo tu oU g0 rl hrs gQ gP r0 hfr hgt hl0 m_ y0 hj ht ey jl f5 f3 f2 f1 n35 n25 n15 n23 n13 n12 h5 h4 h3 h2 h1 fH ha wl hn1 hn0;omega)) y0,if_pos rfl]
    refine ⟨_,rfl,_,rfl,_,_,_,_,rfl,rfl,bA.of hm2,yr y0 (by rw [List.length_set];(clear W8 hg2 Dv hm2 Gs Gw Gz GC Gr CP CQ hm1 xr vg SN Qo hm9 jw hm jo tu oU g0 rl hrs gQ gP r0 hfr hgt hl0 m_ y0 hj ht ey jl f5 f3 f2 f1 n35 n25 n15 n23 n13 n12 h5 h4 h3 h2 h1 fH ha wl hn1 hn0;omega)),_,rfl,_,rfl,_,_,_,_,rfl,rfl,hg2,Ak y0 (by rw [List.length_map];(clear W8 hg2 Dv hm2 Gs Gw Gz GC Gr CP CQ hm1 xr vg SN Qo hm9 jw ml hm tu oU g0 rl hrs gQ gP r0 hfr hgt hl0 m_ y0 hj ht ey jl f5 f3 f2 f1 n35 n25 n15 n23 n13 n12 h5 h4 h3 h2 h1 fH ha wl hn1 hn0;omega)), ?_⟩;rw [W8];have k3:Kp gt Lx (upd Lx gt (.lst ((row.map V.int).set y.1.toNat (V.int (cnt (ws.take j) y.1+1))))):=Kp.set;have hg3:(upd Lx gt (.lst ((row.map V.int).set y.1.toNat (V.int (cnt (ws.take j) y.1+1))))) gt=some (.lst ((row.set y.1.toNat (cnt (ws.take j) y.1+1)).map V.int)):=by rw [aq,List.map_set]
    have Xy:RowC ws hn.toNat (upd Lx gt (.lst ((row.map V.int).set y.1.toNat (V.int (cnt (ws.take j) y.1+1))))) j gt:=⟨_,hg3,M5 Lk rh' ey⟩
    have S3:∀b u,H2 b=some u->b∉[cl,mn,gt]->(upd Lx gt (.lst ((row.map V.int).set y.1.toNat (V.int (cnt (ws.take j) y.1+1))))) b=some u:=fun b u e m=>by
     have m1:b≠cl:=fun z=>m (by simp [z]);have m2:b≠mn:=fun z=>m (by simp [z]);have m3:b≠gt:=fun z=>m (by simp [z]);exact k3 _ _ (S2 b u e m1 m2) m3
    have T3:∀a xs,H2 a=some (HO.tup xs)->(upd Lx gt (.lst ((row.map V.int).set y.1.toNat (V.int (cnt (ws.take j) y.1+1))))) a=some (HO.tup xs):=fun a xs h=>k3.tups hg2 _ _ (T2 _ _ h)
    have hW:∀x∈[cl,mn,gt],x∈[rw',cl,br,mn]\/H2 x=none:=fun x hx=>by
     simp only [List.mem_cons,List.not_mem_nil,or_false] at hx;rcases hx with rfl|rfl|rfl
     ·exact .inl (by simp)
     ·exact .inl (by simp)
     ·exact .inr g0
    have R3:=I.rows.move (gK _ _) [cl,mn,gt] S3 (by simp [n12,n15,Gr.symm]) hW T3;have B3:=I.brt.move (jP _) [cl,mn,gt] S3 (by simp [n23.symm,n35,GC.symm]) hW T3;have N3:=N2.kp (k3.tups hg2) k3 oU.symm;have OD:=k3 _ _ Dv CQ.symm;have Yz:=k3 _ _ hm2 CP.symm
    have S3':Same H (upd Lx gt (.lst ((row.map V.int).set y.1.toNat (V.int (cnt (ws.take j) y.1+1))))):=fun b u e=>S3 _ _ (I.sm _ _ e) (by
     simp only [List.mem_cons,List.not_mem_nil,or_false];rintro (z|z|z)
     ·exact aB e f2 z
     ·exact aB e f5 z
     ·exact aB e (I.sm.free g0) z)
    generalize (upd Lx gt (.lst ((row.map V.int).set y.1.toNat (V.int (cnt (ws.take j) y.1+1)))))=H13 at R3 B3 N3 OD Yz S3' Xy ⊢
    obtain ⟨rs3,GZ,rl3,R4⟩:=R3.push (gK _ _) (by simp) (fun x hx=>by
     simp only [List.mem_cons,List.not_mem_nil,or_false] at hx;rcases hx with rfl|rfl|rfl|rfl<;>assumption) Xy
    refine ⟨_,rfl,.inl ⟨rfl,_,bA.of GZ⟩,_,rfl,rw',_,_,rfl,rfl,GZ,by rw [List.length_map,sizeLine_eq];(clear GZ Yz OD hg3 W8 hg2 Dv hm2 Gs Gw Gz GC Gr CP CQ hm1 xr vg SN Qo hm9 jw ml hm jo tu oU g0 rl hrs gQ gP r0 hfr hgt hl0 m_ y1 y0 hj ht ey f5 f3 f2 f1 n35 n25 n15 n23 n13 n12 h5 h4 h3 h2 h1 fH ha hn1 hn0;omega), ?_⟩;have k4:Kp rw' H13 (upd H13 rw' (.lst (rs3.map V.ref++[V.ref gt]))):=Kp.set;have B4:=B3.kp (jP _) k4 GZ n13.symm (by simp);have N4:=N3.kp (k4.tups GZ) k4 Gs;have Oz:=k4 _ _ OD n12.symm;have Yy:=k4 _ _ Yz n15.symm;have S4:Same H (upd H13 rw' (.lst (rs3.map V.ref++[V.ref gt]))):=fun b u e=>k4 _ _ (S3' _ _ e) (aB e f1);generalize (upd H13 rw' (.lst (rs3.map V.ref++[V.ref gt])))=H14 at R4 B4 N4 Oz Yy S4 ⊢;obtain ⟨bs4,R8,bl4,_⟩:=id B4;obtain ⟨rs4,V5,rl4,_⟩:=id R4;refine ⟨_,rfl,.inl ⟨rfl,_,bA.of R8⟩,_,rfl, ?_⟩;dsimp only [zT];refine rH (K:=K) N4 fun sl ns H15 hsl NN pp ss Vb=> ?_
    have re:∀e∈[rw',cl,br,mn],sl≠e:=fun x hx=>by
     simp only [List.mem_cons,List.not_mem_nil,or_false] at hx;rcases hx with rfl|rfl|rfl|rfl
     ·exact (aB V5 hsl).symm
     ·exact (aB Oz hsl).symm
     ·exact (aB R8 hsl).symm
     ·exact (aB Yy hsl).symm
    obtain ⟨bs5,R7,bl5,B6⟩:=(B4.same (jP _) Vb).push (jP _) (by simp) re (show WK ws H15 j sl from ⟨ns,NN,pp,ss⟩);refine ⟨br,_,_,rfl,rfl,R7,by rw [List.length_map,sizeLine_eq];(clear R7 hsl rl4 V5 bl4 R8 Yy Oz rl3 GZ Yz OD hg3 W8 hg2 Dv hm2 Gs Gw Gz GC Gr CP CQ hm1 xr vg SN Qo hm9 jw ml hm jo tu oU g0 rl hrs gQ gP r0 hfr hgt hl0 m_ y1 y0 hj ht ey f5 f3 f2 f1 n35 n25 n15 n23 n13 n12 h5 h4 h3 h2 h1 fH ha hn1 hn0;omega), ?_⟩;have k6:Kp br H15 (upd H15 br (.lst (bs5.map V.ref++[V.ref sl]))):=Kp.set;refine ⟨_,_,_,_,_,_,_,_,_,_,rfl,⟨fun b u e=>k6 _ _ (Vb _ _ (S4 _ _ e)) (aB e f3),(R4.same (gK _ _) Vb).kp (gK _ _) k6 R7 n13 (by simp),B6, ?_,⟨ms.set y.1.toNat (cnt (ws.take j) y.1+1),k6 _ _ (Vb _ _ Yy) n35.symm,by simp [ml],fun h h0 h1=> ?_⟩⟩⟩
    ·rw [k6 _ _ (Vb _ _ Oz) n23,Pr,List.map_append,m_]
     rfl
    ·have tk:ws.take (j+1)=ws.take j++[y]:=by rw [List.take_add_one,ey];rfl
     rw [Ao y0 (by (clear tk h1 h0 bl5 R7 hsl rl4 V5 bl4 R8 Yy Oz rl3 GZ Yz OD hg3 W8 hg2 Dv hm2 Gs Gw Gz GC Gr CP CQ hm1 xr vg SN Qo hm9 jw hm jo tu oU g0 rl hrs gQ gP r0 hfr hgt hl0 m_ y0 hj ht ey jl f5 f3 f2 f1 n35 n25 n15 n23 n13 n12 h5 h4 h3 h2 fH ha wl hn1 hn0;omega)) h0,tk,iD]
     by_cases e:h=y.1
     ·subst e;rw [if_pos rfl,if_pos rfl]
     ·rw [if_neg e,if_neg e];exact mg h h0 h1
  ·rintro σ H2 ⟨x1,x2,x3,x4,x5,x6,x7,x8,x9,x10,rfl,I⟩
   rw [fH] at I;refine ⟨_,rfl,_,rfl,(by show 2<=sizeLine;decide),fun p hp=> ?_⟩;have sp:=aD (o:=HO.tup [V.ref rw',V.ref br]) hp;exact k p rw' br _ aq (I.rows.same (gK _ _) sp).any (I.brt.same (jP _) sp).any f1 f3 (I.sm.trans sp)
def Dn (i:Int) (n:Nat):Prop:=0<=i/\i<(n:Int)
instance (i:Int) (n:Nat):Decidable (Dn i n):=inferInstanceAs (Decidable (_/\_))
def QL (K:PySem.W.Frag):Sp:=fun vs H Q _=>∃i:Int,vs=[.int i]/\Q (.bl true) H
theorem Cw {f:Addr} {fd:FuncData} (F:jZ K "is_whole" "is_whole" d7 f fd) (Bt:qY mg):cu P w K mg base jY 1 f fd ["value"] (QL K):=by
 refine F.ok BR (fun vs H Q E h=> ?_) (fun cdv A outer s H vs Q E hr h=> ?_)
 ·obtain ⟨i,rfl,_⟩:=h
  rfl
 ·obtain ⟨i,rfl,k⟩:=h
  refine ⟨_,(aH (aX (nU (aO (fV (K:=K) (cv:= .ty "int") (c:= .type "int") rfl rfl) (by rfl) Bt.aZ aV (ak (pv 0) (ak (gA (v:= .ty "int") (by rfl) Bt.Uu Py rfl) au))) (mG (Np (aO (fV (K:=K) (cv:= .ty "bool") (c:= .type "bool") rfl rfl) (by rfl) Bt.aZ aV (ak (pv 0) (ak (gA (v:= .ty "bool") (by rfl) Bt.PX Jr rfl) au)))))))), ?_⟩;refine ⟨_,rfl,_,_,true,rfl,.int i,uT K,true,rfl, ?_⟩;refine iV ?_;exact ⟨_,rfl,_,_,false,rfl,.int i,rW K,false,rfl,k⟩
def zZ (K:PySem.W.Frag):Sp:=fun vs H Q _=>∃(i:Int) (n:Nat),vs=[.int i,.int n]/\Q (.bl (decide (Dn i n))) H
theorem Cy {f:Addr} {fd:FuncData} (F:jZ K "is_below" "is_below" d9 f fd) (qW:FnAt P w K mg base 1 "is_whole" ["value"] (QL K)):cu P w K mg base jY 2 f fd ["value","count"] (zZ K):=by
 refine F.ok BX (fun vs H Q E h=> ?_) (fun cdv A outer s H vs Q E hr h=> ?_)
 ·obtain ⟨i,n,rfl,_⟩:=h
  rfl
 ·obtain ⟨i,n,rfl,k⟩:=h
  refine ⟨_,(aH (aX (nU (bx qW (hr.mono (by decide)) (by rfl) (ak (pv 0) au)) (mG (Nu Nv uM aF (pv 0) (pv 1)))))), ?_⟩;refine ⟨_,rfl,i,rfl,true,rfl, ?_⟩;refine iV ?_;refine ⟨_,rfl,_,_,rfl,rfl,_,rfl, ?_⟩;refine pC (fun h0=> ?_) (fun h0=> ?_)
  ·refine ⟨_,rfl,_,_,rfl,rfl, ?_⟩
   have e:decide (Dn i n)=decide (i<(n:Int)):=by
    have h0:=of_decide_eq_true h0;rw [Bool.eq_iff_iff,decide_eq_true_iff,decide_eq_true_iff];exact ⟨fun z=>z.2,fun z=>⟨h0,z⟩⟩
   show Q (.bl (decide (i<(n:Int)))) H;rw [←e];exact k
  ·have e:decide (Dn i n)=false:=decide_eq_false fun z=>h0 (decide_eq_true z.1)
   rw [←e];exact k
structure Rc where
 (o dx a nd kn tk pl:Addr)
 (ps:List Addr)
def Rc.fp (R:Rc):List Addr:=R.a::R.nd::R.kn::R.tk::R.ps
def rF (a nd kn tk pl:Addr):List (Str×V):=[("web",.ref a),("named",.ref nd),("knowns",.ref kn),("taken",.ref tk),("places",.ref pl)]
def pO (ws:List bK) (h:Int):List Nat:=(List.range ws.length).filter fun i=>decide (hnd ws i=h)
structure RcAt (C:Addr) (H:Hp) (R:Rc) (ws:List bK) (hn:Nat):Prop where
 o:H R.o=some (.ins C R.dx (rF R.a R.nd R.kn R.tk R.pl))
 web:gn H R.a ws
 named:lC H R.nd (nm ws)
 W0:kj H R.kn ws ws.length
 tkn:∃ts,gq H R.tk ts/\ts.Perm (jk ws ws.length)
 pl:H R.pl=some (.lst (R.ps.map V.ref))
 Ip:R.ps.length=hn
 X3:∀(h:Nat) (p:Addr),R.ps[h]? = some p->H p=some (.lst (dG (pO ws (h:Int))))
 nd:R.fp.Nodup
 vN:R.pl∉R.fp
def KpL (W:List Addr) (H H':Hp):Prop:=∀b u,H b=some u->b∉W->H' b=some u
theorem RcAt.same {C:Addr} {H H':Hp} {R:Rc} {ws:List bK} {hn:Nat} (r:RcAt C H R ws hn) (k:Same H H'):RcAt C H' R ws hn:=by
 obtain ⟨ts,t1,t2⟩:=r.tkn;exact ⟨k _ _ r.o,r.web.same k,r.named.same k,r.W0.same k,⟨ts,t1.same k,t2⟩,k _ _ r.pl,r.Ip,fun h p e=>k _ _ (r.X3 h p e),r.nd,r.vN⟩
theorem jN {ws:List bK} {x:bK} {i j:Nat} (hj:j<ws.length):uL (ws++[x]) i j=uL ws i j:=by
 unfold uL U7
 by_cases l:i<j
 ·rw [List.getElem?_append_left (by omega),List.getElem?_append_left hj]
 ·rw [decide_eq_false l,Bool.false_and,Bool.false_and]
theorem oR {ws:List bK} {x:bK} {i j:Nat} (hj:j<ws.length):vp (ws++[x]) j i↔vp ws j i:=by
 constructor
 ·intro r
  induction r with
  | one h=>exact .one (by rwa [jN hj] at h)
  | more h r ih=>
    have:=ih.lt;exact .more (by rwa [jN (by (clear h hj;omega))] at h) ih
 ·intro r
  induction r with
  | one h=>exact .one (by rwa [jN hj])
  | more h r ih=>
    have:=r.lt;exact .more (by rwa [jN (by (clear h hj;omega))]) ih
theorem pL.snoc {ws:List bK} {x:bK} {j:Nat} {g:Int->Int} (h:pL ws j g) (hj:j<ws.length):pL (ws++[x]) j g:=by
 refine ⟨fun m y ey=> ?_,fun hh=> ?_⟩
 ·by_cases ml:m<ws.length
  ·rw [List.getElem?_append_left ml] at ey
   rw [List.take_append_of_le_length (by (clear ey hj;omega)),h.1 m y ey];constructor
   ·rintro (z|z)
    ·exact .inl z
    ·exact .inr ((oR hj).mpr z)
   ·rintro (z|z)
    ·exact .inl z
    ·exact .inr ((oR hj).mp z)
  ·have ml2:=(List.getElem?_eq_some_iff.mp ey).1
   rw [List.length_append,List.length_singleton] at ml2;have em:m=ws.length:=by (clear ey hj;omega)
   subst em;rw [List.take_append_of_le_length (Nat.le_refl _),List.take_length];have b1:=h.2 y.1;have b2:=ji ws y.1 (j+1) (ws.length - (j+1));rw [show j+1+(ws.length - (j+1))=ws.length by (clear b2 b1 ml2 ml ey;omega),List.take_length] at b2;constructor
   ·intro z;(clear ml2 ml ey hj;omega)
   ·rintro (z|z)
    ·omega
    ·have:=z.lt;(clear b2 b1 ml2 ml ey;omega)
 ·rw [List.take_append_of_le_length (by omega)]
  exact h.2 hh
theorem kj.snoc {H:Hp} {kn:Addr} {ws:List bK} {x:bK} (h:kj H kn ws ws.length):kj H kn (ws++[x]) ws.length:=by
 obtain ⟨rs,e,l,q⟩:=h;refine ⟨rs,e,l,fun j r hj=> ?_⟩;have jl:=(List.getElem?_eq_some_iff.mp hj).1;obtain ⟨g,a,b⟩:=q j r hj;exact ⟨g,a,b.snoc (by (clear hj e;omega))⟩
theorem yq {ws:List bK} {x:bK} {j i:Nat} (hj:j<ws.length):cL (ws++[x]) j i=cL ws j i:=by
 unfold cL;refine List.filter_congr fun e _=> ?_
 have:Bare (ws++[x]) j e↔Bare ws j e:=by
  unfold Bare Jz;rw [jN hj];constructor
  ·rintro ⟨a,b⟩
   refine ⟨a,fun ⟨y,y1,y2,y3⟩=>b ⟨y,y1,by rw [jN hj];exact y2,y3.imp id (oR (by have:=tL y2;(clear y3 y2 y1 b a hj;omega))).mpr⟩⟩
  ·rintro ⟨a,b⟩
   refine ⟨a,fun ⟨y,y1,y2,y3⟩=> ?_⟩;rw [jN hj] at y2;exact b ⟨y,y1,y2,y3.imp id (oR (by have:=tL y2;(clear y3 y2 y1 b a hj;omega))).mp⟩
 by_cases q:Bare ws j e
 ·rw [decide_eq_true q,decide_eq_true (this.mpr q)]
 ·rw [decide_eq_false q,decide_eq_false (fun z=>q (this.mp z))]
theorem oh {ws:List bK} {x:bK} {i:Nat} (hi:i<ws.length):hnd (ws++[x]) i=hnd ws i:=by
 unfold hnd;rw [List.getElem?_append_left hi]
theorem CJ {ws:List bK} {x:bK} {i j:Nat} (hi:i<ws.length) (hj:j<ws.length):jO (ws++[x]) i j=jO ws i j:=by
 unfold jO;rw [oh hi,oh hj,List.take_append_of_le_length (by (clear hj;omega)),List.take_append_of_le_length (by (clear hi;omega))]
theorem rQ {ws:List bK} {x:bK} {j:Nat} (hj:j<ws.length) {l:List Nat} (hl:∀e∈l,e<ws.length):bC (ws++[x]) j l=bC ws j l:=by
 unfold bC;rw [List.filter_congr (q:=fun e=>decide (¬hnd ws e=hnd ws j)) fun e he=>by rw [oh (hl e he),oh hj]];exact List.map_congr_left fun e he=>CJ (hl e (List.mem_filter.mp he).1) hj
theorem sU {ws:List bK} {j i e:Nat} (hj:j<ws.length) (h:e∈cL ws j i):e<ws.length:=by
 rcases P0 h with q|q
 ·omega
 ·subst q
  unfold cL at h;have:=(List.mem_filter.mp h).1;obtain ⟨t,_,rfl⟩:=List.mem_map.mp this;omega
theorem zN {ws:List bK} {x:bK}:∀n,n<=ws.length->jk (ws++[x]) n=jk ws n
 | 0,_=>rfl
 | n+1,h=>by
   rw [o_,o_,zN n (by omega),yq (by omega),rQ (by omega) fun e he=>sU (by omega) he]
theorem rM (ws:List bK) (x:bK) (h:Int):pO (ws++[x]) h=pO ws h++(if x.1=h then [ws.length] else []):=by
 unfold pO;rw [List.length_append,List.length_singleton,List.range_succ,List.filter_append];congr 1
 ·refine List.filter_congr fun i hi=> ?_
  rw [oh (List.mem_range.mp hi)]
 ·have:hnd (ws++[x]) ws.length=x.1:=by unfold hnd;simp
  rw [List.filter_cons,this]
  by_cases e:x.1=h<;>simp [e]
theorem Cj (h:Int):∀(n:Nat) (ws:List bK),ws.length=n->((pO ws h).length:Int)=cnt ws h
 | 0,ws,e=>by
   cases ws with
   | nil=>rfl
   | cons _ _=>cases e
 | n+1,ws,e=>by
   rcases List.eq_nil_or_concat ws with rfl|⟨l,x,rfl⟩
   ·cases e
   ·have ih:=Cj h n l (by simpa using e)
    rw [List.concat_eq_append,rM,List.length_append,iD]
    by_cases e:x.1=h
    ·rw [if_pos e,if_pos e.symm];simp;(clear e;omega)
    ·rw [if_neg e,if_neg (Ne.symm e)];simpa using ih
theorem Ir (ws:List bK) (h:Int):((pO ws h).length:Int)=cnt ws h:=Cj h _ ws rfl
def rG (CN:Addr) (K:PySem.W.Frag):Sp:=fun vs H Q E=>∃(pl:Addr) (ps:List V) (h:Int),vs=[.ref pl,.int h]/\H pl=some (.lst ps)/\(Dn h ps.length->Q .non H)/\(¬Dn h ps.length->E (.ref CN) none H)
theorem J8 {aG:Addr} {f:Addr} {fd:FuncData} (F:jZ K "check_hand" "check_hand" dj f fd) (bh:Xr K mg aG "NoHand") (HB:FnAt P w K mg base 2 "is_below" ["value","count"] (zZ K)) (Bt:qY mg):cu P w K mg base (yG P w) 3 f fd ["places","hand"] (rG aG K):=by
 refine F.okX yK (fun vs H Q E h=> ?_) (fun cdv A outer s H vs Q E hr h hR=> ?_)
 ·obtain ⟨pl,ps,h,rfl,_⟩:=h
  rfl
 ·obtain ⟨pl,ps,h,rfl,hp,k1,k2⟩:=h
  refine ⟨_,(aH (dN (iT (gG (bx HB (hr.mono (by decide)) (by rfl) (ak (pv 1) (ak (aO (aU (K:=K) rfl) (by rfl) Bt.fX dI (ak (pv 0) au)) au))))) (aH (Cg PySem.F.excBase_ValueError bh.ex bh.bd (by rfl) rfl rfl hR (ak cY au))) bQ)), ?_⟩;refine ⟨_,rfl,_,rfl,pl,_,rfl,.inl (bA.of hp),h,ps.length,rfl,_,rfl, ?_⟩
  by_cases hi:Dn h ps.length
  ·rw [decide_eq_true hi]
   refine gb ?_;exact k1 hi
  ·rw [decide_eq_false hi]
   refine iV ?_;exact ⟨(by show 1<=sizeLine;decide),k2 hi⟩
def rD (C CN:Addr) (K:PySem.W.Frag):Sp:=fun vs H Q E=>∃(o dx:Addr) (hn:Int),vs=[.ref o,.int hn]/\H o=some (.ins C dx [])/\(¬(1<=hn/\hn<=8)->E (.ref CN) none H) /\
 (1<=hn->hn<=8 -> ∀(R:Rc) (H':Hp),R.o=o->RcAt C H' R [] hn.toNat->(∀b∈R.fp,H b=none)->H R.pl=none->Kp o H H'->Q .non H')
theorem NQ {aj aG:Addr} {f:Addr} {fd:FuncData} (F:jZ K "__init__" "Recorder.__init__" cB f fd) (bh:Xr K mg aG "NoHand") (ao:cg K aj) (qW:FnAt P w K mg base 1 "is_whole" ["value"] (QL K)) (jJ:Gv mg "MOST_HANDS" (.int 8)) (Bt:qY mg):cu P w K mg base (yG P w) 2 f fd ["self","hands"] (rD aj aG K):=by
 refine F.okX tX (fun vs H Q E h=> ?_) (fun cdv A outer s H vs Q E hr h hR=> ?_)
 ·obtain ⟨o,dx,hn,rfl,_⟩:=h
  rfl
 ·obtain ⟨o,dx,hn,rfl,ho,k2,k⟩:=h
  refine ⟨_,(aC (dN (PW.pt (wG (iT (gG (bx qW (hr.mono (by decide)) (by rfl) (ak (pv 1) au)))) (qH (iT (Nf Nv Nv aF (pv 1) (jd (by rfl) jJ.choose_spec.1 jJ.choose_spec.2)))))) (aH (Cg PySem.F.excBase_ValueError bh.ex bh.bd (by rfl) rfl rfl hR (ak cY au))) bQ)
   (aC (jc (K:=K) rfl (pv 0) (bO au) rfl)
   (aC (jc (K:=K) rfl (pv 0) (bO au) rfl)
   (aC (jc (K:=K) rfl (pv 0) (bO au) rfl)
   (aC (jc (K:=K) rfl (pv 0) (bO au) rfl)
   (aH (jc (K:=K) rfl (pv 0) (gw rfl (N:=["hand"]) (own:=["hand"]) (caps:=[]) (bf.of (by kernel_rfl)) (dJ (by rfl) Bt.fD (ak (pv 1) au)) (fun _ _ _ _=>(bw (i:=0) (show List.Nodup (["hand"]:List Str) by decide +kernel) rfl (Or.inl rfl))) (fun _ _ _ _=>eN) (fun _ _ _ _=>(bO au))) rfl))))))), ?_⟩
  refine ⟨_,rfl,hn,rfl,_,rfl, ?_⟩;refine gb ?_;refine ⟨_,rfl,_,_,rfl,rfl,_,rfl, ?_⟩;refine pC (fun q1=> ?_) (fun q1=> ?_)
  rotate_left
  ·refine ⟨_,rfl,iV ?_⟩
   exact ⟨(by show 1<=sizeLine;decide),k2 fun z=>q1 (decide_eq_true z.1)⟩
  have hn0:1<=hn:=of_decide_eq_true q1;refine ⟨_,_,rfl,rfl,_,rfl, ?_⟩
  by_cases hn1:hn<=8
  rotate_left
  ·rw [decide_eq_false hn1]
   refine iV ?_;exact ⟨(by show 1<=sizeLine;decide),k2 fun z=>hn1 z.2⟩
  rw [decide_eq_true hn1];refine gb ?_;have k:=k hn0 hn1;refine ⟨(by show 0<=sizeLine;decide),fun a ha=> ?_⟩;have na:a≠o:=(aB ho ha).symm;refine ⟨_,rfl,o,aj,dx,_,rfl,aD ha _ _ ho,ao.cls,ao.zy,(by show 0<1000;decide), ?_⟩;refine ⟨(by show 0<=sizeLine;decide),fun nd yQ=> ?_⟩;have k1:Kp o H (upd (upd H a (.lst [])) o (.ins aj dx (eG "web" (.ref a) []))):=(Kp.of_same (aD ha)).trans Kp.set;have ha1:(upd (upd H a (.lst [])) o (.ins aj dx (eG "web" (.ref a) []))) a=some (.lst []):=by rw [aN na,aq]
  have ho1:(upd (upd H a (.lst [])) o (.ins aj dx (eG "web" (.ref a) []))) o=some (.ins aj dx [("web",.ref a)]):=aq;generalize (upd (upd H a (.lst [])) o (.ins aj dx (eG "web" (.ref a) [])))=H1 at k1 ha1 ho1 yQ ⊢;have Ub:nd≠o:=(aB ho1 yQ).symm;refine ⟨_,rfl,o,aj,dx,_,rfl,aD yQ _ _ ho1,ao.cls,ao.oX,(by show 1<1000;decide), ?_⟩;have k2:Kp o H1 (upd (upd H1 nd (.lst [])) o (.ins aj dx (eG "named" (.ref nd) [("web",.ref a)]))):=(Kp.of_same (aD yQ)).trans Kp.set;have Ku:(upd (upd H1 nd (.lst [])) o (.ins aj dx (eG "named" (.ref nd) [("web",.ref a)]))) nd=some (.lst []):=by rw [aN Ub,aq]
  have ho2:(upd (upd H1 nd (.lst [])) o (.ins aj dx (eG "named" (.ref nd) [("web",.ref a)]))) o=some (.ins aj dx [("web",.ref a),("named",.ref nd)]):=aq;refine ⟨(by show 0<=sizeLine;decide),fun kn hkn=> ?_⟩;generalize (upd (upd H1 nd (.lst [])) o (.ins aj dx (eG "named" (.ref nd) [("web",.ref a)])))=H2 at k2 Ku ho2 hkn ⊢;have Vw:kn≠o:=(aB ho2 hkn).symm;have ha2:=k2 _ _ ha1 na;refine ⟨_,rfl,o,aj,dx,_,rfl,aD hkn _ _ ho2,ao.cls,ao.lA,(by show 2<1000;decide), ?_⟩;have k3:Kp o H2 (upd (upd H2 kn (.lst [])) o (.ins aj dx (eG "knowns" (.ref kn) [("web",.ref a),("named",.ref nd)]))):=(Kp.of_same (aD hkn)).trans Kp.set;have Kw:(upd (upd H2 kn (.lst [])) o (.ins aj dx (eG "knowns" (.ref kn) [("web",.ref a),("named",.ref nd)]))) kn=some (.lst []):=by rw [aN Vw,aq]
  have Qu:(upd (upd H2 kn (.lst [])) o (.ins aj dx (eG "knowns" (.ref kn) [("web",.ref a),("named",.ref nd)]))) o=some (.ins aj dx [("web",.ref a),("named",.ref nd),("knowns",.ref kn)]):=aq;refine ⟨(by show 0<=sizeLine;decide),fun tk htk=> ?_⟩;generalize (upd (upd H2 kn (.lst [])) o (.ins aj dx (eG "knowns" (.ref kn) [("web",.ref a),("named",.ref nd)])))=H3 at k3 Kw Qu htk ⊢;have WW:tk≠o:=(aB Qu htk).symm;have ha3:=k3 _ _ ha2 na;have Ou:=k3 _ _ Ku Ub;refine ⟨_,rfl,o,aj,dx,_,rfl,aD htk _ _ Qu,ao.cls,ao.oW,(by show 3<1000;decide), ?_⟩;have k4:Kp o H3 (upd (upd H3 tk (.lst [])) o (.ins aj dx (eG "taken" (.ref tk) [("web",.ref a),("named",.ref nd),("knowns",.ref kn)]))):=(Kp.of_same (aD htk)).trans Kp.set;have GX:(upd (upd H3 tk (.lst [])) o (.ins aj dx (eG "taken" (.ref tk) [("web",.ref a),("named",.ref nd),("knowns",.ref kn)]))) tk=some (.lst []):=by rw [aN WW,aq]
  have Lq:(upd (upd H3 tk (.lst [])) o (.ins aj dx (eG "taken" (.ref tk) [("web",.ref a),("named",.ref nd),("knowns",.ref kn)]))) o=some (.ins aj dx [("web",.ref a),("named",.ref nd),("knowns",.ref kn),("taken",.ref tk)]):=aq;generalize (upd (upd H3 tk (.lst [])) o (.ins aj dx (eG "taken" (.ref tk) [("web",.ref a),("named",.ref nd),("knowns",.ref kn)])))=H4 at k4 GX Lq ⊢;have W4:=k4 _ _ ha3 na;have Ks:=k4 _ _ Ou Ub;have Kv:=k4 _ _ Kw Vw;have k04:=((k1.trans k2).trans k3).trans k4;refine ⟨_,rfl,hn,rfl,by (clear Kv Ks W4 Lq GX Ou ha3 WW htk Qu Kw ha2 Vw hkn ho2 Ku Ub yQ ho1 ha1 na ha hn1 ho;omega),by (clear Kv Ks W4 Lq GX Ou ha3 WW htk Qu Kw ha2 Vw hkn ho2 Ku Ub yQ ho1 ha1 na ha hn0 ho;omega),fun pl hpl=> ?_⟩;have Yd:pl≠o:=(aB Lq hpl).symm
  refine iW (lo:=0) (n:=hn.toNat) (fun i σ H5=>(∃v,σ=[v]) /\ ∃ps:List Addr,ps.length=i/\H5 pl=some (.lst (ps.map V.ref))/\(∀p∈ps,H4 p=none/\p≠pl/\H5 p=some (.lst []))/\ps.Nodup/\Same H4 H5)
   ⟨⟨none,rfl⟩,[],rfl,aq,fun _ z=>absurd z (by simp),List.nodup_nil,aD hpl⟩ ?_ ?_
  ·rintro i σ H5 hi ⟨⟨v,rfl⟩,ps,pl5,vO,pq,X4,s5⟩
   refine ⟨(by show 0<=sizeLine;decide),fun q hq=> ?_⟩;have sq:=aD (o:=HO.lst []) hq;have nqp:q≠pl:=(aB vO hq).symm;refine ⟨_,sq _ _ vO,by rw [List.length_map,sizeLine_eq];(clear nqp hq vO Yd hpl Kv Ks W4 Lq GX Ou ha3 WW htk Qu Kw ha2 Vw hkn ho2 Ku Ub yQ ho1 ha1 na ha hn0 ho;omega),⟨_,rfl⟩,ps++[q],by simp [pl5],by rw [aq,List.map_append];rfl,fun p hp=> ?_, ?_,(s5.trans sq).newly hpl⟩
   ·rcases List.mem_append.mp hp with hp|hp
    ·obtain ⟨p1,p2,p3⟩:=pq p hp
     exact ⟨p1,p2,by rw [aN p2];exact sq _ _ p3⟩
    ·have:p=q:=by simpa using hp
     subst this;exact ⟨s5.free hq,nqp,by rw [aN nqp,aq]⟩
   ·rw [List.nodup_append]
    refine ⟨X4,by simp,fun x hx y hy e=> ?_⟩;have:y=q:=by simpa using hy
    subst this;subst e;have:=(pq x hx).2.2;rw [hq] at this;cases this
  ·rintro σ H5 ⟨⟨v,rfl⟩,ps,pl5,vO,pq,X4,s5⟩
   refine ⟨_,rfl,o,aj,dx,_,rfl,s5 _ _ Lq,ao.cls,ao.dO,(by show 4<1000;decide), ?_⟩;have k6:Kp o H5 (upd H5 o (.ins aj dx (eG "places" (.ref pl) [("web",.ref a),("named",.ref nd),("knowns",.ref kn),("taken",.ref tk)]))):=Kp.set;have mv:∀{b u},H4 b=some u->b≠o->(upd H5 o (.ins aj dx (eG "places" (.ref pl) [("web",.ref a),("named",.ref nd),("knowns",.ref kn),("taken",.ref tk)]))) b=some u:=fun e n=>k6 _ _ (s5 _ _ e) n
   have np:∀p∈ps,p≠o:=fun p hp z=>by
    subst z;rw [(pq p hp).1] at Lq;cases Lq
   have nn:∀{b u},H4 b=some u->b∉ps:=fun e m=>by rw [(pq _ m).1] at e;cases e
   have n1:a≠nd:=aB ha1 yQ;have n2:a≠kn:=aB ha2 hkn;have n3:a≠tk:=aB ha3 htk;have n4:nd≠kn:=aB Ku hkn;have n5:nd≠tk:=aB Ou htk;have n6:kn≠tk:=aB Kw htk
   have f4:∀{b},b≠o->H4 b=none->H b=none:=fun n e=>by
    cases q:H _ with
    | none=>rfl
    | some u=>rw [k04 _ _ q n] at e;cases e
   refine k ⟨o,dx,a,nd,kn,tk,pl,ps⟩ _ rfl ⟨aq,⟨[],mv W4 na,by simp [aL]⟩,⟨[],mv Ks Ub,by simp [nm,aL]⟩,⟨[],mv Kv Vw,rfl,fun j r hj=>by simp at hj⟩,⟨[],⟨[],mv GX WW,by simp [aL]⟩,by simp [jk]⟩,k6 _ _ vO Yd,by rw [pl5],fun h p e=> ?_, ?_, ?_⟩ (fun b hb=> ?_) (f4 Yd hpl) (fun b u e n=>k6 _ _ (s5 _ _ (k04 _ _ e n)) n)
   ·have hm:p∈ps:=List.mem_of_getElem? e
    rw [k6 _ _ (pq p hm).2.2 (np p hm)];rfl
   ·show (a::nd::kn::tk::ps).Nodup
    rw [List.nodup_cons,List.nodup_cons,List.nodup_cons,List.nodup_cons];refine ⟨?_, ?_, ?_,nn GX,X4⟩
    ·simp [n1,n2,n3,nn W4]
    ·simp [n4,n5,nn Ks]
    ·simp [n6,nn Kv]
   ·show pl∉(a::nd::kn::tk::ps)
    have q1:pl≠a:=(aB W4 hpl).symm;have q2:pl≠nd:=(aB Ks hpl).symm;have q3:pl≠kn:=(aB Kv hpl).symm;have q4:pl≠tk:=(aB GX hpl).symm;have q5:pl∉ps:=fun m=>(pq pl m).2.1 rfl;simp [q1,q2,q3,q4,q5]
   ·have hb:b∈(a::nd::kn::tk::ps):=hb
    simp only [List.mem_cons] at hb;rcases hb with rfl|rfl|rfl|rfl|hb
    ·exact ha
    ·cases q:H _ with
     | none=>rfl
     | some u=>rw [k1 _ _ q Ub] at yQ;cases yQ
    ·cases q:H _ with
     | none=>rfl
     | some u=>rw [(k1.trans k2) _ _ q Vw] at hkn;cases hkn
    ·cases q:H _ with
     | none=>rfl
     | some u=>rw [((k1.trans k2).trans k3) _ _ q WW] at htk;cases htk
    ·exact f4 (np b hb) (pq b hb).1
theorem take_snoc {ws:List bK} {i:Nat} {x:bK} (e:ws[i]? = some x):ws.take i++[x]=ws.take (i+1):=by
 obtain ⟨l,rfl⟩:=List.getElem?_eq_some_iff.mp e;exact List.take_append_getElem l
def Ig (C CN:Addr) (K:PySem.W.Frag):Sp:=fun vs H Q E=>∃(R:Rc) (ws:List bK) (hn:Nat) (h cl:Int) (kd:Str),vs=[.ref R.o,.int h,.str kd,.int cl]/\RcAt C H R ws hn/\(Dn h hn->ws.length<300)/\(∀x∈ws,0<=x.1/\x.1<8)/\hn<=8/\(¬Dn h hn->E (.ref CN) none H) /\
 (0<=h->h<hn -> ∀(r:Addr) (ns:List Nt) (H':Hp),H r=none->gq H' r ns->ns.Perm (bC (ws++[(h,kd,cl)]) ws.length (cL (ws++[(h,kd,cl)]) ws.length ws.length))->yw ns->RcAt C H' R (ws++[(h,kd,cl)]) hn->KpL R.fp H H'->Q (.ref r) H')
theorem Vs {aj aG:Addr} {f:Addr} {fd:FuncData} (F:jZ K "did" "Recorder.did" cG f fd) (ao:cg K aj) (jK:Jv P w K mg base 3 "check_hand" ["places","hand"] (rG aG K)) (Bj:FnAt P w K mg base 3 "bare_steps" ["web","named","knowns","place"] (FP K)) (Hv:FnAt P w K mg base 1 "notes_to" ["named","bare","name"] (tR K)) (Bt:qY mg):cu P w K mg base (yG P w) 4 f fd ["self","hand","kind","cell"] (Ig aj aG K):=by
 refine F.okX eV (fun vs H Q E h=> ?_) (fun cdv A outer s H vs Q E hr h hR=> ?_)
 ·obtain ⟨R,ws,hn,h,cl,kd,rfl,_⟩:=h
  rfl
 ·obtain ⟨R,ws,hn,h,cl,kd,rfl,r,wl,Lk,h8,k2,k⟩:=h
  refine ⟨_,(aC (cW (Ge jK rfl hR (hr.mono (by decide)) (by rfl) (ak (bH (K:=K) rfl (pv 0) rfl) (ak (pv 1) au))))
   (aC (aW (i:=4) eV.nd rfl (Or.inl rfl) (aO (aU (K:=K) rfl) (by rfl) Bt.fX dI (ak (bH (K:=K) rfl (pv 0) rfl) au)))
   (aC (aW (i:=5) eV.nd rfl (Or.inl rfl) (nR (ak (pv 1) (ak (aO (aU (K:=K) rfl) (by rfl) Bt.fX dI (ak (aR (aM (K:=K) rfl) (bH (K:=K) rfl (pv 0) rfl) (pv 1) (fun _ _=>rfl)) au)) au))))
   (aC (cW (eU (K:=K) rfl (bH (K:=K) rfl (pv 0) rfl) (ak (nR (ak (pv 1) (ak (pv 2) (ak (pv 3) au)))) au)))
   (aC (cW (eU (K:=K) rfl (bH (K:=K) rfl (pv 0) rfl) (ak (pv 5) au)))
   (aC (cW (eU (K:=K) rfl (aR (aM (K:=K) rfl) (bH (K:=K) rfl (pv 0) rfl) (pv 1) (fun _ _=>rfl)) (ak (pv 4) au)))
   (aC (aW (i:=6) eV.nd rfl (Or.inl rfl) (bx Bj (hr.mono (by decide)) (by rfl) (ak (bH (K:=K) rfl (pv 0) rfl) (ak (bH (K:=K) rfl (pv 0) rfl) (ak (bH (K:=K) rfl (pv 0) rfl) (ak (pv 4) au))))))
   (aC (cW (eU (K:=K) rfl (bH (K:=K) rfl (pv 0) rfl) (ak (aR (cH (K:=K) rfl) (pv 6) aF (fun _ _=>rfl)) au)))
   (aC (aW (i:=7) eV.nd rfl (Or.inl rfl) (aO (kh (K:=K) rfl) (by rfl) Bt.sO o9 (ak (bx Hv (hr.mono (by decide)) (by rfl) (ak (bH (K:=K) rfl (pv 0) rfl) (ak (aR (cH (K:=K) rfl) (pv 6) aF (fun _ _=>rfl)) (ak (pv 5) au)))) au)))
   (aC (cW (qJ (K:=K) rfl PySem.F.plainAttrs_list PySem.F.slot_list_extend PySem.F.type_list_extend uc (bH (K:=K) rfl (pv 0) rfl) (ak (pv 7) au)))
   (aH (aX (pv 7))))))))))))), ?_⟩
  by_cases hin:Dn h hn
  rotate_left
  ·refine ⟨_,rfl,R.o,aj,R.dx,_,_,rfl,r.o,ao.cls,ao.dO,rfl,_,rfl,R.pl,R.ps.map V.ref,h,rfl,r.pl,fun z=>absurd z ?_,fun _=>k2 hin⟩
   rw [List.length_map,r.Ip];exact hin
  have wl:=wl hin;have h0:=hin.1;have h1:=hin.2;have k:=k h0 h1;obtain ⟨ro,rw0,rnd,rkn,⟨ts,rtk,tp⟩,jo,Bo,rps,nd0,vN⟩:=r;obtain ⟨wv,hw,dw⟩:=id rw0;obtain ⟨nv,vP,dn⟩:=id rnd;obtain ⟨tv,htv,dt⟩:=id rtk;have yH:wv.length=ws.length:=by rw [dw.length,List.length_map]
  have zx:nv.length=ws.length:=by rw [dn.length,List.length_map,Ke]
  have Bm:tv.length<=ws.length*ws.length:=by rw [dt.length,List.length_map,tp.length_eq];exact sV ws _
  have tq:ws.length*ws.length<=300*300:=Nat.mul_le_mul (by (clear Bm zx yH htv vP hw vN Bo jo ro h8 h1 h0;omega)) (by (clear Bm zx yH htv vP hw vN Bo jo ro h8 h1 h0;omega));obtain ⟨hN,rfl⟩:∃m:Nat,h=m:=⟨h.toNat,by (clear tq Bm zx yH htv vP hw vN Bo jo ro h8 h1 wl;omega)⟩;have rN:hN<R.ps.length:=by (clear h0 tq Bm zx yH htv vP hw vN jo ro h8 wl;omega)
  obtain ⟨p,ep⟩:∃p,R.ps[hN]? = some p:=⟨R.ps[hN],by simp [rN]⟩;have hp:=rps hN p ep;have pm:p∈R.ps:=List.mem_of_getElem? ep;have hps:(R.ps.map V.ref)[hN]? = some (.ref p):=by rw [List.getElem?_map,ep];rfl
  have nd1:(R.a::R.nd::R.kn::R.tk::R.ps).Nodup:=nd0;simp only [List.nodup_cons,List.mem_cons,not_or] at nd1;obtain ⟨⟨n1,n2,n3,n4⟩,⟨n5,n6,n7⟩,⟨n8,n9⟩,n10,X4⟩:=nd1;have np1:R.pl∉(R.a::R.nd::R.kn::R.tk::R.ps):=vN;simp only [List.mem_cons,not_or] at np1;obtain ⟨q1,q2,q3,q4,q5⟩:=np1;have CG:R.a≠p:=fun z=>n4 (z▸pm);have Cz:R.nd≠p:=fun z=>n7 (z▸pm);have Ey:R.kn≠p:=fun z=>n9 (z▸pm);have Eu:R.tk≠p:=fun z=>n10 (z▸pm);have Ew:R.pl≠p:=fun z=>q5 (z▸pm);have Yg:∀{b:Addr} {ys:List V},H b=some (.lst ys)->R.o≠b:=fun e=>uO ro e (by intro z;cases z);have Bp:=Yg hw;have non:=Yg vP;have nop:=Yg hp;have not_:=Yg htv;obtain ⟨_,hkv,_⟩:=id rkn;have Ez:=Yg hkv;have Ci:(dG (pO ws (hN:Int))).length=(pO ws (hN:Int)).length:=by rw [dG,List.length_map]
  have plb:(pO ws (hN:Int)).length<=ws.length:=by unfold pO;exact Nat.le_trans (List.length_filter_le _ _) (by simp)
  refine ⟨_,rfl,R.o,aj,R.dx,_,_,rfl,ro,ao.cls,ao.dO,rfl,_,rfl,R.pl,R.ps.map V.ref,(hN:Int),rfl,jo,fun _=> ?_,fun z=>absurd (⟨by (clear plb Ci Ez hkv not_ nop non Bp Ew Eu Ey Cz CG q5 q4 q3 q2 q1 n10 n9 n8 n7 n6 n5 n4 n3 n2 n1 hps hp ep rN h1 h0 tq Bm zx yH htv vP hw vN Bo jo ro h8 wl;omega),by rw [List.length_map];(clear plb Ci Ez hkv not_ nop non Bp Ew Eu Ey Cz CG q5 q4 q3 q2 q1 n10 n9 n8 n7 n6 n5 n4 n3 n2 n1 hps hp ep rN h0 tq Bm zx yH htv vP hw vN jo ro h8 wl;omega)⟩:Dn (hN:Int) (R.ps.map V.ref).length) z⟩;refine ⟨_,rfl,R.o,aj,R.dx,_,_,rfl,ro,ao.cls,ao.zy,rfl,R.a,wv,rfl,.inl (bA.of hw), ?_⟩;rw [yH];refine ⟨_,rfl,_,rfl,R.o,aj,R.dx,_,_,rfl,ro,ao.cls,ao.dO,rfl,_,rfl,_,_,_,_,rfl,rfl,bA.of jo,bZ hps,p,_,rfl,.inl (bA.of hp),(by show 2<=sizeLine;decide),fun tn htn=> ?_⟩;rw [Ci,Ir];have s1:=aD (o:=HO.tup [V.int hN,V.int (cnt ws (hN:Int))]) htn;have pF:(upd H tn (.tup [V.int hN,V.int (cnt ws (hN:Int))])) tn=some (.tup [V.int hN,V.int (cnt ws (hN:Int))]):=aq;generalize (upd H tn (.tup [V.int hN,V.int (cnt ws (hN:Int))]))=H1 at s1 pF ⊢;refine ⟨_,rfl,R.o,aj,R.dx,_,_,rfl,s1 _ _ ro,ao.cls,ao.zy,rfl,.inl ⟨rfl,_,bA.of (s1 _ _ hw)⟩,_,rfl,_,rfl,_,rfl,(by show 3<=sizeLine;decide),fun tw htw=> ?_⟩;have s2:=aD (o:=HO.tup [V.int hN,V.str kd,V.int cl]) htw;have qL:(upd H1 tw (.tup [V.int hN,V.str kd,V.int cl])) tw=some (.tup [V.int hN,V.str kd,V.int cl]):=aq;generalize (upd H1 tw (.tup [V.int hN,V.str kd,V.int cl]))=H2 at s2 qL ⊢;have s12:=s1.trans s2;refine ⟨R.a,_,_,rfl,rfl,s12 _ _ hw,by rw [yH,sizeLine_eq];(clear qL htw pF htn plb Ci Ez hkv not_ nop non Bp Ew Eu Ey Cz CG q5 q4 q3 q2 q1 n10 n9 n8 n7 n6 n5 n4 n3 n2 n1 hps hp ep rN h1 h0 tq Bm zx yH htv vP hw vN Bo jo ro h8;omega), ?_⟩;have k3:Kp R.a H2 (upd H2 R.a (.lst (wv++[V.ref tw]))):=Kp.set;have t3:=k3.tups (s12 _ _ hw);have Jd:(upd H2 R.a (.lst (wv++[V.ref tw]))) R.a=some (.lst (wv++[V.ref tw])):=aq;generalize (upd H2 R.a (.lst (wv++[V.ref tw])))=H3 at k3 t3 Jd ⊢;have pG:=k3 _ _ (s12 _ _ vP) (Ne.symm n1);refine ⟨_,rfl,R.o,aj,R.dx,_,_,rfl,k3 _ _ (s12 _ _ ro) Bp,ao.cls,ao.oX,rfl,.inl ⟨rfl,_,bA.of pG⟩,_,rfl,R.nd,_,_,rfl,rfl,pG,by rw [zx,sizeLine_eq];(clear pG Jd qL htw pF htn plb Ci Ez hkv not_ nop non Bp Ew Eu Ey Cz CG q5 q4 q3 q2 q1 n10 n9 n8 n7 n6 n5 n4 n3 n2 n1 hps hp ep rN h1 h0 tq Bm zx yH htv vP hw vN Bo jo ro h8;omega), ?_⟩;have k4:Kp R.nd H3 (upd H3 R.nd (.lst (nv++[V.ref tn]))):=Kp.set;have t4:=k4.tups pG;have Du:(upd H3 R.nd (.lst (nv++[V.ref tn]))) R.nd=some (.lst (nv++[V.ref tn])):=aq;generalize (upd H3 R.nd (.lst (nv++[V.ref tn])))=H4 at k4 t4 Du ⊢;have mv4:∀{b u},H b=some u->b≠R.a->b≠R.nd->H4 b=some u:=fun e a b=>k4 _ _ (k3 _ _ (s12 _ _ e) a) b;have G3:=mv4 hp CG.symm Cz.symm;refine ⟨_,rfl,R.o,aj,R.dx,_,_,rfl,mv4 ro Bp non,ao.cls,ao.dO,rfl,_,rfl,_,_,_,_,rfl,rfl,bA.of (mv4 jo q1 q2),bZ hps,.inl ⟨rfl,_,bA.of G3⟩,_,rfl,p,_,_,rfl,rfl,G3,by rw [Ci,sizeLine_eq];(clear G3 Du pG Jd qL htw pF htn Ci Ez hkv not_ nop non Bp Ew Eu Ey Cz CG q5 q4 q3 q2 q1 n10 n9 n8 n7 n6 n5 n4 n3 n2 n1 hps hp ep rN h1 h0 tq Bm zx yH htv vP hw vN Bo jo ro h8;omega), ?_⟩;have k5:Kp p H4 (upd H4 p (.lst (dG (pO ws (hN:Int))++[V.int (ws.length:Int)]))):=Kp.set;have t5:=k5.tups G3;have vO:(upd H4 p (.lst (dG (pO ws (hN:Int))++[V.int (ws.length:Int)]))) p=some (.lst (dG (pO ws (hN:Int))++[V.int (ws.length:Int)])):=aq;generalize (upd H4 p (.lst (dG (pO ws (hN:Int))++[V.int (ws.length:Int)])))=H5 at k5 t5 vO ⊢;have WY:∀{b u},H b=some u->b≠R.a->b≠R.nd->b≠p->H5 b=some u:=fun e a b c=>k5 _ _ (mv4 e a b) c;have tt5:∀a xs,H a=some (HO.tup xs)->H5 a=some (HO.tup xs):=fun a xs e=>t5 _ _ (t4 _ _ (t3 _ _ (s12 _ _ e)))
  have W5:gn H5 R.a (ws++[((hN:Int),kd,cl)]):=by
   refine ⟨wv++[V.ref tw],k5 _ _ (k4 _ _ Jd n1) CG, ?_⟩;rw [List.map_append];refine aL.append (aL.keep tt5 _ (cj _ uq _) dw) ⟨Jk (x:=((hN:Int),kd,cl)) (t5 _ _ (t4 _ _ (t3 _ _ qL))),trivial⟩
  have N5:lC H5 R.nd (nm (ws++[((hN:Int),kd,cl)])):=by
   refine ⟨nv++[V.ref tn],k5 _ _ Du Cz, ?_⟩;rw [RD,List.map_append];refine aL.append (aL.keep tt5 _ (cj _ GR _) dn) ⟨SM (x:=((hN:Int),cnt ws (hN:Int))) (t5 _ _ (t4 _ _ (t3 _ _ (s2 _ _ pF)))),trivial⟩
  have K5:kj H5 R.kn (ws++[((hN:Int),kd,cl)]) ws.length:=((((rkn.snoc.same s12).kp k3 (s12 _ _ hw) (Ne.symm n2)).kp k4 pG (Ne.symm n5)).kp k5 G3 Ey);have T5:H5 R.tk=some (.lst tv):=WY htv (Ne.symm n3) (Ne.symm n6) Eu;have kl5:KpL R.fp H H5:=fun b u e n=>WY e (fun z=>n (z ▸ .head _)) (fun z=>n (z ▸ .tail _ (.head _))) (fun z=>n (z ▸ .tail _ (.tail _ (.tail _ (.tail _ pm)))));have FZ:=WY ro Bp non nop;have wF:=WY jo q1 q2 Ew
  have ps5:∀(h:Nat) (x:Addr),R.ps[h]? = some x->H5 x=some (.lst (dG (pO (ws++[((hN:Int),kd,cl)]) (h:Int)))):=fun h x e=>by
   have xm:x∈R.ps:=List.mem_of_getElem? e;rw [rM]
   by_cases eh:h=hN
   ·subst eh
    rw [ep] at e;cases e;rw [vO,if_pos rfl];simp [dG]
   ·rw [if_neg (by show ¬(hN:Int)=(h:Int);(clear e wF FZ T5 vO G3 Du pG Jd qL htw pF htn plb Ci Ez hkv not_ nop non Bp Ew Eu Ey Cz CG q5 q4 q3 q2 q1 n10 n9 n8 n7 n6 n5 n4 n3 n2 n1 hps hp ep rN h1 h0 tq Bm zx yH htv vP hw vN Bo jo ro h8 wl;omega)),List.append_nil]
    refine WY (rps h x e) (fun z=>n4 (z▸xm)) (fun z=>n7 (z▸xm)) fun z=>eh ?_;subst z;have l1:=(List.getElem?_eq_some_iff.mp e).1;rw [←ep] at e;exact (List.getElem?_inj l1 X4).mp e
  have acX:∀x∈ws++[((hN:Int),kd,cl)],0<=x.1/\x.1<8:=fun x hx=>by
   rcases List.mem_append.mp hx with hx|hx
   ·exact Lk x hx
   ·have:x=((hN:Int),kd,cl):=by simpa using hx
    subst this;exact ⟨by show 0<=(hN:Int);(clear wF FZ T5 vO G3 Du pG Jd qL htw pF htn plb Ci Ez hkv not_ nop non Bp Ew Eu Ey Cz CG q5 q4 q3 q2 q1 n10 n9 n8 n7 n6 n5 n4 n3 n2 n1 hps hp ep rN h1 h0 tq Bm zx yH htv vP hw vN Bo jo ro h8 wl;omega),by show (hN:Int)<8;(clear wF FZ T5 vO G3 Du pG Jd qL htw pF htn plb Ci Ez hkv not_ nop non Bp Ew Eu Ey Cz CG q5 q4 q3 q2 q1 n10 n9 n8 n7 n6 n5 n4 n3 n2 n1 hps hp ep rN h0 tq Bm zx yH htv vP hw vN Bo jo ro wl;omega)⟩
  have f5:∀{b},H5 b=none->H b=none:=fun {b} e=>by
   cases q:H b with
   | none=>rfl
   | some u=>
     by_cases c1:b=R.a
     ·subst c1;obtain ⟨_,z,_⟩:=W5;rw [z] at e;cases e
     ·by_cases c2:b=R.nd
      ·subst c2;obtain ⟨_,z,_⟩:=N5;rw [z] at e;cases e
      ·by_cases c3:b=p
       ·subst c3;rw [vO] at e;cases e
       ·rw [WY q c1 c2 c3] at e;cases e
  have WL:(ws++[((hN:Int),kd,cl)]).length=ws.length+1:=by simp
  have hnx:hnd (ws++[((hN:Int),kd,cl)]) ws.length=(hN:Int):=by unfold hnd;simp
  have Tz:(ws++[((hN:Int),kd,cl)]).take ws.length=ws:=by simp
  have Ds:H5 tn=some (.tup [V.int hN,V.int (cnt ws (hN:Int))]):=t5 _ _ (t4 _ _ (t3 _ _ (s2 _ _ pF)));have al:=zN (x:=((hN:Int),kd,cl)) ws.length (Nat.le_refl _);have as:=o_ (ws++[((hN:Int),kd,cl)]) ws.length;generalize ws++[((hN:Int),kd,cl)]=ws' at *;refine ⟨_,rfl,R.o,aj,R.dx,_,_,rfl,FZ,ao.cls,ao.zy,rfl,_,rfl,R.o,aj,R.dx,_,_,rfl,FZ,ao.cls,ao.oX,rfl,_,rfl,R.o,aj,R.dx,_,_,rfl,FZ,ao.cls,ao.lA,rfl,_,rfl,R.a,R.nd,R.kn,ws',ws.length,rfl,W5,N5,K5,by (clear as al Tz hnx Ds wF FZ T5 vO G3 Du pG Jd qL htw pF htn plb Ci Ez hkv not_ nop non Bp Ew Eu Ey Cz CG q5 q4 q3 q2 q1 n10 n9 n8 n7 n6 n5 n4 n3 n2 n1 hps hp ep rN h1 h0 tq Bm zx yH htv vP hw vN Bo jo ro h8 wl;omega),by (clear as al Tz hnx Ds wF FZ T5 vO G3 Du pG Jd qL htw pF htn plb Ci Ez hkv not_ nop non Bp Ew Eu Ey Cz CG q5 q4 q3 q2 q1 n10 n9 n8 n7 n6 n5 n4 n3 n2 n1 hps hp ep rN h1 h0 tq Bm zx yH htv vP hw vN Bo jo ro h8;omega),acX,fun pr b d g H6 hpr hb kd6 ko hb0 hd0 hp0 s6=> ?_⟩;obtain ⟨rs,hk,rl,rq⟩:=id (K5.same s6);refine ⟨_,rfl,R.o,aj,R.dx,_,_,rfl,s6 _ _ FZ,ao.cls,ao.lA,rfl,.inl ⟨rfl,_,bA.of hk⟩,_,rfl,_,_,_,_,rfl,rfl,gC.of hpr,rfl,R.kn,_,_,rfl,rfl,hk,by rw [List.length_map,sizeLine_eq];(clear hk hp0 hd0 hb0 hb hpr as al Tz hnx WL Ds wF FZ T5 vO G3 Du pG Jd qL htw pF htn plb Ci Ez hkv not_ nop non Bp Ew Eu Ey Cz CG q5 q4 q3 q2 q1 n10 n9 n8 n7 n6 n5 n4 n3 n2 n1 hps hp ep rN h1 h0 tq Bm zx yH htv vP hw vN Bo jo ro h8;omega), ?_⟩;have k7:Kp R.kn H6 (upd H6 R.kn (.lst (rs.map V.ref++[V.ref d]))):=Kp.set;have t7:=k7.tups hk
  have K7:kj (upd H6 R.kn (.lst (rs.map V.ref++[V.ref d]))) R.kn ws' (ws.length+1):=by
   refine ⟨rs++[d],by rw [aq,List.map_append];rfl,by simp [rl],fun m r' hm=> ?_⟩
   by_cases hml:m<rs.length
   ·rw [List.getElem?_append_left hml] at hm
    obtain ⟨g',kd',ko'⟩:=rq m r' hm;obtain ⟨_,h,_⟩:=kd'.ex;exact ⟨g',kd'.kp k7 (uO h hk (by intro z;cases z)),ko'⟩
   ·have hm2:=(List.getElem?_eq_some_iff.mp hm).1
    rw [List.length_append,List.length_singleton] at hm2;have em:m=rs.length:=by (clear hm rl hk hp0 hd0 hb0 hb hpr as al Tz hnx WL Ds wF FZ T5 vO G3 Du pG Jd qL htw pF htn plb Ci Ez hkv not_ nop non Bp Ew Eu Ey Cz CG q5 q4 q3 q2 q1 n10 n9 n8 n7 n6 n5 n4 n3 n2 n1 hps hp ep rN h1 h0 tq Bm zx yH htv vP hw vN Bo jo ro h8 wl;omega)
    subst em;rw [List.getElem?_append_right (Nat.le_refl _)] at hm;simp at hm;subst hm;rw [rl];obtain ⟨_,h,_⟩:=kd6.ex;exact ⟨g,kd6.kp k7 (uO h hk (by intro z;cases z)),ko⟩
  generalize (upd H6 R.kn (.lst (rs.map V.ref++[V.ref d])))=H7 at k7 t7 K7 ⊢;have Ue:∀{b u},H5 b=some u->b≠R.kn->H7 b=some u:=fun e n=>k7 _ _ (s6 _ _ e) n;have W7:gn H7 R.a ws':=(W5.same s6).kp hk k7 n2;have N7:lC H7 R.nd (nm ws'):=(N5.same s6).kp hk k7 n5;have WR:=Ue FZ Ez
  have hb7:H7 b=some (.lst (dG (cL ws' ws.length ws.length))):=k7 _ _ hb fun z=>by
   obtain ⟨_,z5,_⟩:=K5;rw [z,z5] at hb0;cases hb0
  have T7:gq H7 R.tk ts:=by
   refine ⟨tv,Ue T5 (Ne.symm n8),aL.keep (fun a xs e=>t7 _ _ (s6.tups _ _ (tt5 _ _ e))) _ (cj _ jQ _) dt⟩
  have f7:∀{b},H7 b=none->H5 b=none:=fun {b} e=>by
   cases q:H5 b with
   | none=>rfl
   | some u=>
     by_cases c:b=R.kn
     ·subst c;obtain ⟨_,z,_⟩:=K7;rw [z] at e;cases e
     ·rw [Ue q c] at e;cases e
  have bl:=lB ws' ws.length ws.length
  have RX:H7 tn=some (.tup [.int (hnd ws' ws.length),.int (cnt (ws'.take ws.length) (hnd ws' ws.length))]):=by
   rw [hnx,Tz];exact t7 _ _ (s6.tups _ _ Ds)
  refine ⟨_,rfl,R.o,aj,R.dx,_,_,rfl,WR,ao.cls,ao.oX,rfl,_,rfl,_,_,_,_,rfl,rfl,gC.of (t7 _ _ hpr),rfl,_,rfl,R.nd,b,tn,ws',ws.length,_,rfl,N7,hb7,RX,fun e he=>sU (by (clear RX bl hb7 WR rl hk hp0 hd0 hb0 hb hpr as al Tz hnx Ds wF FZ T5 vO G3 Du pG Jd qL htw pF htn plb Ci Ez hkv not_ nop non Bp Ew Eu Ey Cz CG q5 q4 q3 q2 q1 n10 n9 n8 n7 n6 n5 n4 n3 n2 n1 hps hp ep rN h1 h0 tq Bm zx yH htv vP hw vN Bo jo ro h8 wl;omega)) he,by (clear RX hb7 WR rl hk hp0 hd0 hb0 hb hpr as al Tz hnx WL Ds wF FZ T5 vO G3 Du pG Jd qL htw pF htn plb Ci Ez hkv not_ nop non Bp Ew Eu Ey Cz CG q5 q4 q3 q2 q1 n10 n9 n8 n7 n6 n5 n4 n3 n2 n1 hps hp ep rN h1 h0 tq Bm zx yH htv vP hw vN Bo jo ro h8;omega),fun r8 H8 hr8 NT s8=> ?_⟩;dsimp only [zT];refine rH (K:=K) NT fun l ns H9 hl NN pp ss s9=> ?_;have Qq:=s8.trans s9;have T9:=T7.same Qq;obtain ⟨tv9,Dr,dt9⟩:=id T9;obtain ⟨nsv,hns,dns⟩:=id NN;have ntl:=j7 ws' ws.length (cL ws' ws.length ws.length);have l1:nsv.length=(bC ws' ws.length (cL ws' ws.length ws.length)).length:=by rw [dns.length,List.length_map,pp.length_eq]
  have etv:tv9=tv:=by
   have z:=Qq _ _ (Ue T5 (Ne.symm n8));rw [Dr] at z;injection z with z;injection z
  subst etv
  have nlt:l≠R.tk:=fun z=>by
   subst z;rw [s8 _ _ (Ue T5 (Ne.symm n8))] at hl;cases hl
  refine ⟨_,rfl,R.o,aj,R.dx,_,_,rfl,Qq _ _ WR,ao.cls,ao.oW,rfl,.inl ⟨rfl,_,bA.of Dr⟩,_,rfl,R.tk,l,_,_,rfl,rfl,Dr,hns,by rw [sizeLine_eq];(clear nlt T5 htv hns Dr hl hr8 RX hb7 WR rl hk hp0 hd0 hb0 hb hpr as al Tz hnx WL Ds wF FZ vO G3 Du pG Jd qL htw pF htn plb Ci Ez hkv not_ nop non Bp Ew Eu Ey Cz CG q5 q4 q3 q2 q1 n10 n9 n8 n7 n6 n5 n4 n3 n2 n1 hps hp ep rN h1 h0 zx yH vP hw vN Bo jo ro h8;omega), ?_⟩;have k10:Kp R.tk H9 (upd H9 R.tk (.lst (tv9++nsv))):=Kp.set;have t10:=k10.tups Dr;have hl0:H l=none:=f5 (f7 (s8.free hl));refine ⟨_,rfl,k l ns _ hl0 ?_ pp ss ?_ ?_⟩
  ·exact NN.kp t10 k10 nlt
  ·refine ⟨k10 _ _ (Qq _ _ WR) not_,(W7.same Qq).kp Dr k10 n3,(N7.same Qq).kp Dr k10 n6,by rw [WL];exact (K7.same Qq).kp k10 Dr n8,⟨ts++ns,⟨tv9++nsv,aq, ?_⟩, ?_⟩,k10 _ _ (Qq _ _ (Ue wF q3)) q4,Bo,fun h x e=> ?_,nd0,vN⟩
   ·rw [List.map_append]
    exact aL.append (aL.keep t10 _ (cj _ jQ _) dt9) (aL.keep t10 _ (cj _ jQ _) dns)
   ·rw [WL,as,al]
    exact tp.append pp
   ·have xm:x∈R.ps:=List.mem_of_getElem? e
    exact k10 _ _ (Qq _ _ (Ue (ps5 h x e) (fun z=>n9 (z▸xm)))) (fun z=>n10 (z▸xm))
  ·intro b u e n
   exact k10 _ _ (Qq _ _ (Ue (kl5 _ _ e n) (fun z=>n (z ▸ .tail _ (.tail _ (.head _)))))) (fun z=>n (z ▸ .tail _ (.tail _ (.tail _ (.head _)))))
def nG (C:Addr) (K:PySem.W.Frag):Sp:=fun vs H Q _=>∃(R:Rc) (ws:List bK) (hn:Nat),vs=[.ref R.o]/\RcAt C H R ws hn /\
 ∀(r:Addr) (ns:List Nt) (H':Hp),H r=none->gq H' r ns->ns.Perm (jk ws ws.length)->yw ns->Same H H'->Q (.ref r) H'
theorem JZ {aj:Addr} {f:Addr} {fd:FuncData} (F:jZ K "notes" "Recorder.notes" bV f fd) (ao:cg K aj) (Bt:qY mg):cu P w K mg base jY 1 f fd ["self"] (nG aj K):=by
 refine F.ok rJ (fun vs H Q E h=> ?_) (fun cdv A outer s H vs Q E hr h=> ?_)
 ·obtain ⟨R,ws,hn,rfl,_⟩:=h
  rfl
 ·obtain ⟨R,ws,hn,rfl,r,k⟩:=h
  refine ⟨_,(aH (aX (aO (kh (K:=K) rfl) (by rfl) Bt.sO o9 (ak (bH (K:=K) rfl (pv 0) rfl) au)))), ?_⟩;obtain ⟨ts,rtk,tp⟩:=r.tkn;refine ⟨_,rfl,R.o,aj,R.dx,_,_,rfl,r.o,ao.cls,ao.oW,rfl, ?_⟩;dsimp only [zT];exact rH (K:=K) rtk fun l ns H9 hl NN pp ss s9=>k l ns H9 hl NN (pp.trans tp) ss s9
def KnL (ws:List bK) (h:Int) (g:Int->Int):Prop:=(pO ws h=[] -> ∀i,g i=0) /\ ∀j,(pO ws h).getLast?=some j->pL ws j g /\ ∀i,0<=g i
def rC (C CN:Addr) (K:PySem.W.Frag):Sp:=fun vs H Q E=>∃(R:Rc) (ws:List bK) (hn:Nat) (h:Int),vs=[.ref R.o,.int h]/\RcAt C H R ws hn/\hn<=8/\(¬Dn h hn->E (.ref CN) none H) /\
 (0<=h->h<hn -> ∀(r:Addr) (g:Int->Int) (H':Hp),H r=none->H' r=some (.lst ((List.range hn).map fun i:Nat=>V.int (g (i:Int))))->KnL ws h g->Same H H'->Q (.ref r) H')
theorem J0 {aj aG:Addr} {f:Addr} {fd:FuncData} (F:jZ K "known" "Recorder.known" bW f fd) (ao:cg K aj) (jK:Jv P w K mg base 3 "check_hand" ["places","hand"] (rG aG K)) (Bt:qY mg):cu P w K mg base (yG P w) 4 f fd ["self","hand"] (rC aj aG K):=by
 refine F.okX ig (fun vs H Q E h=> ?_) (fun cdv A outer s H vs Q E hr h hR=> ?_)
 ·obtain ⟨R,ws,hn,h,rfl,_⟩:=h
  rfl
 ·obtain ⟨R,ws,hn,h,rfl,r,h8,k2,k⟩:=h
  have hu:=Dq hr
  by_cases hin:Dn h hn
  rotate_left
  ·refine ⟨_,(aC (cW (Ge jK rfl hR (hr.mono (by decide)) (by rfl) (ak (bH (K:=K) rfl (pv 0) rfl) (ak (pv 1) au))))
   (aC (aW (i:=2) ig.nd rfl (Or.inr rfl) (Cq (zm (K:=K) rfl (aR (aM (K:=K) rfl) (bH (K:=K) rfl (pv 0) rfl) (pv 1) (fun _ _=>rfl))) (aR (aM (K:=K) rfl) (bH (K:=K) rfl (pv 0) rfl) (aR (aM (K:=K) rfl) (aR (aM (K:=K) rfl) (bH (K:=K) rfl (pv 0) rfl) (pv 1) (fun _ _=>rfl)) (wK qC aF) (fun _ _=>rfl)) (fun _ _=>rfl)) wL))
   (aH (aX (gw rfl (N:=["other","known"]) (own:=["other"]) (caps:=[2]) (bf.of (by kernel_rfl)) (dJ (by rfl) Bt.fD (ak (aO (aU (K:=K) rfl) (by rfl) Bt.fX dI (ak (bH (K:=K) rfl (pv 0) rfl) au)) au)) (fun _ _ _ _=>(bw (i:=0) (show List.Nodup (["other","known"]:List Str) by decide +kernel) rfl (Or.inl rfl))) (fun _ _ _ _=>eN) (fun _ _ _ _=>(rP hu (pv 1) (pv 0) aF ⟨rfl,rfl,rfl,rfl⟩))))))), ?_⟩
   refine ⟨_,rfl,R.o,aj,R.dx,_,_,rfl,r.o,ao.cls,ao.dO,rfl,_,rfl,R.pl,R.ps.map V.ref,h,rfl,r.pl,fun z=>absurd z ?_,fun _=>k2 hin⟩;rw [List.length_map,r.Ip];exact hin
  have h0:=hin.1;have h1:=hin.2;have k:=k h0 h1;obtain ⟨hN,rfl⟩:∃m:Nat,h=m:=⟨h.toNat,by (clear h8 h1;omega)⟩;have jo:=r.pl;have rN:hN<R.ps.length:=by rw [r.Ip];(clear jo h0 h8;omega)
  obtain ⟨p,ep⟩:∃p,R.ps[hN]? = some p:=⟨R.ps[hN],by simp [rN]⟩;have hp:=r.X3 hN p ep;have hps:(R.ps.map V.ref)[hN]? = some (.ref p):=by rw [List.getElem?_map,ep];rfl
  have hu:=Dq hr
  refine ⟨_,(aC (cW (Ge jK rfl hR (hr.mono (by decide)) (by rfl) (ak (bH (K:=K) rfl (pv 0) rfl) (ak (pv 1) au))))
   (aC (aW (i:=2) ig.nd rfl (Or.inr rfl) (Cq (zm (K:=K) rfl (aR (aM (K:=K) rfl) (bH (K:=K) rfl (pv 0) rfl) (pv 1) (fun _ _=>rfl))) (aR (aM (K:=K) rfl) (bH (K:=K) rfl (pv 0) rfl) (aR (aM (K:=K) rfl) (aR (aM (K:=K) rfl) (bH (K:=K) rfl (pv 0) rfl) (pv 1) (fun _ _=>rfl)) (wK qC aF) (fun _ _=>rfl)) (fun _ _=>rfl)) wL))
   (aH (aX (gw rfl (N:=["other","known"]) (own:=["other"]) (caps:=[2]) (bf.of (by kernel_rfl)) (dJ (by rfl) Bt.fD (ak (aO (aU (K:=K) rfl) (by rfl) Bt.fX dI (ak (bH (K:=K) rfl (pv 0) rfl) au)) au)) (fun _ _ _ _=>(bw (i:=0) (show List.Nodup (["other","known"]:List Str) by decide +kernel) rfl (Or.inl rfl))) (fun _ _ _ _=>eN) (fun _ _ _ _=>(rP hu (pv 1) (pv 0) aF ⟨rfl,rfl,rfl,rfl⟩))))))), ?_⟩
  refine ⟨_,rfl,R.o,aj,R.dx,_,_,rfl,r.o,ao.cls,ao.dO,rfl,_,rfl,R.pl,R.ps.map V.ref,(hN:Int),rfl,jo,fun _=> ?_,fun z=>absurd (⟨by (clear hu hps hp ep rN jo h1 h0 h8;omega),by rw [List.length_map];(clear hu hps hp ep jo h1 h0 h8;omega)⟩:Dn (hN:Int) (R.ps.map V.ref).length) z⟩;refine ⟨_,rfl,R.o,aj,R.dx,_,_,rfl,r.o,ao.cls,ao.dO,rfl,_,rfl,_,_,_,_,rfl,rfl,bA.of jo,bZ hps,_,.inl ⟨_,bA.of hp,rfl⟩, ?_⟩
  have rest:∀(d:Addr) (g:Int->Int) (H1:Hp),jz H1 d g->Same H H1->KnL ws (hN:Int) g->(QG (zf ["other"] [2] (Ui (Mw (tCB (XJ K) (Mw (U4 K (v9 0) "places") zT)) zT)) (gM 0) JK (Mv (v9 1) (v9 0) (tC (V.int 0))))) {nx:=fun x H'=>Q V.non H',rt:=Q} [some (.ref R.o),some (.int (hN:Int)),some (.ref d)] H1:=by
   intro d g H1 kd s1 kl;have r:=r.same s1;refine ⟨_,rfl,R.o,aj,R.dx,_,_,rfl,r.o,ao.cls,ao.dO,rfl,R.pl,_,rfl,.inl (bA.of r.pl),_,rfl,by (clear hu hps hp ep rN jo h1 h0 h8;omega),by rw [List.length_map,r.Ip];(clear hu hps hp ep rN jo h1 h0;omega),fun D hD=> ?_⟩;rw [List.length_map,r.Ip,Int.toNat_natCast];refine o8 (fun i:Nat=>some (V.int (g (i:Int)))) hD (by (clear hD hu hps hp ep rN jo h1 h0;omega)) (fun i H2 G F hi s2 kG kF=> ?_) (fun H2 s2 e2=> ?_)
   ·obtain ⟨kvs,e,_,gv⟩:=(kd.same s2).get
    refine ⟨_,rfl,d,rfl,.inl ⟨_,.inl e⟩,_,rfl,_,yC.k (k:=Sum.inl (0+(i:Int))) e,kF _ H2 (Same.refl _) ?_⟩;rw [gv,Int.zero_add]
   ·refine k D g H2 (s1.free hD) ?_ kl (s1.trans s2)
    rw [e2];congr 2;rw [←List.filterMap_eq_map];rfl
  rcases List.eq_nil_or_concat (pO ws (hN:Int)) with e|⟨l,j,e⟩
  ·rw [e]
   refine gb ?_;intro d hd;exact rest d (fun _=>0) _ (Om aq) (aD hd) ⟨fun _ _=>rfl,fun j z=>by rw [e] at z;cases z⟩
  ·rw [List.concat_eq_append] at e
   have e1:(!(dG (pO ws (hN:Int))).isEmpty)=true:=by rw [e];simp [dG]
   rw [e1];refine iV ?_;obtain ⟨rs,hk,rl,rq⟩:=r.W0
   have jl:j<ws.length:=by
    have:j∈pO ws (hN:Int):=by rw [e];simp
    unfold pO at this;exact List.mem_range.mp (List.mem_filter.mp this).1
   obtain ⟨d,ed⟩:∃d,rs[j]? = some d:=⟨rs[j],by simp [rl,jl]⟩;obtain ⟨g,kd,ko⟩:=rq j d ed;refine ⟨_,rfl,R.o,aj,R.dx,_,_,rfl,r.o,ao.cls,ao.lA,rfl,_,rfl,R.o,aj,R.dx,_,_,rfl,r.o,ao.cls,ao.dO,rfl,_,rfl,_,_,_,_,rfl,rfl,bA.of jo,bZ hps,_,rfl,_,_,_,_,rfl,rfl,bA.of hp,(show uX (dG (pO ws (hN:Int))) (-1)=some (V.int (j:Int)) from by rw [e,dG,List.map_append];exact P_ _ _),_,_,_,_,rfl,rfl,bA.of hk,(bZ (j:=j) (v:=V.ref d) (by rw [List.getElem?_map,ed];rfl)), ?_⟩;refine rest d g H kd (Same.refl _) ⟨fun z=> ?_,fun j' z=> ?_⟩
   ·rw [e] at z
    exact absurd z (by simp)
   ·rw [e] at z
    simp at z;subst z;exact ⟨ko,kd.2⟩
theorem RcAt.kp {C:Addr} {H H':Hp} {R:Rc} {ws:List bK} {hn:Nat} {x:Addr} {ys:List V} (r:RcAt C H R ws hn) (k:Kp x H H') (hx:H x=some (.lst ys)) (n1:x∉R.fp) (n2:R.pl≠x):RcAt C H' R ws hn:=by
 obtain ⟨ts,t1,t2⟩:=r.tkn;have na:R.a≠x:=fun z=>n1 (z ▸ .head _);have nn:R.nd≠x:=fun z=>n1 (z ▸ .tail _ (.head _));have nk:R.kn≠x:=fun z=>n1 (z ▸ .tail _ (.tail _ (.head _)));have nt:R.tk≠x:=fun z=>n1 (z ▸ .tail _ (.tail _ (.tail _ (.head _))));have np:∀p∈R.ps,p≠x:=fun p m z=>n1 (z ▸ .tail _ (.tail _ (.tail _ (.tail _ m))));have no:R.o≠x:=uO r.o hx (by intro z;cases z);exact ⟨k _ _ r.o no,r.web.kp hx k na,r.named.kp hx k nn,r.W0.kp k hx nk,⟨ts,t1.kp (k.tups hx) k nt,t2⟩,k _ _ r.pl n2,r.Ip,fun h p e=>k _ _ (r.X3 h p e) (np p (List.mem_of_getElem? e)),r.nd,r.vN⟩
theorem t_:∀(suf pre:List bK) {j:Nat},j<pre.length->bC (pre++suf) j (cL (pre++suf) j j)=bC pre j (cL pre j j)
 | [],pre,j,_=>by rw [List.append_nil]
 | x::s,pre,j,h=>by
   rw [show pre++x::s=(pre++[x])++s by simp,t_ s (pre++[x]) (by rw [List.length_append];omega),yq h,rQ h fun e he=>sU h he]
theorem Oc {ws:List bK} {i:Nat} (h:i<ws.length):bC (ws.take (i+1)) i (cL (ws.take (i+1)) i i)=bC ws i (cL ws i i):=by
 have:=t_ (ws.drop (i+1)) (ws.take (i+1)) (j:=i) (by rw [List.length_take];omega);rw [List.take_append_drop] at this;exact this.symm
theorem Mu {hn:Int} {ws:List bK} (h:∀x∈ws,mY hn x) (h8:hn<=8):∀x∈ws,ZS x:=fun x hx=>⟨⟨(h x hx).1.1,by have:=(h x hx).1.2;omega⟩,(h x hx).2.1,(h x hx).2.2⟩
theorem Wd (x y:Nt):PyData.eqv (nD x) (nD y)=decide (x=y):=by
 obtain ⟨a,b,c,d⟩:=x;obtain ⟨a',b',c',d'⟩:=y;simp only [nD,PyData.eqv,PyData.eqvAll,Bool.and_true]
 by_cases e1:a=a'
 ·subst e1
  by_cases e2:b=b'
  ·subst e2
   by_cases e3:c=c'
   ·subst e3
    by_cases e4:d=d'
    ·subst e4;simp
    ·simp [e4]
   ·simp [e3]
  ·simp [e2]
 ·simp [e1]
theorem wA (ns:List Nt):SeqAt.shaped (.list (ns.map nD))=true:=
 nM nD 1 (by decide) (fun _ _=>rfl) (fun _ _=>by show (max 0 (max 0 (max 0 (max 0 0))))+1<=1;decide)
def RecAt (H:Hp) (t c a:Addr) (cs:List Int) (ns:List Nt):Prop:=H t=some (.tup [.ref c,.ref a])/\H c=some (.lst (cs.map V.int))/\gq H a ns
theorem Za (a b c d:V):j4 [a,b,c,d] none (some 2)=[a,b]:=xU _ 2
theorem Y_ (a b c d:V):j4 [a,b,c,d] (some 2) none=[c,d]:=Pj _ 2
theorem Vm {α:Type} (xs:List α) (h:xs.length=4):¬(HT.iK xs.length 0 none=0/\HT.iK xs.length xs.length (some 2)=xs.length):=by
 rw [h];decide
theorem Vl {α:Type} (xs:List α) (h:xs.length=4):¬(HT.iK xs.length 0 (some 2)=0/\HT.iK xs.length xs.length none=xs.length):=by
 rw [h];decide
def uI (cs:List Int) (ns:List Nt):Prop:=Ql cs/\ns.length<=100000 /\ ∀x∈ns,Qd cs x
def num (i:Int):Str:=Str.ofString (toString i)
def nT (x:Nt):Str:=num x.1++Str.ofString "." ++ num x.2.1++Str.ofString " " ++ num x.2.2.1++Str.ofString "." ++ num x.2.2.2
def rT (cs:List Int) (ns:List Nt):Str:=Str.ofString "counts" ++ cat (cs.map fun c=>Str.ofString " " ++ num c)++cat (ns.map fun x=>Str.ofString "\n" ++ nT x)
theorem Jq:∀xs:List Str,(cat xs).length=(xs.map (·.length)).sum
 | []=>rfl
 | x::xs=>by rw [cat,Str.length_append,Jq xs,List.map_cons,List.sum_cons]
theorem sum_bound {α:Type} (f:α->Nat) (b:Nat):∀l:List α,(∀x∈l,f x<=b)->(l.map f).sum<=b*l.length
 | [],_=>by simp
 | x::l,h=>by
   have a:=h x (by simp);have ih:=sum_bound f b l fun y hy=>h y (by simp [hy]);rw [List.map_cons,List.sum_cons,List.length_cons,Nat.mul_add];omega
theorem Ah:(Str.ofString ".").length=1:=rfl
theorem Ag:(Str.ofString " ").length=1:=rfl
theorem VH:(Str.ofString "\n").length=1:=rfl
theorem wY:(Str.ofString "counts").length=6:=rfl
theorem Qd.small {cs:List Int} {x:Nt} (cok:Ql cs) (h:Qd cs x):(0<=x.1/\x.1<=1000)/\(0<=x.2.1/\x.2.1<=1000)/\(0<=x.2.2.1/\x.2.2.1<=1000)/\(0<=x.2.2.2/\x.2.2.2<=1000):=by
 obtain ⟨⟨a0,a1⟩,⟨b0,b1⟩,⟨c0,c1⟩,⟨d0,d1⟩,_⟩:=h;have l:=cok.1;have g1:=cok.gI x.1;have g2:=cok.gI x.2.2.1;refine ⟨⟨a0,by omega⟩,⟨b0,by omega⟩,⟨c0,by omega⟩,⟨d0,by omega⟩⟩
theorem Vy {x:Nt} (h:(0<=x.1/\x.1<=1000)/\(0<=x.2.1/\x.2.1<=1000)/\(0<=x.2.2.1/\x.2.2.1<=1000)/\(0<=x.2.2.2/\x.2.2.2<=1000)):(nT x).length<=19:=by
 obtain ⟨⟨a0,a1⟩,⟨b0,b1⟩,⟨c0,c1⟩,⟨d0,d1⟩⟩:=h;unfold nT num;simp only [Str.length_append,Ah,Ag];have:=eX a0 a1;have:=eX b0 b1;have:=eX c0 c1;have:=eX d0 d1;omega
def wj (K:PySem.W.Frag):Sp:=fun vs H Q _=>∃(t:Addr) (a b:Int),vs=[.ref t]/\H t=some (.tup [.int a,.int b])/\(0<=a/\a<=1000)/\(0<=b/\b<=1000) /\ ∀H',Same H H'->Q (.str (num a++Str.ofString "." ++ num b)) H'
theorem JX {f:Addr} {fd:FuncData} (F:jZ K "touch_text" "touch_text" dh f fd) (Bt:qY mg):cu P w K mg base jY 1 f fd ["touch"] (wj K):=by
 refine F.ok yJ (fun vs H Q E h=> ?_) (fun cdv A outer s H vs Q E hr h=> ?_)
 ·obtain ⟨t,a,b,rfl,_⟩:=h
  rfl
 ·obtain ⟨t,a,b,rfl,ht,⟨a0,a1⟩,⟨b0,b1⟩,k⟩:=h
  refine ⟨_,(aH (aX (qJ (K:=K) rfl PySem.F.plainAttrs_str PySem.F.slot_str_join PySem.F.type_str_join (rR (K:=K) rfl) cY (ak (gw rfl (N:=["number"]) (own:=["number"]) (caps:=[]) (bf.of (by kernel_rfl)) (Rb (K:=K) rfl (pv 0)) (fun _ _ _ _=>(bw (i:=0) (show List.Nodup (["number"]:List Str) by decide +kernel) rfl (Or.inl rfl))) (fun _ _ _ _=>eN) (fun _ _ _ _=>(dW mK (by rfl) Bt.El yg (ak (pv 0) au)))) au)))), ?_⟩;refine ⟨rfl,_,rfl,t,rfl,⟨_,gC.of ht⟩,fun D hD=> ?_⟩;refine KZ (K:=K) (fun i=>([a,b][i]?).map fun z=>V.str (num z)) hD ht (by show 2<=100000;decide) (fun i v H2 G F hi s2 kG kF=> ?_) (fun H2 s2 e2=> ?_)
  ·obtain ⟨z,rfl,ez,z0,z1⟩:∃z,v=V.int z/\[a,b][i]? = some z/\0<=z/\z<=1000:=by
    match i,hi with
    | 0,hi=>exact ⟨a,(by simpa using hi.symm),rfl,a0,a1⟩
    | 1,hi=>exact ⟨b,(by simpa using hi.symm),rfl,b0,b1⟩
    | i+2,hi=>simp at hi
   exact ⟨_,rfl,z,rfl,Iw z0 z1,kF _ H2 (Same.refl _) (by rw [ez];rfl)⟩
  ·refine ⟨_,D,[num a,num b],rfl,rfl,bA.of e2, ?_, ?_⟩
   ·have:=eX a0 a1
    have:=eX b0 b1;simp only [List.map_cons,List.map_nil,List.sum_cons,List.sum_nil,List.length_cons,List.length_nil,Ah,num];omega
   ·have e:Txt.join (Str.ofString ".") [num a,num b]=num a++Str.ofString "." ++ num b:=by
     rw [glued_cons,List.map_cons,List.map_nil,cat,cat,iR,Str.append_assoc]
    rw [e];exact k H2 s2
def zV (K:PySem.W.Frag):Sp:=fun vs H Q _=>∃(t:Addr) (x:Nt),vs=[.ref t]/\H t=some (.tup (nV x))/\((0<=x.1/\x.1<=1000)/\(0<=x.2.1/\x.2.1<=1000)/\(0<=x.2.2.1/\x.2.2.1<=1000)/\(0<=x.2.2.2/\x.2.2.2<=1000)) /\ ∀H',Same H H'->Q (.str (nT x)) H'
theorem NZ {f:Addr} {fd:FuncData} (F:jZ K "note_text" "note_text" dM f fd) (sY:FnAt P w K mg base 1 "touch_text" ["touch"] (wj K)) (Bt:qY mg):cu P w K mg base jY 2 f fd ["note"] (zV K):=by
 refine F.ok z7 (fun vs H Q E h=> ?_) (fun cdv A outer s H vs Q E hr h=> ?_)
 ·obtain ⟨t,x,rfl,_⟩:=h
  rfl
 ·obtain ⟨t,x,rfl,ht,⟨xa,xb,xc,xd⟩,k⟩:=h
  refine ⟨_,(aH (aX (qJ (K:=K) rfl PySem.F.plainAttrs_str PySem.F.slot_str_join PySem.F.type_str_join (rR (K:=K) rfl) cY (ak (bO (ak (bx sY (hr.mono (by decide)) (by rfl) (ak (rO (Ih (K:=K) rfl) (pv 0) vI (vH aF)) au)) (ak (bx sY (hr.mono (by decide)) (by rfl) (ak (rO (Ih (K:=K) rfl) (pv 0) (vH aF) vI) au)) au))) au)))), ?_⟩;refine ⟨rfl,_,rfl,_,rfl,_,_,rfl,gC.of ht,Vm _ rfl,fun p1 hp1=> ?_⟩;have c1:j4 (nV x) none (some 2)=[.int x.1,.int x.2.1]:=Za ..;rw [c1];have s1:=aD (o:=HO.tup [V.int x.1,V.int x.2.1]) hp1;refine ⟨p1,_,_,rfl,aq,xa,xb,fun H2 s2=> ?_⟩;have s12:=s1.trans s2;refine ⟨_,rfl,_,rfl,_,_,rfl,gC.of (s12 _ _ ht),Vl _ rfl,fun p2 hp2=> ?_⟩;have c2:j4 (nV x) (some 2) none=[.int x.2.2.1,.int x.2.2.2]:=Y_ ..;rw [c2];have s3:=aD (o:=HO.tup [V.int x.2.2.1,V.int x.2.2.2]) hp2;refine ⟨p2,_,_,rfl,aq,xc,xd,fun H4 s4=> ?_⟩;refine ⟨(by show 2<=sizeLine;decide),fun l hl=> ?_⟩;have s5:=aD (o:=HO.lst [V.str (num x.1++Str.ofString "." ++ num x.2.1),V.str (num x.2.2.1++Str.ofString "." ++ num x.2.2.2)]) hl;refine ⟨_,l,[num x.1++Str.ofString "." ++ num x.2.1,num x.2.2.1++Str.ofString "." ++ num x.2.2.2],rfl,rfl,bA.of aq, ?_, ?_⟩
  ·have:=eX xa.1 xa.2
   have:=eX xb.1 xb.2;have:=eX xc.1 xc.2;have:=eX xd.1 xd.2;simp only [List.map_cons,List.map_nil,List.sum_cons,List.sum_nil,List.length_cons,List.length_nil,Str.length_append,Ah,Ag,num];omega
  ·have e:Txt.join (Str.ofString " ") [num x.1++Str.ofString "." ++ num x.2.1,num x.2.2.1++Str.ofString "." ++ num x.2.2.2]=nT x:=by
    rw [glued_cons,List.map_cons,List.map_nil,cat,cat,iR];unfold nT;simp only [Str.append_assoc]
   rw [e];exact k _ (((s12.trans s3).trans s4).trans s5)
theorem Q0 {cs:List Int} (ok:Ql cs):(Str.ofString "counts" ++ cat (cs.map fun c=>Str.ofString " " ++ num c)).length<=46:=by
 rw [Str.length_append,Jq,List.map_map,wY]
 have:=sum_bound ((fun s:Str=>s.length)∘fun c:Int=>Str.ofString " " ++ num c) 5 cs fun c hc=>by
  have q:=ok.2 c hc;have:=eX (i:=c) q.1 (by omega);simp only [Function.comp,Str.length_append,Ag,num];omega
 have l:=ok.1;omega
theorem Kc {cs:List Int} {ns:List Nt} (ok:uI cs ns):((ns.map nT).map (·.length)).sum<=19*ns.length:=by
 rw [List.map_map];exact sum_bound ((fun s:Str=>s.length)∘nT) 19 ns fun x hx=>Vy ((ok.2.2 x hx).small ok.1)
theorem Fd (cs:List Int) (ns:List Nt):Txt.join (Str.ofString "\n") ((Str.ofString "counts" ++ cat (cs.map fun c=>Str.ofString " " ++ num c))::ns.map nT)=rT cs ns:=by
 rw [glued_cons,List.map_map];rfl
theorem Fe {cs:List Int} {ns:List Nt} (ok:uI cs ns):((((Str.ofString "counts" ++ cat (cs.map fun c=>Str.ofString " " ++ num c))::ns.map nT).map (·.length)).sum+((Str.ofString "counts" ++ cat (cs.map fun c=>Str.ofString " " ++ num c))::ns.map nT).length*(Str.ofString "\n").length<=16777216):=by
 have a:=Q0 ok.1;have b:=Kc ok;have c:=ok.2.1;rw [List.map_cons,List.sum_cons,List.length_cons,List.length_map,VH];omega
def tQ (K:PySem.W.Frag):Sp:=fun vs H Q _=>∃(t c a:Addr) (cs:List Int) (ns:List Nt),vs=[.ref t]/\RecAt H t c a cs ns/\uI cs ns /\ ∀H',Same H H'->Q (.str (rT cs ns)) H'
theorem wN {f:Addr} {fd:FuncData} (F:jZ K "record_text" "record_text" cN f fd) (Es:FnAt P w K mg base 2 "note_text" ["note"] (zV K)) (Bt:qY mg):cu P w K mg base jY 3 f fd ["record"] (tQ K):=by
 refine F.ok nO (fun vs H Q E h=> ?_) (fun cdv A outer s H vs Q E hr h=> ?_)
 ·obtain ⟨t,c,a,cs,ns,rfl,_⟩:=h
  rfl
 ·obtain ⟨t,c,a,cs,ns,rfl,⟨ht,hc,hN⟩,ok,k⟩:=h
  obtain ⟨vs,ha,dv⟩:=id hN;have vl:vs.length=ns.length:=by rw [dv.length,List.length_map]
  have nl:=ok.2.1;have c8:=ok.1.1
  refine ⟨_,(aC (aW (i:=1) nO.nd rfl (Or.inl rfl) (bO (ak (qJ (K:=K) rfl PySem.F.plainAttrs_str PySem.F.slot_str_join PySem.F.type_str_join (rR (K:=K) rfl) cY (ak (bB Gi (bO (ak cY au)) (gw rfl (N:=["count"]) (own:=["count"]) (caps:=[]) (bf.of (by kernel_rfl)) (iC (K:=K) rfl (aR (cH (K:=K) rfl) (pv 0) aF (fun _ _=>rfl))) (fun _ _ _ _=>(bw (i:=0) (show List.Nodup (["count"]:List Str) by decide +kernel) rfl (Or.inl rfl))) (fun _ _ _ _=>eN) (fun _ _ _ _=>(dW mK (by rfl) Bt.El yg (ak (pv 0) au))))) au)) au)))
   (aC (cW (qJ (K:=K) rfl PySem.F.plainAttrs_list PySem.F.slot_list_extend PySem.F.type_list_extend uc (pv 1) (ak (gw rfl (N:=["note"]) (own:=["note"]) (caps:=[]) (bf.of (by kernel_rfl)) (iC (K:=K) rfl (aR (cH (K:=K) rfl) (pv 0) aF (fun _ _=>rfl))) (fun _ _ _ _=>(bw (i:=0) (show List.Nodup (["note"]:List Str) by decide +kernel) rfl (Or.inl rfl))) (fun _ _ _ _=>eN) (fun _ _ _ _=>(bx Es (hr.mono (by decide)) (by rfl) (ak (pv 0) au)))) au)))
   (aH (aX (qJ (K:=K) rfl PySem.F.plainAttrs_str PySem.F.slot_str_join PySem.F.type_str_join (rR (K:=K) rfl) cY (ak (pv 1) au)))))), ?_⟩
  refine ⟨rfl,(by show 1<=sizeLine;decide),fun l1 hl1=> ?_⟩;have s1:=aD (o:=HO.lst [V.str (Str.ofString "counts")]) hl1;refine ⟨_,rfl,_,_,_,_,rfl,rfl,gC.of (s1 _ _ ht),rfl,c,rfl,⟨_,bA.of (s1 _ _ hc)⟩,fun D hD=> ?_⟩;refine sE (K:=K) (fun i=>(cs[i]?).map fun z=>V.str (num z)) hD (bA.of (s1 _ _ hc)) (by rw [List.length_map];omega) (fun i v H2 G F hi s2 kG kF=> ?_) (fun H2 s2 e2=> ?_)
  ·rw [List.getElem?_map] at hi
   cases ei:cs[i]? with
   | none=>rw [ei] at hi;cases hi
   | some z=>
     rw [ei] at hi;cases hi;have q:=ok.1.2 z (List.mem_of_getElem? ei);exact ⟨_,rfl,z,rfl,Iw q.1 (by omega),kF _ H2 (Same.refl _) (by rw [ei];rfl)⟩
  rw [List.length_map,Jg] at e2;refine ⟨l1,D,_,_,rfl,rfl,s2 _ _ aq,e2,by rw [List.length_map,sizeLine_eq];simp;omega,fun l2 hl2=> ?_⟩;have s3:=aD (o:=HO.lst ([V.str (Str.ofString "counts")]++cs.map fun z=>V.str (num z))) hl2;have s13:=(s1.trans s2).trans s3;have Y5:[V.str (Str.ofString "counts")]++cs.map (fun z=>V.str (num z))=(Str.ofString "counts" :: cs.map num).map V.str:=by simp
  refine ⟨_,l2,Str.ofString "counts" :: cs.map num,rfl,rfl,bA.of (by rw [aq,Y5]), ?_, ?_⟩
  ·have:=sum_bound ((fun s:Str=>s.length)∘num) 4 cs fun z hz=>eX (ok.1.2 z hz).1 (by have:=ok.1.2 z hz;omega)
   rw [List.map_cons,List.sum_cons,List.map_map,List.length_cons,List.length_map,wY,Ag];omega
  have afp:Txt.join (Str.ofString " ") (Str.ofString "counts" :: cs.map num)=Str.ofString "counts" ++ cat (cs.map fun c=>Str.ofString " " ++ num c):=by
   rw [glued_cons,List.map_map];rfl
  rw [afp];refine ⟨(by show 1<=sizeLine;decide),fun p hp=> ?_⟩;have s4:=aD (o:=HO.lst [V.str (Str.ofString "counts" ++ cat (cs.map fun c=>Str.ofString " " ++ num c))]) hp;have QT:=s13.trans s4;have hp0:H p=none:=s13.free hp;refine ⟨_,rfl,.inl ⟨rfl,_,bA.of aq⟩,_,rfl,_,_,_,_,rfl,rfl,gC.of (QT _ _ ht),rfl,a,rfl,⟨_,bA.of (QT _ _ ha)⟩,fun D2 hD2=> ?_⟩;refine sE (K:=K) (fun i=>(ns[i]?).map fun x=>V.str (nT x)) hD2 (bA.of (QT _ _ ha)) (by omega) (fun i v H5 G F hi s5 kG kF=> ?_) (fun H5 s5 e5=> ?_)
  ·obtain ⟨x,q,ex,rfl,hx⟩:=Ad dv hi
   exact ⟨_,rfl,q,x,rfl,s5 _ _ (QT _ _ hx),(ok.2.2 x (List.mem_of_getElem? ex)).small ok.1,fun H6 s6=>kF _ H6 s6 (by rw [ex];rfl)⟩
  rw [vl,Jg] at e5;have vO:=s5 _ _ (aq (H:=_) (a:=p) (o:=HO.lst [V.str (Str.ofString "counts" ++ cat (cs.map fun c=>Str.ofString " " ++ num c))]));refine ⟨p,D2,_,_,rfl,rfl,vO,e5,by rw [List.length_map,sizeLine_eq];simp;omega, ?_⟩;have k6:Kp p H5 (upd H5 p (.lst ([V.str (Str.ofString "counts" ++ cat (cs.map fun c=>Str.ofString " " ++ num c))]++ns.map fun x=>V.str (nT x)))):=Kp.set;have el2:[V.str (Str.ofString "counts" ++ cat (cs.map fun c=>Str.ofString " " ++ num c))]++ns.map (fun x=>V.str (nT x))=((Str.ofString "counts" ++ cat (cs.map fun c=>Str.ofString " " ++ num c))::ns.map nT).map V.str:=by simp
  refine ⟨rfl,_,rfl,_,p,_,rfl,rfl,bA.of (by rw [aq,el2]),Fe ok, ?_⟩;rw [Fd];exact k _ fun b o e=>k6 _ _ ((QT.trans s5) _ _ e) (aB e hp0)
def nH (C:Addr) (K:PySem.W.Frag):Sp:=fun vs H Q _=>∃(R:Rc) (ws:List bK) (hn:Nat),vs=[.ref R.o]/\RcAt C H R ws hn/\hn<=8 /\
 ∀(r:Addr) (H':Hp),H r=none->H' r=some (.lst (((List.range hn).map fun h:Nat=>cnt ws (h:Int)).map V.int))->Same H H'->Q (.ref r) H'
theorem J1 {aj:Addr} {f:Addr} {fd:FuncData} (F:jZ K "counts" "Recorder.counts" bL f fd) (ao:cg K aj) (Bt:qY mg):cu P w K mg base jY 1 f fd ["self"] (nH aj K):=by
 refine F.ok qF (fun vs H Q E h=> ?_) (fun cdv A outer s H vs Q E hr h=> ?_)
 ·obtain ⟨R,ws,hn,rfl,_⟩:=h
  rfl
 ·obtain ⟨R,ws,hn,rfl,r,h8,k⟩:=h
  refine ⟨_,(aH (aX (gw rfl (N:=["places"]) (own:=["places"]) (caps:=[]) (bf.of (by kernel_rfl)) (iC (K:=K) rfl (bH (K:=K) rfl (pv 0) rfl)) (fun _ _ _ _=>(bw (i:=0) (show List.Nodup (["places"]:List Str) by decide +kernel) rfl (Or.inl rfl))) (fun _ _ _ _=>eN) (fun _ _ _ _=>(aO (aU (K:=K) rfl) (by rfl) Bt.fX dI (ak (pv 0) au)))))), ?_⟩;have Ip:=r.Ip;refine ⟨_,rfl,R.o,aj,R.dx,_,_,rfl,r.o,ao.cls,ao.dO,rfl,R.pl,rfl,⟨_,bA.of r.pl⟩,fun D hD=> ?_⟩;refine sE (K:=K) (fun i:Nat=>some (V.int (cnt ws (i:Int)))) hD (bA.of r.pl) (by rw [List.length_map];omega) (fun i v H2 G F hi s2 kG kF=> ?_) (fun H2 s2 e2=> ?_)
  ·rw [List.getElem?_map] at hi
   obtain ⟨p,ep,rfl⟩:∃p,R.ps[i]? = some p/\v = .ref p:=by
    cases e:R.ps[i]? with
    | none=>rw [e] at hi;cases hi
    | some q=>rw [e] at hi;exact ⟨q,rfl,(Option.some.inj hi).symm⟩
   refine ⟨_,rfl,p,_,rfl,.inl (bA.of (s2 _ _ (r.X3 i p ep))),kF _ H2 (Same.refl _) ?_⟩;have e:=Ir ws (i:Int);show some (V.int (cnt ws (i:Int)))=some (V.int (((dG (pO ws (i:Int))).length:Nat):Int));rw [←e];unfold dG;rw [List.length_map]
  ·refine k D H2 hD ?_ s2
   rw [e2,List.length_map,Ip,List.map_map,←List.filterMap_eq_map];rfl
def FJ (C:Addr) (K:PySem.W.Frag):Sp:=fun vs H Q _=>∃(R:Rc) (ws:List bK) (hn:Nat),vs=[.ref R.o]/\RcAt C H R ws hn/\Q (.int ((jk ws ws.length).length:Nat)) H
theorem Rt {aj:Addr} {f:Addr} {fd:FuncData} (F:jZ K "__len__" "Recorder.__len__" bG f fd) (ao:cg K aj) (Bt:qY mg):cu P w K mg base jY 1 f fd ["self"] (FJ aj K):=by
 refine F.ok pB (fun vs H Q E h=> ?_) (fun cdv A outer s H vs Q E hr h=> ?_)
 ·obtain ⟨R,ws,hn,rfl,_⟩:=h
  rfl
 ·obtain ⟨R,ws,hn,rfl,r,k⟩:=h
  refine ⟨_,(aH (aX (aO (aU (K:=K) rfl) (by rfl) Bt.fX dI (ak (bH (K:=K) rfl (pv 0) rfl) au)))), ?_⟩;obtain ⟨ts,⟨vs,hv,dv⟩,tp⟩:=r.tkn;refine ⟨_,rfl,R.o,aj,R.dx,_,_,rfl,r.o,ao.cls,ao.oW,rfl,R.tk,_,rfl,.inl (bA.of hv), ?_⟩;have e:vs.length=(jk ws ws.length).length:=by rw [dv.length,List.length_map,tp.length_eq]
  rw [e];exact k
def Fz (C:Addr) (K:PySem.W.Frag):Sp:=fun vs H Q _=>∃(R:Rc) (ws:List bK) (hn:Nat),vs=[.ref R.o]/\RcAt C H R ws hn/\hn<=8 /\
 (∀ns:List Nt,ns.Perm (jk ws ws.length)->uI ((List.range hn).map fun h:Nat=>cnt ws (h:Int)) ns) /\
 ∀(ns:List Nt) (H':Hp),ns.Perm (jk ws ws.length)->yw ns->Same H H'->Q (.str (rT ((List.range hn).map fun h:Nat=>cnt ws (h:Int)) ns)) H'
theorem Rr {aj:Addr} {f:Addr} {fd:FuncData} (F:jZ K "__str__" "Recorder.__str__" bF f fd) (ao:cg K aj) (yX:FnAt P w K mg base 3 "record_text" ["record"] (tQ K)) (cX:MethAt P w K mg base 1 aj "counts" ["self"] (nH aj K)) (dF:MethAt P w K mg base 1 aj "notes" ["self"] (nG aj K)) (Bt:qY mg):cu P w K mg base jY 4 f fd ["self"] (Fz aj K):=by
 refine F.ok pA (fun vs H Q E h=> ?_) (fun cdv A outer s H vs Q E hr h=> ?_)
 ·obtain ⟨R,ws,hn,rfl,_⟩:=h
  rfl
 ·obtain ⟨R,ws,hn,rfl,r,h8,okk,k⟩:=h
  refine ⟨_,(aH (aX (dW Hh (by rfl) Bt.El yg (ak (bx yX (hr.mono (by decide)) (by rfl) (ak (nR (ak (eZ cX ao.cls (hr.mono (by decide)) (pv 0)) (ak (eZ dF ao.cls (hr.mono (by decide)) (pv 0)) au))) au)) au)))), ?_⟩;refine ⟨_,rfl,R.o,R.dx,_,rfl,r.o,rfl,R,ws,hn,rfl,r,h8,fun c H1 hc ec s1=> ?_⟩;have r1:=r.same s1;refine ⟨_,rfl,R.o,R.dx,_,rfl,r1.o,rfl,R,ws,hn,rfl,r1,fun a ns H2 ha N2 pm sr s2=> ?_⟩;refine ⟨(by show 2<=sizeLine;decide),fun t ht=> ?_⟩;have s3:=aD (o:=HO.tup [V.ref c,V.ref a]) ht;refine ⟨t,c,a,_,ns,rfl,⟨aq,s3 _ _ (s2 _ _ ec),N2.same s3⟩,okk ns pm,fun H4 s4=> ?_⟩;exact .inr ⟨_,rfl,k ns H4 pm sr (((s1.trans s2).trans s3).trans s4)⟩
def vB (C:Addr) (K:PySem.W.Frag):Sp:=fun vs H Q _=>∃(R:Rc) (ws:List bK) (hn:Nat),vs=[.ref R.o]/\RcAt C H R ws hn/\1<=hn/\hn<=8 /\
 ∀(R':Rc) (H':Hp),RcAt C H' R' ws hn->(∀x∈R'.fp,H x=none)->H R'.pl=none->H R'.o=none->Same H H'->Q (.ref R'.o) H'
theorem vq {H Hi:Hp} {o b:Addr} {vs:List V} {w w':HO} (s:Same H Hi) (ho:H o=none) (hi:Hi o=some w) (hb:Hi b=none):Same H (upd (upd Hi b (.lst vs)) o w')/\(upd (upd Hi b (.lst vs)) o w') b=some (.lst vs)/\(upd (upd Hi b (.lst vs)) o w') o=some w'/\H b=none/\b≠o /\ ∀x u,Hi x=some u->x≠o->(upd (upd Hi b (.lst vs)) o w') x=some u:=by
 have nb:b≠o:=(aB hi hb).symm;refine ⟨fun x u e=> ?_,by rw [aN nb,aq],aq,s.free hb,nb,fun x u e n=> ?_⟩
 ·rw [aN (aB e ho),aN (aB (s _ _ e) hb)]
  exact s _ _ e
 ·rw [aN n,aN (aB e hb)]
  exact e
theorem NP {aj aG:Addr} {f:Addr} {fd:FuncData} (F:jZ K "twin" "Recorder.twin" cA f fd) (ao:cg K aj) (jU:Bh P w K mg base 2 aj "Recorder" ["self","hands"] [] (fun vs H Q _=>rD aj aG K vs H Q fun _ _ _=>False)) (Bt:qY mg):cu P w K mg base jY 4 f fd ["self"] (vB aj K):=by
 refine F.ok kZ (fun vs H Q E h=> ?_) (fun cdv A outer s H vs Q E hr h=> ?_)
 ·obtain ⟨R,ws,hn,rfl,_⟩:=h
  rfl
 ·obtain ⟨R,ws,hn,rfl,r,h1,h8,k⟩:=h
  refine ⟨_,(aC (aW (i:=1) kZ.nd rfl (Or.inl rfl) (Cp jU (hr.mono (by decide)) (by rfl) (ak (aO (aU (K:=K) rfl) (by rfl) Bt.fX dI (ak (bH (K:=K) rfl (pv 0) rfl) au)) au)))
   (aC (jc (K:=K) rfl (pv 1) (dW (fj (K:=K) rfl) (by rfl) Bt.mO jH (ak (bH (K:=K) rfl (pv 0) rfl) au)) rfl)
   (aC (jc (K:=K) rfl (pv 1) (dW (fj (K:=K) rfl) (by rfl) Bt.mO jH (ak (bH (K:=K) rfl (pv 0) rfl) au)) rfl)
   (aC (jc (K:=K) rfl (pv 1) (dW (fj (K:=K) rfl) (by rfl) Bt.mO jH (ak (bH (K:=K) rfl (pv 0) rfl) au)) rfl)
   (aC (jc (K:=K) rfl (pv 1) (dW (fj (K:=K) rfl) (by rfl) Bt.mO jH (ak (bH (K:=K) rfl (pv 0) rfl) au)) rfl)
   (aC (jc (K:=K) rfl (pv 1) (gw rfl (N:=["places"]) (own:=["places"]) (caps:=[]) (bf.of (by kernel_rfl)) (iC (K:=K) rfl (bH (K:=K) rfl (pv 0) rfl)) (fun _ _ _ _=>(bw (i:=0) (show List.Nodup (["places"]:List Str) by decide +kernel) rfl (Or.inl rfl))) (fun _ _ _ _=>eN) (fun _ _ _ _=>(dW (fj (K:=K) rfl) (by rfl) Bt.mO jH (ak (pv 0) au)))) rfl)
   (aH (aX (pv 1))))))))), ?_⟩
  have Ip:=r.Ip;refine ⟨_,rfl,R.o,aj,R.dx,_,_,rfl,r.o,ao.cls,ao.dO,rfl,R.pl,_,rfl,.inl (bA.of r.pl),fun o dx ho hdx Ud=> ?_⟩;rw [List.length_map,Ip];have s6:Same H (upd (upd H dx (.own o)) o (.ins aj dx [])):=(aD hdx).trans (aD (by rw [aN (Ne.symm Ud)];exact ho));refine ⟨o,dx,hn,rfl,aq,fun z=>absurd ⟨by omega,by omega⟩ z,fun _ _ R1 H1 ero RC fr YF k1=>⟨rfl, ?_⟩⟩;have s1:Same H H1:=fun c u e=>k1 _ _ (s6 _ _ e) (aB e ho);have ho1:H1 o=some (.ins aj R1.dx (rF R1.a R1.nd R1.kn R1.tk R1.pl)):=by rw [←ero];exact RC.o
  clear k1 s6 fr YF;have r1:=r.same s1;obtain ⟨wv,hw,dw⟩:=id r1.web;refine ⟨_,rfl,R.o,aj,R.dx,_,_,rfl,r1.o,ao.cls,ao.zy,rfl,R.a,_,rfl,.inl (bA.of hw),fun a2 ha2=> ?_⟩;refine ⟨_,rfl,o,aj,R1.dx,_,rfl,(aD ha2) _ _ ho1,ao.cls,ao.zy,(by show 5<1000;decide), ?_⟩;obtain ⟨s2,ea2,ho2,fa2,na2,kp2⟩:=vq (vs:=wv) (w':= .ins aj R1.dx (rF a2 R1.nd R1.kn R1.tk R1.pl)) s1 ho ho1 ha2;have e2:upd (upd H1 a2 (.lst wv)) o (.ins aj R1.dx (eG "web" (.ref a2) (rF R1.a R1.nd R1.kn R1.tk R1.pl)))=upd (upd H1 a2 (.lst wv)) o (.ins aj R1.dx (rF a2 R1.nd R1.kn R1.tk R1.pl)):=rfl;rw [e2];generalize (upd (upd H1 a2 (.lst wv)) o (.ins aj R1.dx (rF a2 R1.nd R1.kn R1.tk R1.pl)))=H2 at s2 ea2 ho2 kp2 ⊢;have r2:=r.same s2;obtain ⟨nv,vP,dn⟩:=id r2.named;refine ⟨_,rfl,R.o,aj,R.dx,_,_,rfl,r2.o,ao.cls,ao.oX,rfl,R.nd,_,rfl,.inl (bA.of vP),fun pP hnd2=> ?_⟩;refine ⟨_,rfl,o,aj,R1.dx,_,rfl,(aD hnd2) _ _ ho2,ao.cls,ao.oX,(by show 5<1000;decide), ?_⟩;obtain ⟨s3,Wh,Qu,afm,Vv,I_⟩:=vq (vs:=nv) (w':= .ins aj R1.dx (rF a2 pP R1.kn R1.tk R1.pl)) s2 ho ho2 hnd2;have e3:upd (upd H2 pP (.lst nv)) o (.ins aj R1.dx (eG "named" (.ref pP) (rF a2 R1.nd R1.kn R1.tk R1.pl)))=upd (upd H2 pP (.lst nv)) o (.ins aj R1.dx (rF a2 pP R1.kn R1.tk R1.pl)):=rfl;rw [e3];have x23:a2≠pP:=aB ea2 hnd2;have ea3:=I_ _ _ ea2 na2;generalize (upd (upd H2 pP (.lst nv)) o (.ins aj R1.dx (rF a2 pP R1.kn R1.tk R1.pl)))=H3 at s3 Wh Qu I_ ea3 ⊢;have r3:=r.same s3;obtain ⟨ks,hks,kl,kq⟩:=id r3.W0;refine ⟨_,rfl,R.o,aj,R.dx,_,_,rfl,r3.o,ao.cls,ao.lA,rfl,R.kn,_,rfl,.inl (bA.of hks),fun sZ R6=> ?_⟩;refine ⟨_,rfl,o,aj,R1.dx,_,rfl,(aD R6) _ _ Qu,ao.cls,ao.lA,(by show 5<1000;decide), ?_⟩;obtain ⟨s4,Wi,Lq,afn,Yi,wZ⟩:=vq (vs:=ks.map V.ref) (w':= .ins aj R1.dx (rF a2 pP sZ R1.tk R1.pl)) s3 ho Qu R6;have e4:upd (upd H3 sZ (.lst (ks.map V.ref))) o (.ins aj R1.dx (eG "knowns" (.ref sZ) (rF a2 pP R1.kn R1.tk R1.pl)))=upd (upd H3 sZ (.lst (ks.map V.ref))) o (.ins aj R1.dx (rF a2 pP sZ R1.tk R1.pl)):=rfl;rw [e4];have x24:a2≠sZ:=aB ea3 R6;have x34:pP≠sZ:=aB Wh R6;have ea4:=wZ _ _ ea3 na2;have Wg:=wZ _ _ Wh Vv;generalize (upd (upd H3 sZ (.lst (ks.map V.ref))) o (.ins aj R1.dx (rF a2 pP sZ R1.tk R1.pl)))=H4 at s4 Wi Lq wZ ea4 Wg ⊢;have r4:=r.same s4;obtain ⟨ts,NT,tp⟩:=id r4.tkn;obtain ⟨tv,htv,dt⟩:=id NT;refine ⟨_,rfl,R.o,aj,R.dx,_,_,rfl,r4.o,ao.cls,ao.oW,rfl,R.tk,_,rfl,.inl (bA.of htv),fun tk2 Ot=> ?_⟩;refine ⟨_,rfl,o,aj,R1.dx,_,rfl,(aD Ot) _ _ Lq,ao.cls,ao.oW,(by show 5<1000;decide), ?_⟩;obtain ⟨s5,Ss,ho5,afl,adX,kp5⟩:=vq (vs:=tv) (w':= .ins aj R1.dx (rF a2 pP sZ tk2 R1.pl)) s4 ho Lq Ot;have e5:upd (upd H4 tk2 (.lst tv)) o (.ins aj R1.dx (eG "taken" (.ref tk2) (rF a2 pP sZ R1.tk R1.pl)))=upd (upd H4 tk2 (.lst tv)) o (.ins aj R1.dx (rF a2 pP sZ tk2 R1.pl)):=rfl;rw [e5];have x25:a2≠tk2:=aB ea4 Ot;have x35:pP≠tk2:=aB Wg Ot;have x45:sZ≠tk2:=aB Wi Ot;have ea5:=kp5 _ _ ea4 na2;have Sy:=kp5 _ _ Wg Vv;have SJ:=kp5 _ _ Wi Yi;generalize (upd (upd H4 tk2 (.lst tv)) o (.ins aj R1.dx (rF a2 pP sZ tk2 R1.pl)))=H5 at s5 Ss ho5 kp5 ea5 Sy SJ ⊢;have r5:=r.same s5;refine ⟨_,rfl,R.o,aj,R.dx,_,_,rfl,r5.o,ao.cls,ao.dO,rfl,R.pl,rfl,⟨_,bA.of r5.pl⟩,fun wJ Dt=> ?_⟩;refine uy (K:=K) (xs:=R.ps.map V.ref) (fun i σ Hc=>(∃v,σ=[v]) /\ ∃qs:List Addr,qs.length=i/\Same H5 Hc/\Hc wJ=some (.lst (qs.map V.ref))/\qs.Nodup /\ ∀(h:Nat) (q:Addr),qs[h]? = some q->H5 q=none/\q≠wJ/\Hc q=some (.lst (dG (pO ws (h:Int))))) ⟨⟨none,rfl⟩,[],rfl,aD Dt,aq,List.nodup_nil,fun h q e=>by simp at e⟩ (fun i σ Hc _ ⟨_,_,_,sc,_⟩=>bA.of (sc _ _ r5.pl)) ?_ ?_
  ·rintro i x σ Hc hi ⟨⟨v,rfl⟩,qs,ql,sc,ep,qnd,hq⟩
   rw [List.getElem?_map] at hi
   obtain ⟨p,epp,rfl⟩:∃p,R.ps[i]? = some p/\x = .ref p:=by
    cases e:R.ps[i]? with
    | none=>rw [e] at hi;cases hi
    | some q=>rw [e] at hi;exact ⟨q,rfl,(Option.some.inj hi).symm⟩
   have hp:=sc _ _ (r5.X3 i p epp);have il:=(List.getElem?_eq_some_iff.mp epp).1;dsimp only [gM,JK];rw [if_pos rfl];refine ⟨_,rfl,p,_,rfl,.inl (bA.of hp),fun q hq0=> ?_⟩;have sq:=aD (o:=HO.lst (dG (pO ws (i:Int)))) hq0;have nq:q≠wJ:=(aB ep hq0).symm;refine ⟨_,sq _ _ ep,by rw [List.length_map,sizeLine_eq];omega,⟨_,rfl⟩,qs++[q],by simp [ql],(sc.trans sq).newly Dt,by rw [aq,List.map_append];rfl, ?_,fun h q' e=> ?_⟩
   ·rw [List.nodup_append]
    refine ⟨qnd,by simp,fun x hx y hy e=> ?_⟩;have:y=q:=by simpa using hy
    subst this;subst e;obtain ⟨j,ej⟩:=List.getElem?_of_mem hx;rw [(hq j x ej).2.2] at hq0;cases hq0
   ·have lh:h<qs.length\/h=qs.length:=by
     have:=(List.getElem?_eq_some_iff.mp e).1;simp at this;omega
    rcases lh with lh|lh
    ·rw [List.getElem?_append_left lh] at e
     obtain ⟨x1,x2,x3⟩:=hq h q' e;exact ⟨x1,x2,by rw [aN x2];exact sq _ _ x3⟩
    ·subst lh
     rw [List.getElem?_append_right (Nat.le_refl _)] at e;simp at e;subst e;rw [ql];exact ⟨sc.free hq0,nq,by rw [aN nq,aq]⟩
  rintro σ Hc ⟨⟨v,rfl⟩,qs,ql,sc,ep,qnd,hq⟩;rw [List.length_map,Ip] at ql;refine ⟨_,rfl,o,aj,R1.dx,_,rfl,sc _ _ ho5,ao.cls,ao.dO,(by show 5<1000;decide), ?_⟩;have e6:upd Hc o (.ins aj R1.dx (eG "places" (.ref wJ) (rF a2 pP sZ tk2 R1.pl)))=upd Hc o (.ins aj R1.dx (rF a2 pP sZ tk2 wJ)):=rfl;rw [e6];have Ug:Kp o Hc (upd Hc o (.ins aj R1.dx (rF a2 pP sZ tk2 wJ))):=Kp.set;have ho6:(upd Hc o (.ins aj R1.dx (rF a2 pP sZ tk2 wJ))) o=some (.ins aj R1.dx (rF a2 pP sZ tk2 wJ)):=aq;have S6:Same H (upd Hc o (.ins aj R1.dx (rF a2 pP sZ tk2 wJ))):=fun x u e=>Ug _ _ (sc _ _ (s5 _ _ e)) (aB e ho);have ea6:=Ug _ _ (sc _ _ ea5) na2;have Y4:=Ug _ _ (sc _ _ Sy) Vv;have Y6:=Ug _ _ (sc _ _ SJ) Yi;have YX:=Ug _ _ (sc _ _ Ss) adX;have Yd:wJ≠o:=(aB ho5 Dt).symm;have YZ:=Ug _ _ ep Yd
  have hq6:∀(h:Nat) (q:Addr),qs[h]? = some q->(upd Hc o (.ins aj R1.dx (rF a2 pP sZ tk2 wJ))) q=some (.lst (dG (pO ws (h:Int)))):=fun h q e=>by
   obtain ⟨x1,x2,x3⟩:=hq h q e;exact Ug _ _ x3 (aB ho5 x1).symm
  generalize (upd Hc o (.ins aj R1.dx (rF a2 pP sZ tk2 wJ)))=H6 at Ug ho6 S6 ea6 Y4 Y6 YX YZ hq6 ⊢;have r6:=r.same S6
  have at6:∀(x:Addr) (vs:List V) (Hi:Hp),Same H Hi->(∃us,H x=some (.lst us))->Hi x=some (.lst vs)->H6 x=some (.lst vs):=fun x vs Hi si ⟨us,e⟩ ei=>by
   rw [si _ _ e] at ei;cases ei;exact S6 _ _ e
  have W6:gn H6 a2 ws:=by
   obtain ⟨us,e,d⟩:=id r6.web;obtain ⟨WM,e0,_⟩:=id r.web;rw [at6 R.a wv H1 s1 ⟨WM,e0⟩ hw] at e;cases e;exact ⟨_,ea6,d⟩
  have N6:lC H6 pP (nm ws):=by
   obtain ⟨us,e,d⟩:=id r6.named;obtain ⟨WM,e0,_⟩:=id r.named;rw [at6 R.nd nv H2 s2 ⟨WM,e0⟩ vP] at e;cases e;exact ⟨_,Y4,d⟩
  have K6:kj H6 sZ ws ws.length:=by
   obtain ⟨us,e,q⟩:=id r6.W0;obtain ⟨WM,e0,_⟩:=id r.W0;refine ⟨us, ?_,q⟩;rw [Y6,←at6 R.kn (ks.map V.ref) H3 s3 ⟨_,e0⟩ hks];exact e
  have T6:∃ts,gq H6 tk2 ts/\ts.Perm (jk ws ws.length):=by
   obtain ⟨ts6,⟨us,e,d⟩,p6⟩:=id r6.tkn;obtain ⟨_,⟨WM,e0,_⟩,_⟩:=id r.tkn;rw [at6 R.tk tv H4 s4 ⟨WM,e0⟩ htv] at e;cases e;exact ⟨ts6,⟨_,YX,d⟩,p6⟩
  have nq:∀{x:Addr} {u:HO},H5 x=some u->x∉qs:=fun {x u} e m=>by
   obtain ⟨j,ej⟩:=List.getElem?_of_mem m;rw [(hq j x ej).1] at e;cases e
  have q5:wJ∉qs:=fun m=>by
   obtain ⟨j,ej⟩:=List.getElem?_of_mem m;exact (hq j wJ ej).2.1 rfl
  refine ⟨_,rfl,k ⟨o,R1.dx,a2,pP,sZ,tk2,wJ,qs⟩ H6 ⟨ho6,W6,N6,K6,T6,YZ,ql,hq6, ?_, ?_⟩ (fun x hx=> ?_) (s5.free Dt) ho S6⟩
  ·show (a2::pP::sZ::tk2::qs).Nodup
   rw [List.nodup_cons,List.nodup_cons,List.nodup_cons,List.nodup_cons];refine ⟨?_, ?_, ?_,nq Ss,qnd⟩
   ·simp [x23,x24,x25,nq ea5]
   ·simp [x34,x35,nq Sy]
   ·simp [x45,nq SJ]
  ·show wJ∉(a2::pP::sZ::tk2::qs)
   have y1:wJ≠a2:=(aB ea5 Dt).symm;have y2:wJ≠pP:=(aB Sy Dt).symm;have y3:wJ≠sZ:=(aB SJ Dt).symm;have y4:wJ≠tk2:=(aB Ss Dt).symm;simp [y1,y2,y3,y4,q5]
  ·have hx:x∈(a2::pP::sZ::tk2::qs):=hx
   simp only [List.mem_cons] at hx;rcases hx with rfl|rfl|rfl|rfl|hx
   ·exact fa2
   ·exact afm
   ·exact afn
   ·exact afl
   ·obtain ⟨j,ej⟩:=List.getElem?_of_mem hx
    exact s5.free (hq j x ej).1
def zO:Nat->PyData->Prop
 | 0,_=>False
 | _+1,.int _=>True
 | n+1,.list ds=>ds.length<=100000 /\ ∀d∈ds,zO n d
 | n+1,.tuple ds=>ds.length<=100000 /\ ∀d∈ds,zO n d
 | _+1,_=>False
theorem zE (n:Nat) (v:V):(List.range n).filterMap (fun _=>some v)=List.replicate n v:=by
 induction n with
 | zero=>rfl
 | succ n ih=>rw [gB,ih,List.replicate_succ'];rfl
def h_ (n:Nat) (K:PySem.W.Frag):Sp:=fun vs H Q _=>∃(x y:V) (d:PyData),vs=[x,y]/\Dat H x d/\Dat H y d/\zO n d /\ ∀H',Same H H'->Q (.bl true) H'
theorem J_ {f:Addr} {fd:FuncData} (F:jZ K "_law_alike" "_law_alike" gj f fd):cu P w K mg base jY 1 f fd ["found","due"] (h_ 0 K):=by
 refine F.ok zj (fun vs H Q E h=> ?_) (fun cdv A outer s H vs Q E hr h=> ?_)
 ·obtain ⟨x,y,d,_,_,_,z,_⟩:=h
  exact z.elim
 ·obtain ⟨x,y,d,_,_,_,z,_⟩:=h
  exact z.elim
theorem lq {n:Nat} {f:Addr} {fd:FuncData} (F:jZ K "_law_alike" "_law_alike" gj f fd) (jX:FnAt P w K mg base (n+1) "_law_alike" ["found","due"] (h_ n K)) (Bt:qY mg):cu P w K mg base jY (n+1+1) f fd ["found","due"] (h_ (n+1) K):=by
 refine F.ok zj (fun vs H Q E h=> ?_) (fun cdv A outer s H vs Q E hr h=> ?_)
 ·obtain ⟨x,y,d,rfl,_⟩:=h
  rfl
 ·obtain ⟨x,y,d,rfl,dx,dy,pl,k⟩:=h
  refine ⟨_,(aC (dN (gG (aO (Hl (K:=K) rfl) (by rfl) Bt.aZ aV (ak (pv 1) (ak (nR (ak (gA (v:= .ty "list") (by rfl) Bt.mO jH rfl) (ak (gA (v:= .ty "tuple") (by rfl) Bt.A_ yd rfl) au))) au)))) (aC (dN (PW.pt (wG (bY k_ (aO (fV (K:=K) (cv:= .ty "list") (c:= .type "list") rfl rfl) (by rfl) Bt.aZ aV (ak (pv 0) (ak (gA (v:= .ty "list") (by rfl) Bt.mO jH rfl) au))) (aO (fV (K:=K) (cv:= .ty "list") (c:= .type "list") rfl rfl) (by rfl) Bt.aZ aV (ak (pv 1) (ak (gA (v:= .ty "list") (by rfl) Bt.mO jH rfl) au))) (bD _)) (qH (bY k_ (aO (fV (K:=K) (cv:= .ty "tuple") (c:= .type "tuple") rfl rfl) (by rfl) Bt.aZ aV (ak (pv 0) (ak (gA (v:= .ty "tuple") (by rfl) Bt.A_ yd rfl) au))) (aO (fV (K:=K) (cv:= .ty "tuple") (c:= .type "tuple") rfl rfl) (by rfl) Bt.aZ aV (ak (pv 1) (ak (gA (v:= .ty "tuple") (by rfl) Bt.A_ yd rfl) au))) (bD _))))) (aH (aX iM)) bQ)
   (aC (dN (bY k_ (aO (aU (K:=K) rfl) (by rfl) Bt.fX dI (ak (pv 0) au)) (aO (aU (K:=K) rfl) (by rfl) Bt.fX dI (ak (pv 1) au)) (bD _)) (aH (aX iM)) bQ)
   (aH (aX (aO (vh (K:=K) rfl rfl) (by rfl) Bt.ZQ Wo (ak (gw rfl (N:=["k","found","due"]) (own:=["k"]) (caps:=[0,1]) (bf.of (by kernel_rfl)) (dJ (by rfl) Bt.fD (ak (aO (aU (K:=K) rfl) (by rfl) Bt.fX dI (ak (pv 1) au)) au)) (fun _ _ _ _=>(bw (i:=0) (show List.Nodup (["k","found","due"]:List Str) by decide +kernel) rfl (Or.inl rfl))) (fun _ _ _ _=>eN) (fun _ _ _ _=>(bx jX (hr.mono (Nat.le_refl _)) (by rfl) (ak (aR (Ja (K:=K) rfl) (pv 1) (pv 0) (fun _ _=>rfl)) (ak (aR (Ja (K:=K) rfl) (pv 2) (pv 0) (fun _ _=>rfl)) au))))) au)))))) bQ)
   (aH (aX (nU (aO (fV (K:=K) (cv:= .ty "int") (c:= .type "int") rfl rfl) (by rfl) Bt.aZ aV (ak (pv 0) (ak (gA (v:= .ty "int") (by rfl) Bt.Uu Py rfl) au))) (nU (Np (aO (fV (K:=K) (cv:= .ty "bool") (c:= .type "bool") rfl rfl) (by rfl) Bt.aZ aV (ak (pv 0) (ak (gA (v:= .ty "bool") (by rfl) Bt.PX Jr rfl) au)))) (mG (eO mW (pv 0) (pv 1) (bD _)))))))), ?_⟩
  match d,pl,dx,dy with
  | .int i,pl,dx,dy=>
    simp only [Dat] at dx dy;subst dx dy;refine ⟨_,rfl,(by show 2<=sizeLine;decide),fun p hp=> ?_⟩;have s1:=aD (o:=HO.tup [V.ty "list",V.ty "tuple"]) hp;refine ⟨_,_,p,["list","tuple"],false,rfl,.int i,aq,Hr K,_,rfl, ?_⟩;refine gb ?_;refine ⟨_,rfl,_,_,true,rfl,.int i,uT K,_,rfl, ?_⟩;refine iV ?_;refine ⟨_,rfl,_,_,false,rfl,.int i,rW K,_,rfl,_,rfl, ?_⟩;refine iV ?_;refine ⟨_,rfl,_,rfl,rfl, ?_⟩;rw [decide_eq_true rfl];exact k _ s1
  | .list ds,pl,dx,dy=>
    simp only [Dat] at dx dy;obtain ⟨a,vs,rfl,ha,da⟩:=dx;obtain ⟨b,ws,rfl,hb,db⟩:=dy;have la:vs.length=ds.length:=da.length;have lb:ws.length=ds.length:=db.length;have rN:ds.length<=100000:=pl.1;refine ⟨_,rfl,(by show 2<=sizeLine;decide),fun p hp=> ?_⟩;have s1:=aD (o:=HO.tup [V.ty "list",V.ty "tuple"]) hp;have ha1:=s1 _ _ ha;have hb1:=s1 _ _ hb;refine ⟨_,_,p,["list","tuple"],true,rfl,.lst hb1,aq,En K,_,rfl, ?_⟩;refine iV ?_;refine ⟨_,rfl,_,_,true,rfl,.lst ha1,pR K,_,rfl,_,_,true,rfl,.lst hb1,pR K,rfl,_,rfl, ?_⟩;refine uR rfl ?_;refine ⟨_,rfl,_,_,false,rfl,.lst ha1,n_ K,_,rfl,_,_,false,rfl,.lst hb1,n_ K,rfl,_,rfl, ?_⟩;refine uR rfl ?_;refine ⟨_,rfl,a,_,rfl,.inl (bA.of ha1),_,rfl,b,_,rfl,.inl (bA.of hb1),rfl,_,rfl, ?_⟩;refine uR (by rw [la,lb]) ?_;refine ⟨_,rfl,b,_,rfl,.inl (bA.of hb1),_,rfl,by (clear hb1 ha1 hp rN lb la hb ha;omega),by (clear hb1 ha1 hp la hb ha;omega),fun D hD=> ?_⟩;rw [show ((ws.length:Int)).toNat=ds.length by omega];refine o8 (fun i=>some (.bl true)) hD (by omega) (fun i H2 G F hi s2 kG kF=> ?_) (fun H2 s2 e2=> ?_)
    ·obtain ⟨d,ed⟩:∃d,ds[i]? = some d:=⟨ds[i],by simp [hi]⟩
     obtain ⟨x,ex,dx⟩:=da.getD ed;obtain ⟨y,ey,dy⟩:=db.getD ed;have Xw:=s1.trans s2;have a1:uX vs (0+(i:Int))=some x:=by rw [Int.zero_add];exact bZ ex
     have a2:uX ws (0+(i:Int))=some y:=by rw [Int.zero_add];exact bZ ey
     exact ⟨_,rfl,_,rfl,.inl ⟨_,_,_,_,rfl,rfl,bA.of (s2 _ _ ha1),a1,_,rfl,_,rfl,.inl ⟨_,_,_,_,rfl,rfl,bA.of (s2 _ _ hb1),a2,x,y,d,rfl,dx.same Xw d,dy.same Xw d,pl.2 d (List.mem_of_getElem? ed),fun H3 s3=>kF _ H3 s3 rfl⟩⟩⟩
    ·rw [zE] at e2
     refine ⟨D,List.replicate ds.length true,rfl,bA.of (by rw [e2,List.map_replicate]), ?_⟩;rw [show (List.replicate ds.length true).all id=true by simp];exact k H2 (s1.trans s2)
  | .tuple ds,pl,dx,dy=>
    simp only [Dat] at dx dy;obtain ⟨a,vs,rfl,ha,da⟩:=dx;obtain ⟨b,ws,rfl,hb,db⟩:=dy;have la:vs.length=ds.length:=da.length;have lb:ws.length=ds.length:=db.length;have rN:ds.length<=100000:=pl.1;refine ⟨_,rfl,(by show 2<=sizeLine;decide),fun p hp=> ?_⟩;have s1:=aD (o:=HO.tup [V.ty "list",V.ty "tuple"]) hp;have ha1:=s1 _ _ ha;have hb1:=s1 _ _ hb;refine ⟨_,_,p,["list","tuple"],true,rfl,.tup hb1,aq,Bc K,_,rfl, ?_⟩;refine iV ?_;refine ⟨_,rfl,_,_,false,rfl,.tup ha1,nZ K,_,rfl,_,_,false,rfl,.tup hb1,nZ K,rfl,_,rfl, ?_⟩;refine uR rfl ?_;refine ⟨_,rfl,_,_,true,rfl,.tup ha1,mX K,_,rfl,_,_,true,rfl,.tup hb1,mX K,rfl,_,rfl, ?_⟩;refine uR rfl ?_;refine ⟨_,rfl,a,_,rfl,.inr (gC.of ha1),_,rfl,b,_,rfl,.inr (gC.of hb1),rfl,_,rfl, ?_⟩;refine uR (by rw [la,lb]) ?_;refine ⟨_,rfl,b,_,rfl,.inr (gC.of hb1),_,rfl,by (clear hb1 ha1 hp rN lb la hb ha;omega),by (clear hb1 ha1 hp la hb ha;omega),fun D hD=> ?_⟩;rw [show ((ws.length:Int)).toNat=ds.length by omega];refine o8 (fun i=>some (.bl true)) hD (by omega) (fun i H2 G F hi s2 kG kF=> ?_) (fun H2 s2 e2=> ?_)
    ·obtain ⟨d,ed⟩:∃d,ds[i]? = some d:=⟨ds[i],by simp [hi]⟩
     obtain ⟨x,ex,dx⟩:=da.getD ed;obtain ⟨y,ey,dy⟩:=db.getD ed;have Xw:=s1.trans s2;have a1:uX vs (0+(i:Int))=some x:=by rw [Int.zero_add];exact bZ ex
     have a2:uX ws (0+(i:Int))=some y:=by rw [Int.zero_add];exact bZ ey
     exact ⟨_,rfl,_,rfl,.inr (.inl ⟨_,_,_,_,rfl,rfl,gC.of (s2 _ _ ha1),a1,_,rfl,_,rfl,.inr (.inl ⟨_,_,_,_,rfl,rfl,gC.of (s2 _ _ hb1),a2,x,y,d,rfl,dx.same Xw d,dy.same Xw d,pl.2 d (List.mem_of_getElem? ed),fun H3 s3=>kF _ H3 s3 rfl⟩)⟩)⟩
    ·rw [zE] at e2
     refine ⟨D,List.replicate ds.length true,rfl,bA.of (by rw [e2,List.map_replicate]), ?_⟩;rw [show (List.replicate ds.length true).all id=true by simp];exact k H2 (s1.trans s2)
theorem Sw (x y:Int):PyData.eqv (.int x) (.int y)=decide (x=y):=by
 simp only [PyData.eqv];rw [Bool.eq_iff_iff];simp
theorem oE {H:Hp} {a:Addr} {ns:List Int} (h:H a=some (.lst (ns.map V.int))):Dat H (.ref a) (.list (ns.map PyData.int)):=dX h (aL.ints ns)
theorem shaped_ints (ns:List Int):SeqAt.shaped (.list (ns.map PyData.int))=true:=nM PyData.int 0 (by decide) (fun _ _=>rfl) (fun _ _=>by show 0<=0;decide)
theorem zO.up:∀{n:Nat} {d:PyData},zO n d->zO (n+1) d
 | _+1,.int _,_=>True.intro
 | n+1,.list ds,h=>⟨h.1,fun d hd=>zO.up (h.2 d hd)⟩
 | n+1,.tuple ds,h=>⟨h.1,fun d hd=>zO.up (h.2 d hd)⟩
 | 0,_,h=>h.elim
theorem X7 (ns:List Nt) (h2:ns.length<=100000):zO 3 (.list (ns.map nD)):=by
 refine ⟨by rw [List.length_map];exact h2,fun d hd=> ?_⟩;obtain ⟨x,_,rfl⟩:=List.mem_map.mp hd;refine ⟨by show 4<=100000;decide,fun d hd=> ?_⟩;simp only [List.mem_cons,List.not_mem_nil,or_false] at hd;rcases hd with rfl|rfl|rfl|rfl<;>exact True.intro
def NtC (f:Nat->List Nt):Hp->Nat->Addr->Prop:=fun H j r=>∃ns:List Nt,gq H r ns/\ns.Perm (f j)
def FN (K:PySem.W.Frag):Sp:=fun vs H Q _=>∃(t:Addr) (n:Nat) (f:Nat->List Nt),vs=[.ref t]/\bN H t [] n (NtC f)/\n<=300/\((List.range n).flatMap f).length<=100000 /\
 ∀(r:Addr) (ns:List Nt) (H':Hp),H r=none->gq H' r ns->ns.Perm ((List.range n).flatMap f)->yw ns->Same H H'->Q (.ref r) H'
theorem xK {α:Type} (f:Nat->List α) (n:Nat):(List.range (n+1)).flatMap f=(List.range n).flatMap f++f n:=by
 rw [List.range_succ,List.flatMap_append];simp
theorem V_ {α:Type} (f:Nat->List α):∀(n m:Nat),n<=m->((List.range n).flatMap f).length<=((List.range m).flatMap f).length
 | n,m,h=>by
   obtain ⟨d,rfl⟩:=Nat.exists_eq_add_of_le h
   induction d with
   | zero=>exact Nat.le_refl _
   | succ d ih=>
     rw [←Nat.add_assoc,xK,List.length_append];have:=ih (by omega);omega
theorem Ru {f:Addr} {fd:FuncData} (F:jZ K "_law_flat" "_law_flat" jF f fd) (Bt:qY mg):cu P w K mg base jY 1 f fd ["lists"] (FN K):=by
 refine F.ok wC (fun vs H Q E h=> ?_) (fun cdv A outer s H vs Q E hr h=> ?_)
 ·obtain ⟨t,n,f,rfl,_⟩:=h
  rfl
 ·obtain ⟨t,n,f,rfl,⟨rs,ht,rl,rq⟩,nl,fl,k⟩:=h
  refine ⟨_,(aC (aW (i:=1) wC.nd rfl (Or.inl rfl) (bO au))
   (aC (mz PassesOwn.never rfl (iC (K:=K) rfl (pv 0)) (bw (i:=2) wC.nd rfl (Or.inl rfl))
   (aH (cW (qJ (K:=K) rfl PySem.F.plainAttrs_list PySem.F.slot_list_extend PySem.F.type_list_extend uc (pv 1) (ak (pv 2) au)))))
   (aH (aX (aO (kh (K:=K) rfl) (by rfl) Bt.sO o9 (ak (pv 1) au)))))), ?_⟩
  refine ⟨(by show 0<=sizeLine;decide),fun r hr0=> ?_⟩;have s1:=aD (o:=HO.lst []) hr0;refine ⟨_,rfl,t,rfl,⟨_,bA.of (s1 _ _ ht)⟩, ?_⟩
  refine xJ (K:=K) (a:=t) (xs:=rs.map V.ref) (fun i σ H2=>∃(x1:Option V) (ns:List Nt),σ=[some (.ref t),some (.ref r),x1]/\Same H H2/\gq H2 r ns/\ns.Perm ((List.range i).flatMap f))
   ⟨none,[],rfl,s1,⟨[],aq,by simp [aL]⟩,by simp⟩ (fun i σ H2 _ ⟨_,_,_,sm,_⟩=>bA.of (sm _ _ ht)) ?_ ?_
  ·rintro i v σ H2 hi ⟨x1,ns,rfl,sm,N,pp⟩
   rw [List.getElem?_map] at hi;cases ei:rs[i]? with
   | none=>rw [ei] at hi;cases hi
   | some q=>
     rw [ei] at hi;cases hi;have il:=(List.getElem?_eq_some_iff.mp ei).1;obtain ⟨_,ms,M,mp⟩:=rq i q ei;obtain ⟨us,hq,dq⟩:=M;obtain ⟨ts,hts,Y7⟩:=id N;have l1:ts.length=ns.length:=by rw [Y7.length,List.length_map]
     have l2:us.length=ms.length:=by rw [dq.length,List.length_map]
     have l3:=pp.length_eq;have l4:=mp.length_eq;have l5:=V_ f (i+1) n (by omega);rw [xK,List.length_append] at l5;refine ⟨_,rfl,.inl ⟨rfl,_,bA.of hts⟩,_,rfl,r,q,_,_,rfl,rfl,hts,sm _ _ hq,by rw [sizeLine_eq];omega, ?_⟩;have k3:Kp r H2 (upd H2 r (.lst (ts++us))):=Kp.set;have t3:=k3.tups hts;refine ⟨_,ns++ms,rfl,fun b u e=>k3 _ _ (sm _ _ e) (aB e hr0),⟨ts++us,aq, ?_⟩, ?_⟩
     ·rw [List.map_append]
      exact aL.append (aL.keep (fun a xs h=>t3 _ _ h) _ (cj _ jQ _) Y7) (aL.keep (fun a xs h=>t3 _ _ (sm.tups _ _ h)) _ (cj _ jQ _) dq)
     ·rw [xK]
      exact pp.append mp
  ·rintro σ H2 ⟨x1,ns,rfl,sm,N,pp⟩
   rw [List.length_map,rl] at pp;refine ⟨_,rfl, ?_⟩;dsimp only [zT];refine rH (K:=K) N fun l ns' H4 hl NN p2 ss s4=>k l ns' H4 (sm.free hl) NN (p2.trans pp) ss (sm.trans s4)
theorem Oj (K:PySem.W.Frag) (C:Addr):PySem.W.kitOne K (.ref C) (.ref C)=some true:=by simp [PySem.W.kitOne]
def MF (C:Addr) (K:PySem.W.Frag):Sp:=fun vs H Q _=>∃(R R':Rc) (ws ws':List bK) (hn hn':Nat),vs=[.ref R.o,.ref R'.o]/\RcAt C H R ws hn/\RcAt C H R' ws' hn'/\hn<=8/\hn'<=8 /\
 (¬((List.range hn).map fun h:Nat=>cnt ws (h:Int))=((List.range hn').map fun h:Nat=>cnt ws' (h:Int)) -> ∀H',Same H H'->Q (.bl false) H') /\
 (((List.range hn).map fun h:Nat=>cnt ws (h:Int))=((List.range hn').map fun h:Nat=>cnt ws' (h:Int)) -> ∀(ns ns':List Nt) (H':Hp),ns.Perm (jk ws ws.length)->yw ns->ns'.Perm (jk ws' ws'.length)->yw ns'->Same H H'->Q (.bl (decide (ns=ns'))) H')
theorem Vq {aj:Addr} {f:Addr} {fd:FuncData} (F:jZ K "__eq__" "Recorder.__eq__" bM f fd) (ao:cg K aj) (mQ:IsO K mg aj "Recorder") (cX:MethAt P w K mg base 1 aj "counts" ["self"] (nH aj K)) (dF:MethAt P w K mg base 1 aj "notes" ["self"] (nG aj K)) (Bt:qY mg):cu P w K mg base jY 2 f fd ["self","other"] (MF aj K):=by
 refine F.ok qG (fun vs H Q E h=> ?_) (fun cdv A outer s H vs Q E hr h=> ?_)
 ·obtain ⟨R,R',ws,ws',hn,hn',rfl,_⟩:=h
  rfl
 ·obtain ⟨R,R',ws,ws',hn,hn',rfl,r,r',h8,h8',k0,k⟩:=h
  have jh:=hr.units
  refine ⟨_,(aC (dN (iT (gG (aO (fV (K:=K) (cv:= .ref aj) (c:= .ref aj) rfl rfl) (by rfl) Bt.aZ aV (ak (pv 1) (ak (jd (v:= .ref aj) (by rfl) mQ.bd rfl) au))))) (aH (aX iM)) bQ)
   (aH (aX (nU (eO (vM (K:=K) rfl jh) (eZ cX ao.cls (hr.mono (by decide)) (pv 0)) (eZ cX ao.cls (hr.mono (by decide)) (pv 1)) (bD _)) (mG (eO (vM (K:=K) rfl jh) (eZ dF ao.cls (hr.mono (by decide)) (pv 0)) (eZ dF ao.cls (hr.mono (by decide)) (pv 1)) (bD _))))))), ?_⟩
  refine ⟨_,rfl,_,_,true,rfl,mQ.ty r'.o ao.cls,Oj K _,_,rfl,gb ?_⟩;unfold HY;dsimp only;refine ⟨_,rfl,R.o,R.dx,_,rfl,r.o,rfl,R,ws,hn,rfl,r,h8,fun c1 H1 hc1 e1 s1=> ?_⟩;refine ⟨_,rfl,R'.o,R'.dx,_,rfl,(r'.same s1).o,rfl,R',ws',hn',rfl,r'.same s1,h8',fun c2 H2 hc2 e2 s2=> ?_⟩;refine ⟨_,_,oE (s2 _ _ e1),oE e2,shaped_ints _,shaped_ints _, ?_⟩;rw [if_neg Bool.false_ne_true,ou PyData.int Sw];have s12:=s1.trans s2
  by_cases q:((List.range hn).map fun h:Nat=>cnt ws (h:Int))=((List.range hn').map fun h:Nat=>cnt ws' (h:Int))
  ·rw [decide_eq_true q]
   refine ⟨_,rfl,iV ?_⟩;have r2:=r.same s12;refine ⟨_,rfl,R.o,R.dx,_,rfl,r2.o,rfl,R,ws,hn,rfl,r2,fun l1 ns H3 hl1 N1 p1 sr1 s3=> ?_⟩;have r3:=r'.same (s12.trans s3);refine ⟨_,rfl,R'.o,R'.dx,_,rfl,r3.o,rfl,R',ws',hn',rfl,r3,fun l2 ns' H4 hl2 N2 p2 sr2 s4=> ?_⟩;obtain ⟨v1,f1,d1⟩:=N1.same s4;obtain ⟨v2,f2,d2⟩:=N2;refine ⟨_,_,dX f1 d1,dX f2 d2,wA _,wA _, ?_⟩;rw [if_neg Bool.false_ne_true,ou nD Wd];exact k q ns ns' H4 p1 sr1 p2 sr2 ((s12.trans s3).trans s4)
  ·rw [decide_eq_false q]
   refine ⟨_,rfl,gb ?_⟩;exact k0 q H2 s12
def rE (K:PySem.W.Frag):Sp:=fun vs H Q _=>∃(r b:Addr) (n m:Nat),vs=[.ref r,.int m]/\bU H r b n/\n<549755813888/\m<=9 /\ ∀(z:Int) (H':Hp),¬Dn z m->bU H' r b (n+4)->Kp r H H'->Q (.int z) H'
theorem J3 {f:Addr} {fd:FuncData} (F:jZ K "_law_none" "_law_none" jD f fd) (b_:FnAt P w K mg base 2 "_law_draw" ["bag","many"] (nJ K)):cu P w K mg base jY 3 f fd ["bag","hands"] (rE K):=by
 refine F.ok BZ (fun vs H Q E h=> ?_) (fun cdv A outer s H vs Q E hr h=> ?_)
 ·obtain ⟨r,b,n,m,rfl,_⟩:=h
  rfl
 ·obtain ⟨r,b,n,m,rfl,B,nb,m9,k⟩:=h
  refine ⟨_,(aC (aW (i:=2) BZ.nd rfl (Or.inl rfl) (aR (aM (K:=K) rfl) (bO (ak aF (ak aF (ak (bx b_ (hr.mono (by decide)) (by rfl) (ak (pv 0) (ak aF au))) (ak (bx b_ (hr.mono (by decide)) (by rfl) (ak (pv 0) (ak (bB Gg aF aF) au))) au))))) (bx b_ (hr.mono (by decide)) (by rfl) (ak (pv 0) (ak aF au))) (fun _ _=>rfl)))
   (aH (aX (aR (aM (K:=K) rfl) (bO (ak (bB fu (pv 1) (pv 2)) (ak (bB wM (wK qC aF) (pv 2)) au))) (bx b_ (hr.mono (by decide)) (by rfl) (ak (pv 0) (ak aF au))) (fun _ _=>rfl))))), ?_⟩
  have hcp:Tt 10 29:=⟨by decide,by decide,by decide⟩;refine ⟨_,rfl,r,b,9,n,rfl,B,by omega,by decide,by decide,fun z1 H1 a0 a1 B1 k1=> ?_⟩;refine ⟨_,rfl,_,_,rfl,rfl,hcp,r,b,10 ^ (29:Int).toNat,n+1,rfl,B1,by omega,by decide,by decide,fun z2 H2 b0 b1 B2 k2=> ?_⟩;refine ⟨(by show 4<=sizeLine;decide),fun l hl=> ?_⟩;have sl:=aD (o:=HO.lst [V.int 0,V.int 1,V.int z1,V.int z2]) hl;have nlr:=(B2.ne hl).1;refine ⟨_,rfl,r,b,4,n+1+1,rfl,B2.keep sl,by omega,by decide,by decide,fun z3 H3 c0 c1 B3 k3=> ?_⟩
  obtain ⟨far,ef,f0⟩:∃far:Int,uX [V.int 0,V.int 1,V.int z1,V.int z2] z3=some (.int far)/\0<=far:=by
   have:z3=0\/z3=1\/z3=2\/z3=3:=by omega
   rcases this with rfl|rfl|rfl|rfl
   ·exact ⟨0,rfl,by decide⟩
   ·exact ⟨1,rfl,by decide⟩
   ·exact ⟨z1,rfl,a0⟩
   ·exact ⟨z2,rfl,b0⟩
  refine ⟨_,_,_,_,rfl,rfl,bA.of (k3 _ _ aq nlr),ef, ?_⟩;have K3:Kp r H H3:=((k1.trans k2).trans (Kp.of_same sl)).trans k3;refine ⟨_,rfl,_,rfl,_,_,rfl,rfl,_,rfl,_,rfl,_,_,rfl,rfl,(by show 2<=sizeLine;decide),fun l2 hl2=> ?_⟩;have sl2:=aD (o:=HO.lst [V.int (m+far),V.int (-1 - far)]) hl2;have nl2:=(B3.ne hl2).1;refine ⟨_,rfl,r,b,2,n+1+1+1,rfl,B3.keep sl2,by omega,by decide,by decide,fun z4 H4 d0 d1 B4 k4=> ?_⟩
  obtain ⟨z,ez,hz⟩:∃z:Int,uX [V.int (m+far),V.int (-1 - far)] z4=some (.int z) /\ ¬Dn z m:=by
   have:z4=0\/z4=1:=by omega
   rcases this with rfl|rfl
   ·exact ⟨m+far,rfl,fun q=>by have:=q.2;omega⟩
   ·exact ⟨-1 - far,rfl,fun q=>by have:=q.1;omega⟩
  exact ⟨_,_,_,_,rfl,rfl,bA.of (k4 _ _ aq nl2),ez,k z H4 hz B4 ((K3.trans (Kp.of_same sl2)).trans k4)⟩
def Qs:List Bool:=[true,false,false,false,true]
def oM (K:PySem.W.Frag):Sp:=fun vs H Q _=>∃(a:Addr) (bs:List Bool),vs=[.ref a]/\H a=some (.lst (bs.map V.bl))/\bs.length<=100 /\ ∀H',Same H H'->Q (.bl (decide (bs=Qs))) H'
theorem xO (x y:Bool):PyData.eqv (.bool x) (.bool y)=decide (x=y):=by
 cases x<;>cases y<;>rfl
theorem aL.bools {H:Hp}:∀bs:List Bool,aL H (bs.map V.bl) (bs.map PyData.bool)
 | []=>by simp [aL]
 | b::bs=>by
   simp only [List.map_cons,aL];exact ⟨by simp only [Dat],aL.bools bs⟩
theorem fQ (bs:List Bool):SeqAt.shaped (.list (bs.map PyData.bool))=true:=nM PyData.bool 0 (by decide) (fun _ _=>rfl) (fun _ _=>by show 0<=0;decide)
theorem Gq {f:Addr} {fd:FuncData} (F:jZ K "_law_classes" "_law_classes" eF f fd) (Bt:qY mg):cu P w K mg base jY 1 f fd ["found"] (oM K):=by
 refine F.ok B_ (fun vs H Q E h=> ?_) (fun cdv A outer s H vs Q E hr h=> ?_)
 ·obtain ⟨a,bs,rfl,_⟩:=h
  rfl
 ·obtain ⟨a,bs,rfl,ha,bl,k⟩:=h
  have jh:=hr.units;refine ⟨_,(aH (aX (eO (vM (K:=K) rfl jh) (pv 0) (bO (ak iM (ak iM (ak iM (ak iM (ak iM au)))))) (bD _)))), ?_⟩;refine ⟨_,rfl,(by show 5<=sizeLine;decide),fun l hl=> ?_⟩;have sl:=aD (o:=HO.lst [V.bl true,V.bl false,V.bl false,V.bl false,V.bl true]) hl;have el:(upd H l (.lst [V.bl true,V.bl false,V.bl false,V.bl false,V.bl true])) l=some (.lst (Qs.map V.bl)):=aq;refine ⟨_,_,dX (sl _ _ ha) (aL.bools bs),dX el (aL.bools Qs),fQ _,fQ _, ?_⟩;rw [if_neg Bool.false_ne_true,ou PyData.bool xO];exact k _ sl
def wk (K:PySem.W.Frag):Sp:=fun vs H Q _=>∃(m:Int),vs=[.int m] /\
 (1<=m->m<=8 -> ∀l H',H l=none->H' l=some (.lst (([]:List Bool).map V.bl))->Same H H'->Q (.ref l) H') /\
 (¬(1<=m/\m<=8) -> ∀l H',H l=none->H' l=some (.lst (Qs.map V.bl))->Same H H'->Q (.ref l) H')
theorem J5 {aj:Addr} {f:Addr} {fd:FuncData} (F:jZ K "_law_made" "_law_made" jE f fd) {aG cT cU cV fP:Addr} (bh:Xr K mg aG "NoHand") (cR:Xo K mg aG cT "NoteError" true) (iH:Xo K mg aG cU "NoNote" false) (iI:Xo K mg aG cV "NoCell" false) (mR:Xo K mg aG fP "Over" false) (jU:sW P w K mg base 2 aj "Recorder" ["self","hands"] [] (rD aj aG K)) (Bt:qY mg):cu P w K mg base jY 4 f fd ["many"] (wk K):=by
 refine F.ok nP (fun vs H Q E h=> ?_) (fun cdv A outer s H vs Q E hr h=> ?_)
 ·obtain ⟨m,rfl,_⟩:=h
  rfl
 ·obtain ⟨m,rfl,k1,k2⟩:=h
  refine ⟨_,(aC (aW (i:=1) nP.nd rfl (Or.inl rfl) (bO au))
   (aC (Ng (i:=2) rfl rfl rfl rfl nP.nd rfl rfl (by rfl) cR.bd cR.hd (fun _ _ _ _ hR=>(aH (cW (Nr jU rfl hR (hr.mono (by decide)) (by rfl) (ak (pv 0) au))))) (fun _=>(aC (aW (i:=1) nP.nd rfl (Or.inl rfl) (bO (ak (aO (gk (K:=K) (c:= .ref aG) (cv:= .ref aG) rfl (fun _ h=>h)) (by rfl) Bt.aZ aV (ak (pv 2) (ak (jd (v:= .ref aG) (by rfl) bh.bd rfl) au))) (ak (aO (gk (K:=K) (c:= .ref cU) (cv:= .ref cU) rfl (fun _ h=>h)) (by rfl) Bt.aZ aV (ak (pv 2) (ak (jd (v:= .ref cU) (by rfl) iH.bd rfl) au))) (ak (aO (gk (K:=K) (c:= .ref cV) (cv:= .ref cV) rfl (fun _ h=>h)) (by rfl) Bt.aZ aV (ak (pv 2) (ak (jd (v:= .ref cV) (by rfl) iI.bd rfl) au))) (ak (aO (gk (K:=K) (c:= .ref fP) (cv:= .ref fP) rfl (fun _ h=>h)) (by rfl) Bt.aZ aV (ak (pv 2) (ak (jd (v:= .ref fP) (by rfl) mR.bd rfl) au))) au))))))
   (aH (aW (i:=1) nP.nd rfl (Or.inl rfl) (bB Gi (pv 1) (bO (ak (aO (gk (K:=K) (c:= .type "ValueError") (cv:= .ty "ValueError") rfl (fun _ h=>h)) (by rfl) Bt.aZ aV (ak (pv 2) (ak (gA (v:= .ty "ValueError") (by rfl) Bt.sS pW rfl) au))) au))))))))
   (aH (aX (pv 1))))), ?_⟩
  refine ⟨(by show 0<=sizeLine;decide),fun a ha=> ?_⟩;have sa:=aD (o:=HO.lst []) ha;have ea:(upd H a (.lst [])) a=some (.lst []):=aq;generalize (upd H a (.lst []))=H1 at sa ea ⊢
  by_cases hm:1<=m/\m<=8
  ·refine ⟨_,rfl,fun o dx ho hdx Ud=> ?_⟩
   have s6:Same H1 (upd (upd H1 dx (.own o)) o (.ins aj dx [])):=(aD hdx).trans (aD (by rw [aN (Ne.symm Ud)];exact ho));refine ⟨o,dx,m,rfl,aq,fun z=>absurd hm z,fun _ _ R H7 ero RC fr YF k7=>⟨rfl, ?_⟩⟩;have s7:Same H1 H7:=fun c u e=>k7 _ _ (s6 _ _ e) (aB e ho);exact ⟨_,rfl,k1 hm.1 hm.2 a H7 ha (s7 _ _ ea) (sa.trans s7)⟩
  ·refine ⟨_,rfl,fun o dx ho hdx Ud=> ?_⟩
   have s6:Same H1 (upd (upd H1 dx (.own o)) o (.ins aj dx [])):=(aD hdx).trans (aD (by rw [aN (Ne.symm Ud)];exact ho));refine ⟨o,dx,m,rfl,aq,fun _=>⟨_,rfl,cR.pr.sub,fun e he=> ?_⟩,fun q1 q2=>absurd ⟨q1,q2⟩ hm⟩;have se:=aD (o:=XO aG none e) he;have ee:(upd (upd (upd H1 dx (.own o)) o (.ins aj dx [])) e (XO aG none e)) e=some (XO aG none e):=aq;have S1:=(sa.trans s6).trans se;generalize (upd (upd (upd H1 dx (.own o)) o (.ins aj dx [])) e (XO aG none e))=H2 at ee S1 ⊢;refine ⟨_,rfl,e,_,true,rfl,ee,bh.xc,w5,_,rfl,e,_,false,rfl,ee,bh.xc,iH.kit,_,rfl,e,_,false,rfl,ee,bh.xc,iI.kit,_,rfl,e,_,false,rfl,ee,bh.xc,mR.kit,(by show 4<=sizeLine;decide),fun l1 hl1=> ?_⟩;have JM:=aD (o:=HO.lst [V.bl true,V.bl false,V.bl false,V.bl false]) hl1;refine ⟨_,rfl,_,rfl,e,_,true,rfl,JM _ _ ee,bh.xc,um bh.ve,(by show 1<=sizeLine;decide),fun l2 hl2=> ?_⟩;have sl2:=aD (o:=HO.lst [V.bl true]) hl2;refine ⟨l1,l2,_,_,rfl,rfl,sl2 _ _ aq,aq,by rw [sizeLine_eq];decide,fun l3 hl3=> ?_⟩;have S3:=((S1.trans JM).trans sl2).trans (aD (o:=HO.lst ([V.bl true,V.bl false,V.bl false,V.bl false]++[V.bl true])) hl3);exact ⟨_,rfl,k2 hm l3 _ (((S1.trans JM).trans sl2).free hl3) aq S3⟩
def nF (C:Addr) (K:PySem.W.Frag):Sp:=fun vs H Q _=>∃(R:Rc) (ws:List bK) (hn door:Nat) (h cl:Int),vs=[.ref R.o,.int door,.int h,.int cl]/\RcAt C H R ws hn/\(∀x∈ws,0<=x.1/\x.1<8)/\hn<=8/\door<4 /\ ¬Dn h hn /\
 ∀l H',H l=none->H' l=some (.lst (Qs.map V.bl))->Same H H'->Q (.ref l) H'
theorem Ab {aj:Addr} {f:Addr} {fd:FuncData} (F:jZ K "_law_refused" "_law_refused" eE f fd) {aG cT cU cV fP:Addr} (bh:Xr K mg aG "NoHand") (cR:Xo K mg aG cT "NoteError" true) (iH:Xo K mg aG cU "NoNote" false) (iI:Xo K mg aG cV "NoCell" false) (mR:Xo K mg aG fP "Over" false) (ao:cg K aj) (iY:mU P w K mg base 4 aj "known" ["self","hand"] (rC aj aG K)) (jV:mU P w K mg base 4 aj "did" ["self","hand","kind","cell"] (Ig aj aG K)) (Bt:qY mg):cu P w K mg base jY 5 f fd ["recorder","door","hand","cell"] (nF aj K):=by
 refine F.ok jf (fun vs H Q E h=> ?_) (fun cdv A outer s H vs Q E hr h=> ?_)
 ·obtain ⟨R,ws,hn,door,h,cl,rfl,_⟩:=h
  rfl
 ·obtain ⟨R,ws,hn,door,h,cl,rfl,r,Lk,h8,d4,hin,k⟩:=h
  refine ⟨_,(aC (aW (i:=4) jf.nd rfl (Or.inl rfl) (bO au))
   (aC (Ng (i:=5) rfl rfl rfl rfl jf.nd rfl rfl (by rfl) cR.bd cR.hd (fun _ _ _ _ hR=>(aH (dN (bY mW (pv 1) aF (bD _)) (aH (cW (Ck iY ao.cls rfl hR (hr.mono (by decide)) (pv 0) (ak (pv 2) au)))) (aH (cW (Ck jV ao.cls rfl hR (hr.mono (by decide)) (pv 0) (ak (pv 2) (ak (aR (aM (K:=K) rfl) (bO (ak cY (ak cY (ak cY au)))) (bB wM (pv 1) aF) (fun _ _=>rfl)) (ak (pv 3) au))))))))) (fun _=>(aC (aW (i:=4) jf.nd rfl (Or.inl rfl) (bO (ak (aO (gk (K:=K) (c:= .ref aG) (cv:= .ref aG) rfl (fun _ h=>h)) (by rfl) Bt.aZ aV (ak (pv 5) (ak (jd (v:= .ref aG) (by rfl) bh.bd rfl) au))) (ak (aO (gk (K:=K) (c:= .ref cU) (cv:= .ref cU) rfl (fun _ h=>h)) (by rfl) Bt.aZ aV (ak (pv 5) (ak (jd (v:= .ref cU) (by rfl) iH.bd rfl) au))) (ak (aO (gk (K:=K) (c:= .ref cV) (cv:= .ref cV) rfl (fun _ h=>h)) (by rfl) Bt.aZ aV (ak (pv 5) (ak (jd (v:= .ref cV) (by rfl) iI.bd rfl) au))) (ak (aO (gk (K:=K) (c:= .ref fP) (cv:= .ref fP) rfl (fun _ h=>h)) (by rfl) Bt.aZ aV (ak (pv 5) (ak (jd (v:= .ref fP) (by rfl) mR.bd rfl) au))) au))))))
   (aH (aW (i:=4) jf.nd rfl (Or.inl rfl) (bB Gi (pv 4) (bO (ak (aO (gk (K:=K) (c:= .type "ValueError") (cv:= .ty "ValueError") rfl (fun _ h=>h)) (by rfl) Bt.aZ aV (ak (pv 5) (ak (gA (v:= .ty "ValueError") (by rfl) Bt.sS pW rfl) au))) au))))))))
   (aH (aX (pv 4))))), ?_⟩
  refine ⟨(by show 0<=sizeLine;decide),fun a ha=> ?_⟩;have sa:=aD (o:=HO.lst []) ha;generalize (upd H a (.lst []))=H1 at sa ⊢;have r1:=r.same sa;have hn0:∀{A:Prop},0<=h->h<hn->A:=fun q1 q2=>absurd ⟨q1,q2⟩ hin;refine ⟨_,rfl,rfl,_,rfl, ?_⟩;refine pC (fun q=> ?_) (fun q=> ?_)
  ·refine ⟨_,rfl,R.o,R.dx,_,rfl,r1.o,rfl,_,rfl,R,ws,hn,h,rfl,r1,h8,fun _=>⟨_,rfl,cR.pr.sub,fun e he=> ?_⟩,fun q1 q2=>hn0 q1 q2⟩
   have se:=aD (o:=XO aG none e) he;have ee:(upd H1 e (XO aG none e)) e=some (XO aG none e):=aq;have S1:=sa.trans se;generalize (upd H1 e (XO aG none e))=H2 at ee S1 ⊢;refine ⟨_,rfl,e,_,true,rfl,ee,bh.xc,w5,_,rfl,e,_,false,rfl,ee,bh.xc,iH.kit,_,rfl,e,_,false,rfl,ee,bh.xc,iI.kit,_,rfl,e,_,false,rfl,ee,bh.xc,mR.kit,(by show 4<=sizeLine;decide),fun l1 hl1=> ?_⟩;have JM:=aD (o:=HO.lst [V.bl true,V.bl false,V.bl false,V.bl false]) hl1;refine ⟨_,rfl,_,rfl,e,_,true,rfl,JM _ _ ee,bh.xc,um bh.ve,(by show 1<=sizeLine;decide),fun l2 hl2=> ?_⟩;have sl2:=aD (o:=HO.lst [V.bl true]) hl2;refine ⟨l1,l2,_,_,rfl,rfl,sl2 _ _ aq,aq,by rw [sizeLine_eq];decide,fun l3 hl3=> ?_⟩;exact ⟨_,rfl,k l3 _ (((S1.trans JM).trans sl2).free hl3) aq (((S1.trans JM).trans sl2).trans (aD hl3))⟩
  ·have d0:door≠0:=fun z=>q (by rw [z];rfl)
   obtain ⟨kd,ek⟩:∃kd:Str,uX [V.str "load",V.str "store",V.str "swap"] ((door:Int) - 1)=some (.str kd):=by
    have:door=1\/door=2\/door=3:=by omega
    rcases this with rfl|rfl|rfl
    ·exact ⟨_,rfl⟩
    ·exact ⟨_,rfl⟩
    ·exact ⟨_,rfl⟩
   refine ⟨_,rfl,R.o,R.dx,_,rfl,r1.o,rfl,_,rfl,(by show 3<=sizeLine;decide),fun q3 hq3=> ?_⟩;have sq:=aD (o:=HO.lst [V.str "load",V.str "store",V.str "swap"]) hq3;have eq:(upd H1 q3 (.lst [V.str "load",V.str "store",V.str "swap"])) q3=some (.lst [V.str "load",V.str "store",V.str "swap"]):=aq;generalize (upd H1 q3 (.lst [V.str "load",V.str "store",V.str "swap"]))=H3 at sq eq ⊢;refine ⟨_,rfl,_,_,rfl,rfl,_,_,_,_,rfl,rfl,bA.of eq,ek,_,rfl,R,ws,hn,h,cl,kd,rfl,r1.same sq,fun q=>absurd q hin,Lk,h8,fun _=>⟨_,rfl,cR.pr.sub,fun e he=> ?_⟩,fun q1 q2=>hn0 q1 q2⟩;have se:=aD (o:=XO aG none e) he;have ee:(upd H3 e (XO aG none e)) e=some (XO aG none e):=aq;have S1:=(sa.trans sq).trans se;generalize (upd H3 e (XO aG none e))=H2 at ee S1 ⊢;refine ⟨_,rfl,e,_,true,rfl,ee,bh.xc,w5,_,rfl,e,_,false,rfl,ee,bh.xc,iH.kit,_,rfl,e,_,false,rfl,ee,bh.xc,iI.kit,_,rfl,e,_,false,rfl,ee,bh.xc,mR.kit,(by show 4<=sizeLine;decide),fun l1 hl1=> ?_⟩;have JM:=aD (o:=HO.lst [V.bl true,V.bl false,V.bl false,V.bl false]) hl1;refine ⟨_,rfl,_,rfl,e,_,true,rfl,JM _ _ ee,bh.xc,um bh.ve,(by show 1<=sizeLine;decide),fun l2 hl2=> ?_⟩;have sl2:=aD (o:=HO.lst [V.bl true]) hl2;refine ⟨l1,l2,_,_,rfl,rfl,sl2 _ _ aq,aq,by rw [sizeLine_eq];decide,fun l3 hl3=> ?_⟩;exact ⟨_,rfl,k l3 _ (((S1.trans JM).trans sl2).free hl3) aq (((S1.trans JM).trans sl2).trans (aD hl3))⟩
theorem oF {ws:List bK} {h:Int}:∀(n:Nat) {c:Int},0<=c->c<cnt (ws.take n) h -> ∃m x,ws[m]? = some x/\x.1=h/\cnt (ws.take m) h=c
 | 0,c,h0,h1=>by
   rw [List.take_zero] at h1;have:cnt [] h=0:=rfl;omega
 | n+1,c,h0,h1=>by
   cases e:ws[n]? with
   | none=>
     have:ws.take (n+1)=ws.take n:=by rw [List.take_add_one,e];simp
     rw [this] at h1;exact oF n h0 h1
   | some x=>
     have t:ws.take (n+1)=ws.take n++[x]:=by rw [List.take_add_one,e];rfl
     rw [t,iD] at h1
     by_cases q:h=x.1
     ·rw [if_pos q] at h1
      by_cases l:c<cnt (ws.take n) h
      ·exact oF n h0 l
      ·exact ⟨n,x,e,q.symm,by omega⟩
     ·rw [if_neg q] at h1
      exact oF n h0 h1
theorem GP {ws:List bK} {hn j:Nat} {g:Int->Int} {a:List Int} (k:pL ws j g) (g0:∀i,0<=g i) (r:qR ws hn a (fun m=>m=j\/vp ws j m) (j+1)) (h:Nat):g (h:Int)=gI a (h:Int):=by
 have b1:=k.2 (h:Int);have b2:=r.2.2 h;have p0:=g0 (h:Int);rcases Int.lt_trichotomy (g (h:Int)) (gI a (h:Int)) with l|l|l
 ·obtain ⟨m,x,ex,e,ec⟩:=oF (ws:=ws) (h:=(h:Int)) (j+1) p0 (Int.lt_of_lt_of_le l b2.2)
  have i1:=k.1 m x ex;have i2:=r.2.1 m x ex;rw [e,ec] at i1 i2;exact absurd (i1.mpr (i2.mp l)) (Int.lt_irrefl _)
 ·exact l
 ·obtain ⟨m,x,ex,e,ec⟩:=oF (ws:=ws) (h:=(h:Int)) (j+1) b2.1 (Int.lt_of_lt_of_le l b1)
  have i1:=k.1 m x ex;have i2:=r.2.1 m x ex;rw [e,ec] at i1 i2;exact absurd (i2.mpr (i1.mp l)) (Int.lt_irrefl _)
theorem pL.pre {j:Nat} {g:Int->Int}:∀(suf pre:List bK),pL pre j g->j<pre.length->pL (pre++suf) j g
 | [],pre,k,_=>by rw [List.append_nil];exact k
 | x::s,pre,k,h=>by
   rw [show pre++x::s=(pre++[x])++s by simp];exact pL.pre s _ (k.snoc h) (by rw [List.length_append];omega)
theorem pL.whole {ws:List bK} {n j:Nat} {g:Int->Int} (k:pL (ws.take n) j g) (h:j<(ws.take n).length):pL ws j g:=by
 have:=pL.pre (ws.drop n) _ k h;rwa [List.take_append_drop] at this
theorem Li {ws:List bK} {n:Nat} (h:n<=ws.length):jk (ws.take n) n=jk ws n:=by
 unfold jk
 have e:∀j∈List.range n,bC (ws.take n) j (cL (ws.take n) j j)=bC ws j (cL ws j j):=fun j hj=>by
  have hj:=List.mem_range.mp hj;have:=t_ (ws.drop n) (ws.take n) (j:=j) (by rw [List.length_take];omega);rw [List.take_append_drop] at this;exact this.symm
 rw [List.flatMap_def,List.flatMap_def,List.map_congr_left e]
def uz (ws:List bK) (hn:Nat):List Int:=(List.range hn).map fun h:Nat=>cnt ws (h:Int)
theorem sH (ws:List bK) (hn:Nat):(uz ws hn).length=hn:=by unfold uz;simp
theorem Jf {ws:List bK} {hn:Nat} {h:Int} (h0:0<=h) (h1:h<hn):gI (uz ws hn) h=cnt ws h:=by
 obtain ⟨m,rfl⟩:=Int.eq_ofNat_of_zero_le h0;refine xG ?_;unfold uz;rw [List.getElem?_map,List.getElem?_range (by omega)];rfl
def Wy (ws:List bK) (hn n:Nat):Hp->Nat->Addr->Prop:=fun H h r=>∃a:List Int,H r=some (.lst (a.map V.int))/\a.length=hn/\((pO (ws.take n) (h:Int)=[]/\a=List.replicate hn 0) \/ ∃j,(pO (ws.take n) (h:Int)).getLast?=some j/\qR ws hn a (fun m=>m=j\/vp ws j m) (j+1))
theorem KH {ws:List bK} {hn n h:Nat} {H:Hp} {r:Addr} {g:Int->Int} (d:Wy ws hn n H h r) (k:KnL (ws.take n) (h:Int) g):H r=some (.lst ((List.range hn).map fun i:Nat=>V.int (g (i:Int)))):=by
 obtain ⟨a,hr,al,q⟩:=d;rw [hr];congr 2;refine List.ext_getElem? fun i=> ?_
 by_cases hi:i<hn
 ·rw [List.getElem?_map,List.getElem?_map,List.getElem?_range hi,List.getElem?_eq_getElem (by omega)]
  show some (V.int a[i])=some (V.int (g (i:Int)));have ea:gI a (i:Int)=a[i]:=xG (List.getElem?_eq_getElem (by omega));rcases q with ⟨e1,e2⟩|⟨j,e1,e2⟩
  ·rw [k.1 e1,←ea,e2,Aq]
  ·obtain ⟨k1,k2⟩:=k.2 j e1
   have jl:j<(ws.take n).length:=by
    have:j∈pO (ws.take n) (h:Int):=List.mem_of_getLast? e1;unfold pO at this;exact List.mem_range.mp (List.mem_filter.mp this).1
   rw [GP (k1.whole jl) k2 e2 i,ea]
 ·rw [List.getElem?_eq_none (by simp;omega),List.getElem?_eq_none (by simp;omega)]
def tU (K:PySem.W.Frag):Sp:=fun vs H Q _=>∃(w t1:Addr) (ws:List bK) (hn n:Nat),vs=[.ref w,.ref t1,.int hn]/\gn H w (ws.take n)/\(∀x∈ws,mY (hn:Int) x)/\bN H t1 [] ws.length (RowC ws hn)/\n<=ws.length/\ws.length<=300/\hn<=8 /\
 ∀(kn:Addr) (H':Hp),H kn=none->bN H' kn [] hn (Wy ws hn n)->Same H H'->Q (.ref kn) H'
theorem Gn {f:Addr} {fd:FuncData} (F:jZ K "_law_known" "_law_known" iz f fd) (Bt:qY mg):cu P w K mg base jY 1 f fd ["touches","rows","hands"] (tU K):=by
 refine F.ok tY (fun vs H Q E h=> ?_) (fun cdv A outer s H vs Q E hr h=> ?_)
 ·obtain ⟨w,t1,ws,hn,n,rfl,_⟩:=h
  rfl
 ·obtain ⟨w,t1,ws,hn,n,rfl,W,Fb,L1,nl,wl,h8,k⟩:=h
  refine ⟨_,(aC (vG (i:=3) rfl tY.nd rfl (Or.inl rfl) (N:=["hand","hands"]) (own:=["hand"]) (caps:=[2]) (bf.of (by kernel_rfl)) (dJ (by rfl) Bt.fD (ak (pv 2) au)) (fun _ _ _ _=>(bw (i:=0) (show List.Nodup (["hand","hands"]:List Str) by decide +kernel) rfl (Or.inl rfl))) (fun _ _ _ _=>eN) (fun _ _ _ _=>(bB Gf (bO (ak aF au)) (pv 1))))
   (aC (mz PassesOwn.never rfl (dJ (by rfl) Bt.fD (ak (aO (aU (K:=K) rfl) (by rfl) Bt.fX dI (ak (pv 0) au)) au)) (bw (i:=4) tY.nd rfl (Or.inl rfl))
   (aH (mF (aR (aM (K:=K) rfl) (pv 1) (pv 4) (fun _ _=>rfl)) (qI (pv 3) (aR (cH (K:=K) rfl) (aR (aM (K:=K) rfl) (pv 0) (pv 4) (fun _ _=>rfl)) aF (fun _ _=>rfl)) set_list))))
   (aH (aX (pv 3))))), ?_⟩
  refine ⟨_,rfl,_,rfl,by omega,by omega,fun kn hkn=> ?_⟩;rw [Int.toNat_natCast];refine iW (lo:=0) (n:=hn) (fun i σ Hc=>∃(v:Option V) (rs:List Addr),σ=[v,some (.int hn)]/\rs.length=i/\Same H Hc/\Hc kn=some (.lst (rs.map V.ref)) /\ ∀r∈rs,r≠kn/\H r=none/\Hc r=some (.lst ((List.replicate hn (0:Int)).map V.int))) ⟨none,[],rfl,rfl,aD hkn,aq,by simp⟩ ?_ ?_
  ·rintro i σ Hc hi ⟨v,rs,rfl,lr,sm,ek,hr'⟩
   dsimp only [gM,JK];rw [if_pos rfl];refine ⟨(by show 1<=sizeLine;decide),fun q hq=>⟨_,rfl,q,_,_,rfl,rfl,aq,by omega,by omega,by rw [sizeLine_eq];simp;omega,fun r hr0=> ?_⟩⟩;rw [Vc,Int.toNat_natCast];have sq:=aD (o:=HO.lst [V.int 0]) hq;have sr:=aD (o:=HO.lst ((List.replicate hn (0:Int)).map V.int)) hr0;have s2:=sq.trans sr;have nrk:r≠kn:=(aB (sq _ _ ek) hr0).symm;refine ⟨_,s2 _ _ ek,by rw [List.length_map,sizeLine_eq];omega,_,rs++[r],rfl,by simp [lr],(sm.trans s2).newly hkn,by rw [aq,List.map_append];rfl,fun r' hr1=> ?_⟩;rcases List.mem_append.mp hr1 with hr1|hr1
   ·obtain ⟨x1,x2,x3⟩:=hr' r' hr1
    exact ⟨x1,x2,by rw [aN x1];exact s2 _ _ x3⟩
   ·rw [List.mem_singleton.mp hr1]
    exact ⟨nrk,sm.free (sq.free hr0),by rw [aN nrk,aq]⟩
  rintro σ H2 ⟨v,rs,rfl,lr,s2,ek,hr'⟩;have lt0:(ws.take n).length=n:=by rw [List.length_take];omega
  obtain ⟨vs2,hv2,dv2⟩:=id (W.same s2);have vl2:vs2.length=n:=by rw [dv2.length,List.length_map,lt0]
  refine ⟨_,rfl,w,vs2,rfl,.inl (bA.of hv2),_,rfl,by omega,by omega, ?_⟩;rw [Int.toNat_natCast,vl2];refine ux (lo:=0) (n:=n) (fun j σ Hc=>∃(v:Option V) (rs:List Addr),σ=[some (.ref w),some (.ref t1),some (.int hn),some (.ref kn),v]/\Same H Hc/\Hc kn=some (.lst (rs.map V.ref))/\rs.length=hn /\ ∀(h:Nat) (r:Addr),rs[h]? = some r->r≠kn/\Wy ws hn j Hc h r) ⟨none,rs,rfl,s2,ek,lr,fun h r e=> ?_⟩ ?_ ?_
  ·obtain ⟨x1,x2,x3⟩:=hr' r (List.mem_of_getElem? e)
   exact ⟨x1,_,x3,by simp,.inl ⟨rfl,rfl⟩⟩
  ·rintro j σ Hc hj ⟨v,rs,rfl,sm,ek',lr,hd⟩
   have jl:j<ws.length:=by omega
   have ex:ws[j]? = some ws[j]:=List.getElem?_eq_getElem jl;generalize ws[j]=x at ex;have ex':(ws.take n)[j]? = some x:=by rw [List.getElem?_take,if_pos hj];exact ex
   obtain ⟨⟨x0,x1⟩,_⟩:=Fb x (List.mem_of_getElem? ex);obtain ⟨vs',t,hv',et,ht⟩:=qZ (W.same sm) ex';have tk:ws.take (j+1)=ws.take j++[x]:=by rw [List.take_add_one,ex];rfl
   have lt:(ws.take j).length=j:=by rw [List.length_take];omega
   obtain ⟨rs1,ht1,rl1,rq1⟩:=L1;obtain ⟨r1,er1⟩:∃r1,rs1[j]? = some r1:=⟨_,List.getElem?_eq_getElem (by omega)⟩;obtain ⟨_,a1,ha1,rh1⟩:=rq1 j r1 er1;rw [Int.zero_add];refine ⟨_,rfl,_,rfl,_,_,_,_,rfl,rfl,bA.of (sm _ _ ht1),bZ (by rw [List.getElem?_map,er1];rfl),_,rfl,_,rfl,_,rfl,_,_,_,_,rfl,rfl,bA.of hv',bZ et,_,_,_,_,rfl,rfl,gC.of ht,rfl,kn,_,_,_,rfl,rfl,ek',Ak x0 (by rw [List.length_map];omega), ?_⟩;have kk:Kp kn Hc (upd Hc kn (.lst ((rs.map V.ref).set x.1.toNat (V.ref r1)))):=Kp.set;have n1k:r1≠kn:=aB ha1 hkn;refine ⟨_,rs.set x.1.toNat r1,rfl,fun y o e=>kk _ _ (sm _ _ e) (aB e hkn),by rw [aq,List.map_set],by rw [List.length_set];exact lr,fun h r e=> ?_⟩;rw [List.getElem?_set] at e
   by_cases q:x.1.toNat=h
   ·rw [if_pos q] at e
    split at e
    ·cases e
     have qh:x.1=(h:Int):=by omega
     refine ⟨n1k,a1,kk _ _ (sm _ _ ha1) n1k,rh1.1,.inr ⟨j, ?_,rh1⟩⟩;rw [tk,rM,if_pos qh,lt];simp
    ·cases e
   ·rw [if_neg q] at e
    obtain ⟨y2,a,z1,z2,z3⟩:=hd h r e;have qh:¬x.1=(h:Int):=by omega
    have ep:pO (ws.take (j+1)) (h:Int)=pO (ws.take j) (h:Int):=by rw [tk,rM,if_neg qh,List.append_nil]
    exact ⟨y2,a,kk _ _ z1 y2,z2,by rw [ep];exact z3⟩
  ·rintro σ Hc ⟨v,rs,rfl,sm,ek',lr,hd⟩
   exact ⟨_,rfl,k kn Hc hkn ⟨rs,ek',lr,fun h r e=>⟨fun _ z=>absurd z (by simp),(hd h r e).2⟩⟩ sm⟩
theorem Hg (ws:List bK) (h:Int):cnt ws h<=ws.length:=by
 unfold cnt;have:=List.length_filter_le (fun x:bK=>decide (x.1=h)) ws;omega
theorem uW {ws:List bK} {i:Nat} (h:i<ws.length):cnt (ws.take i) (hnd ws i)<cnt ws (hnd ws i):=by
 have ex:ws[i]? = some ws[i]:=List.getElem?_eq_getElem h;have t:ws.take (i+1)=ws.take i++[ws[i]]:=by rw [List.take_add_one,ex];rfl
 have m:=ji ws (hnd ws i) (i+1) (ws.length - (i+1));rw [show i+1+(ws.length - (i+1))=ws.length by omega,List.take_length,t,iD,if_pos (ur ex)] at m;omega
theorem RB {ws:List bK} {hn:Nat} {e j:Nat} (ok:∀x∈ws,mY (hn:Int) x) (he:e<ws.length) (hj:j<ws.length) (ne:¬hnd ws e=hnd ws j):Qd (uz ws hn) (jO ws e j):=by
 have r:∀i,i<ws.length->0<=hnd ws i/\hnd ws i<hn:=fun i hi=>by
  have ex:ws[i]? = some ws[i]:=List.getElem?_eq_getElem hi;rw [ur ex];exact (ok _ (List.getElem_mem hi)).1
 obtain ⟨a0,a1⟩:=r e he;obtain ⟨b0,b1⟩:=r j hj;unfold jO;refine ⟨⟨a0,by rw [sH];exact a1⟩,⟨jx _ _, ?_⟩,⟨b0,by rw [sH];exact b1⟩,⟨jx _ _, ?_⟩,ne⟩
 ·show cnt (ws.take e) (hnd ws e)<gI (uz ws hn) (hnd ws e)
  rw [Jf a0 a1];exact uW he
 ·show cnt (ws.take j) (hnd ws j)<gI (uz ws hn) (hnd ws j)
  rw [Jf b0 b1];exact uW hj
theorem Tg {ws:List bK} {hn:Nat} (ok:∀x∈ws,mY (hn:Int) x) {n:Nat} (hn':n<=ws.length):∀x∈jk ws n,Qd (uz ws hn) x:=fun x hx=>by
 unfold jk at hx;obtain ⟨j,hj,hx⟩:=List.mem_flatMap.mp hx;have hj:=List.mem_range.mp hj;unfold bC at hx;obtain ⟨e,he,rfl⟩:=List.mem_map.mp hx;obtain ⟨h1,h2⟩:=List.mem_filter.mp he;exact RB ok (sU (by omega) h1) (by omega) (of_decide_eq_true h2)
theorem Vd {ws:List bK} {hn:Nat} {ns:List Nt} (ok:∀x∈ws,mY (hn:Int) x) (h8:hn<=8) (wl:ws.length<=300) (pm:ns.Perm (jk ws ws.length)):uI (uz ws hn) ns:=by
 refine ⟨⟨by rw [sH];exact h8,fun c hc=> ?_⟩, ?_,fun x hx=>Tg ok (Nat.le_refl _) x (pm.mem_iff.mp hx)⟩
 ·unfold uz at hc
  obtain ⟨h,_,rfl⟩:=List.mem_map.mp hc;have:=Hg ws (h:Int);exact ⟨jx _ _,by omega⟩
 ·rw [pm.length_eq]
  have:=sV ws ws.length;have:ws.length*ws.length<=300*300:=Nat.mul_le_mul wl wl;omega
theorem Iu {ns:List Int} (h:ns.length<=100000):zO 2 (.list (ns.map PyData.int)):=by
 refine ⟨by rw [List.length_map];exact h,fun d hd=> ?_⟩;obtain ⟨x,_,rfl⟩:=List.mem_map.mp hd;exact True.intro
def lD (a:List Int):PyData:= .list (a.map PyData.int)
def Cd (H:Hp) (r:Addr):List Int:=match H r with
 | some (.lst us)=>us.map vInt
 | _=>[]
theorem Ij {H:Hp} {r:Addr} {a:List Int} (e:H r=some (.lst (a.map V.int))):Cd H r=a:=by
 unfold Cd;rw [e];show (a.map V.int).map vInt=a;rw [List.map_map];exact List.map_id _
theorem qN {H:Hp}:∀(ls:List Addr) (as:List (List Int)),ls.length=as.length->(∀(i:Nat) (l:Addr) (a:List Int),ls[i]? = some l->as[i]? = some a->H l=some (.lst (a.map V.int)))->aL H (ls.map V.ref) (as.map lD)
 | [],[],_,_=>by simp [aL]
 | [],_::_,h,_=>by simp at h
 | _::_,[],h,_=>by simp at h
 | l::ls,a::as,h,q=>by
   simp only [List.map_cons,aL];exact ⟨oE (q 0 l a rfl rfl),qN ls as (by simpa using h) fun i l' a' h1 h2=>q (i+1) l' a' h1 h2⟩
theorem bU.kpl {H H':Hp} {r b:Addr} {n:Nat} (W:List Addr) (h:bU H r b n) (k:∀x u,H x=some u->x∉W->H' x=some u) (n1:r∉W) (n2:b∉W):bU H' r b n:=by
 obtain ⟨ns,i,f,c,t,e1,e2,q⟩:=h;exact ⟨ns,i,f,c,t,k _ _ e1 n1,k _ _ e2 n2,q⟩
theorem DW {H:Hp} (p:bK->Bool):∀{vs:List V} {ns:List bK},aL H vs (ns.map tD)->aL H ((List.range vs.length).filterMap fun i=>(ns[i]?).bind fun x=>if p x then vs[i]? else none) ((ns.filter p).map tD)
 | [],[],_=>by simp [aL]
 | [],_::_,h=>by simp only [List.map_cons,aL] at h
 | _::_,[],h=>by simp only [List.map_nil,aL] at h
 | v::vs,n::ns,h=>by
   simp only [List.map_cons,aL] at h;have ih:=DW p h.2
   have e:(List.range (v::vs).length).filterMap (fun i=>((n::ns)[i]?).bind fun x=>if p x then (v::vs)[i]? else none)=(if p n then [v] else [])++(List.range vs.length).filterMap fun i=>(ns[i]?).bind fun x=>if p x then vs[i]? else none:=by
    rw [List.length_cons,List.range_succ_eq_map,List.filterMap_cons,List.filterMap_map];cases q:p n
    ·simp [q];rfl
    ·simp [q];rfl
   rw [e,List.filter_cons];cases q:p n
   ·simpa using ih
   ·simp only [if_true,List.cons_append,List.nil_append,List.map_cons,aL]
    exact ⟨h.1,ih⟩
def tO (C:Addr) (K:PySem.W.Frag):Sp:=fun vs H Q _=>∃(R:Rc) (w p t1 t2:Addr) (ws:List bK) (hn n:Nat),vs=[.ref R.o,.ref w,.ref p,.int hn]/\RcAt C H R (ws.take n) hn/\gn H w (ws.take n)/\(∀x∈ws,mY (hn:Int) x)/\H p=some (.tup [.ref t1,.ref t2])/\bN H t1 [] ws.length (RowC ws hn)/\bN H t2 [] ws.length (WK ws)/\n<=ws.length/\ws.length<=300/\hn<=8 /\ ∀H',Same H H'->Q (.bl true) H'
theorem Gk {aj aG:Addr} {f:Addr} {fd:FuncData} (F:jZ K "_law_stays" "_law_stays" iy f fd) (ao:cg K aj) (dF:MethAt P w K mg base 1 aj "notes" ["self"] (nG aj K)) (cX:MethAt P w K mg base 1 aj "counts" ["self"] (nH aj K)) (iY:MethAt P w K mg base 4 aj "known" ["self","hand"] (fun vs H Q _=>rC aj aG K vs H Q fun _ _ _=>False)) (qT:MethAt P w K mg base 1 aj "__len__" ["self"] (FJ aj K)) (Tr:FnAt P w K mg base 1 "_law_flat" ["lists"] (FN K)) (Qi:FnAt P w K mg base 1 "_law_known" ["touches","rows","hands"] (tU K)) (jX:FnAt P w K mg base 6 "_law_alike" ["found","due"] (h_ 5 K)) (Bt:qY mg):cu P w K mg base jY 7 f fd ["recorder","touches","table","hands"] (tO aj K):=by
 refine F.ok oO (fun vs H Q E h=> ?_) (fun cdv A outer s H vs Q E hr h=> ?_)
 ·obtain ⟨R,w,p,t1,t2,ws,hn,n,rfl,_⟩:=h
  rfl
 ·obtain ⟨R,w,p,t1,t2,ws,hn,n,rfl,r,W,Fb,hp,L1,L2,nl,wl,h8,k⟩:=h
  have jh:=hr.units
  refine ⟨_,(aC (Nh (i:=4) rfl oO.nd rfl (Or.inl rfl) (xc:= "hand") (N:=["hand","touches"]) (own:=["hand"]) (caps:=[1]) (bT.of (by kernel_rfl)) (dJ (by rfl) Bt.fD (ak (pv 3) au)) (fun _ _ _ _=>(bw (i:=0) (show List.Nodup (["hand","touches"]:List Str) by decide +kernel) rfl (Or.inr rfl) (Or.inl G9))) (fun _ _ _ _=>eN) (fun _ _ _ _=>(aO (aU (K:=K) rfl) (by rfl) Bt.fX dI (ak (gw rfl (N:=["one","hand"]) (own:=["one"]) (caps:=[0]) (bf.of (by kernel_rfl)) (iC (K:=K) rfl (pv 1)) (fun _ _ _ _=>(bw (i:=0) (show List.Nodup (["one","hand"]:List Str) by decide +kernel) rfl (Or.inl rfl))) (fun _ _ _ _=>(Io (bY mW (aR (cH (K:=K) rfl) (pv 0) aF (fun _ _=>rfl)) (pv 1) (bD _)))) (fun _ _ _ _=>(pv 0))) au))))
   (aC (aW (i:=5) oO.nd rfl (Or.inl rfl) (bx Tr (hr.mono (by decide)) (by rfl) (ak (rO (BK (K:=K) rfl) (aR (cH (K:=K) rfl) (pv 2) aF (fun _ _=>rfl)) vI (vH (aO (aU (K:=K) rfl) (by rfl) Bt.fX dI (ak (pv 1) au)))) au)))
   (aC (dN (PW.pt (wG (bY k_ (aO (K8 qT (hr.mono (by decide))) (by rfl) Bt.fX dI (ak (pv 0) au)) (aO (aU (K:=K) rfl) (by rfl) Bt.fX dI (ak (pv 5) au)) (bD _)) (qH (iT (gG (bx jX (hr.mono (by decide)) (by rfl) (ak (eZ cX ao.cls (hr.mono (by decide)) (pv 0)) (ak (pv 4) au)))))))) (aH (aX iM)) bQ)
   (aC (vG (i:=6) rfl oO.nd rfl (Or.inl rfl) (N:=["hand","recorder"]) (own:=["hand"]) (caps:=[0]) (bf.of (by kernel_rfl)) (dJ (by rfl) Bt.fD (ak (pv 3) au)) (fun _ _ _ _=>(bw (i:=0) (show List.Nodup (["hand","recorder"]:List Str) by decide +kernel) rfl (Or.inl rfl))) (fun _ _ _ _=>eN) (fun _ _ _ _=>(Cm iY ao.cls (hr.mono (by decide)) (pv 1) (ak (pv 0) au))))
   (aC (dN (iT (gG (bx jX (hr.mono (by decide)) (by rfl) (ak (pv 6) (ak (bx Qi (hr.mono (by decide)) (by rfl) (ak (pv 1) (ak (aR (cH (K:=K) rfl) (pv 2) aF (fun _ _=>rfl)) (ak (pv 3) au)))) au))))) (aH (aX iM)) bQ)
   (aH (aX (bx jX (hr.mono (by decide)) (by rfl) (ak (eZ dF ao.cls (hr.mono (by decide)) (pv 0)) (ak (pv 5) au)))))))))), ?_⟩
  have lt:(ws.take n).length=n:=by rw [List.length_take];omega
  obtain ⟨v8,hv8,dv8⟩:=id W;have vl8:v8.length=n:=by rw [dv8.length,List.length_map,lt]
  refine ⟨_,rfl,hn,rfl,by omega,by omega,fun D hD=> ?_⟩;refine o8 (fun (h:Nat)=>some (V.int (cnt (ws.take n) (0+(h:Int))))) hD (by omega) (fun h H9 G F hh s9 kG kF=> ?_) (fun H9 s9 e9=> ?_)
  ·refine ⟨_,rfl,w,rfl,⟨_,bA.of (s9 _ _ hv8)⟩,fun D2 hD2=> ?_⟩
   refine sE (K:=K) (fun i=>((ws.take n)[i]?).bind fun x=>if decide (x.1=0+(h:Int)) then v8[i]? else none) hD2 (bA.of (s9 _ _ hv8)) (by omega) (fun i v Ju G F hi QV kG kF=> ?_) (fun Ju QV e10=> ?_)
   ·obtain ⟨dd,ed,dy⟩:=dv8.get hi
    rw [List.getElem?_map] at ed;cases ex:(ws.take n)[i]? with
    | none=>rw [ex] at ed;cases ed
    | some x=>
      rw [ex] at ed;cases ed;obtain ⟨t,rfl,ht⟩:=oA dy;refine ⟨_,rfl,_,_,_,_,rfl,rfl,gC.of (QV _ _ (s9 _ _ ht)),rfl,_,rfl,rfl,_,rfl, ?_⟩
      by_cases c:x.1=0+(h:Int)
      ·rw [decide_eq_true (show V.int x.1=V.int (0+(h:Int)) by rw [c])]
       refine iV ?_;exact ⟨_,rfl,kF _ Ju (Same.refl _) (by rw [ex];simp [c,hi])⟩
      ·rw [decide_eq_false (show ¬V.int x.1=V.int (0+(h:Int)) from fun q=>c (by injection q))]
       refine gb ?_;exact kG Ju (Same.refl _) (by rw [ex,Option.bind_some,decide_eq_false c];rfl)
   have dD:=DW (H:=Ju) (fun x=>decide (x.1=0+(h:Int))) (aL.keep (s9.trans QV).tups _ (cj _ uq _) dv8);have lD:=dD.length;rw [List.length_map] at lD;refine ⟨D2,_,rfl,.inl (bA.of e10), ?_⟩;rw [lD];exact kF _ Ju QV rfl
  have e9':H9 D=some (.lst ((uz (ws.take n) hn).map V.int)):=by
   rw [e9];refine congrArg (fun z=>some (HO.lst z)) ?_
   have e0:(fun h:Nat=>some (V.int (cnt (ws.take n) (0+(h:Int)))))=fun h:Nat=>some (V.int (cnt (ws.take n) (h:Int))):=by
    funext h;rw [Int.zero_add]
   unfold uz;rw [e0,List.map_map,←List.filterMap_eq_map];rfl
  obtain ⟨MP,Yx,rl2,rq2⟩:=id (L2.same (jP _) s9);dsimp only [gM];refine ⟨_,rfl,_,_,_,_,rfl,rfl,gC.of (s9 _ _ hp),rfl,_,rfl,w,v8,rfl,.inl (bA.of (s9 _ _ hv8)),_,rfl,t2,_,rfl,bA.of Yx,fun b0 hb0=> ?_⟩;rw [vl8];have ect:j4 (MP.map V.ref) none (some (n:Int))=(MP.take n).map V.ref:=by rw [xU,List.map_take]
  have sb:=aD (o:=HO.lst (j4 (MP.map V.ref) none (some (n:Int)))) hb0
  have Lb:bN (upd H9 b0 (.lst (j4 (MP.map V.ref) none (some (n:Int))))) b0 [] n (NtC fun j=>bC ws j (cL ws j j)):=by
   refine ⟨MP.take n,by rw [aq,ect],by rw [List.length_take];omega,fun j r' hj=>⟨fun _ z=>absurd z (by simp), ?_⟩⟩
   have hj':MP[j]? = some r':=by
    rw [List.getElem?_take] at hj;split at hj
    ·exact hj
    ·cases hj
   obtain ⟨_,ns,N,pp,_⟩:=rq2 _ r' hj';exact ⟨ns,N.same sb,pp⟩
  generalize (upd H9 b0 (.lst (j4 (MP.map V.ref) none (some (n:Int)))))=H3 at sb Lb ⊢;have al:=sV ws n;have al2:n*n<=300*300:=Nat.mul_le_mul (by omega) (by omega);refine ⟨b0,n,_,rfl,Lb,by omega,by show (jk ws n).length<=100000;omega,fun f ns H4 hf N4 p4 sr4 s4=> ?_⟩;have p4':ns.Perm (jk (ws.take n) (ws.take n).length):=by rw [lt,Li nl];exact p4
  have S4:Same H H4:=(s9.trans sb).trans s4;have e4:=s4 _ _ (sb _ _ e9')
  have nsl:ns.length<=90000:=by
   rw [p4.length_eq];have:((List.range n).flatMap fun j=>bC ws j (cL ws j j)).length=(jk ws n).length:=rfl;omega
  clear Lb s4 sb ect rq2 rl2 Yx hb0 e9 e9' p4;obtain ⟨vsf,hf4,df4⟩:=id N4;have vfl:vsf.length=ns.length:=by rw [df4.length,List.length_map]
  have r4:=r.same S4;have cl:=sH (ws.take n) hn;refine ⟨_,rfl,R.o,R.dx,_,rfl,r4.o,⟨R,ws.take n,hn,rfl,r4,_,rfl,by omega,by rw [←p4'.length_eq];omega, ?_⟩⟩;refine ⟨_,rfl,f,_,rfl,.inl (bA.of hf4),rfl,_,rfl, ?_⟩;rw [vfl,←p4'.length_eq,show (!decide (V.int (ns.length:Int)=V.int (ns.length:Int)))=false by simp];refine gb ?_;refine ⟨_,rfl,R.o,R.dx,_,rfl,r4.o,rfl,R,ws.take n,hn,rfl,r4,h8,fun c1 H5 hc1 e5 s5=> ?_⟩;have e5':H5 c1=some (.lst ((uz (ws.take n) hn).map V.int)):=e5;refine ⟨_,rfl,_,_,_,rfl,oE e5',oE (s5 _ _ e4),zO.up (zO.up (zO.up (Iu (by omega)))),fun H6 s6=> ?_⟩;refine ⟨_,rfl,gb ?_⟩;unfold HY;dsimp only [gM];have S6:=(S4.trans s5).trans s6;have r6:=r.same S6;refine ⟨_,rfl,_,rfl,by omega,by omega,fun Dl hDl=> ?_⟩;rw [Int.toNat_natCast];refine iW (lo:=0) (n:=hn) (fun i σ Hc=>∃(v:Option V) (ls:List Addr),σ=[v,some (.ref R.o)]/\ls.length=i/\Same H6 Hc/\Hc Dl=some (.lst (ls.map V.ref)) /\ ∀(h:Nat) (l:Addr),ls[h]? = some l->l≠Dl /\ ∃g:Int->Int,Hc l=some (.lst (((List.range hn).map fun i:Nat=>g (i:Int)).map V.int))/\KnL (ws.take n) (h:Int) g) ⟨none,[],rfl,rfl,aD hDl,aq,fun h l e=>by simp at e⟩ ?_ ?_
  ·rintro i σ Hc hi ⟨v,ls,rfl,ll,sc,eD,hq⟩
   dsimp only [gM,JK];rw [if_pos rfl,Int.zero_add];have rcc:=r6.same sc;refine ⟨_,rfl,R.o,R.dx,_,rfl,rcc.o,rfl,_,rfl,R,ws.take n,hn,(i:Int),rfl,rcc,h8,fun z=>absurd ⟨by omega,by omega⟩ z,fun _ _ l g Hd hl e1 kl sd=> ?_⟩;have nl:l≠Dl:=(aB eD hl).symm;have em:(List.range hn).map (fun i:Nat=>V.int (g (i:Int)))=((List.range hn).map fun i:Nat=>g (i:Int)).map V.int:=by rw [List.map_map];rfl
   rw [em] at e1;refine ⟨_,sd _ _ eD,by rw [List.length_map,sizeLine_eq];omega,_,ls++[l],rfl,by simp [ll],(sc.trans sd).newly hDl,by rw [aq,List.map_append];rfl,fun h l' h1=> ?_⟩
   have lh:h<ls.length\/h=ls.length:=by
    have:=(List.getElem?_eq_some_iff.mp h1).1;simp at this;omega
   rcases lh with lh|lh
   ·rw [List.getElem?_append_left lh] at h1
    obtain ⟨n1,g',e,q'⟩:=hq h l' h1;exact ⟨n1,g',by rw [aN n1];exact sd _ _ e,q'⟩
   ·subst lh
    rw [List.getElem?_append_right (Nat.le_refl _)] at h1;simp at h1;subst h1;exact ⟨nl,g,by rw [aN nl];exact e1,by rw [ll];exact kl⟩
  rintro σ H7 ⟨v,ls,rfl,ll,s7,eD,hq⟩;have S7:=S6.trans s7;refine ⟨_,rfl,_,rfl,_,rfl,_,_,_,_,rfl,rfl,gC.of (S7 _ _ hp),rfl,_,rfl,w,t1,ws,hn,n,rfl,W.same S7,Fb,L1.same (gK _ _) S7,nl,wl,h8,fun kn H8 hkn LK s8=> ?_⟩;obtain ⟨rs,hrs,rl,rq⟩:=LK;have lrs:ls.length=(rs.map (Cd H8)).length:=by rw [List.length_map];omega
  have Xx:∀(h:Nat) (rh:Addr),rs[h]? = some rh->H8 rh=some (.lst ((Cd H8 rh).map V.int))/\(Cd H8 rh).length=hn:=fun h rh e=>by
   obtain ⟨_,a,ha,al,_⟩:=rq h rh e;rw [Ij ha];exact ⟨ha,al⟩
  have D1:Dat H8 (.ref Dl) (.list ((rs.map (Cd H8)).map lD)):=dX (s8 _ _ eD) (qN ls _ lrs fun i l a h1 h2=>by
   rw [List.getElem?_map] at h2;cases e:rs[i]? with
   | none=>rw [e] at h2;cases h2
   | some rh=>
     rw [e] at h2;cases h2;obtain ⟨_,g,e1,kl⟩:=hq i l h1;obtain ⟨_,DC⟩:=rq i rh e;have er:=KH DC kl;have em:(List.range hn).map (fun i:Nat=>V.int (g (i:Int)))=((List.range hn).map fun i:Nat=>g (i:Int)).map V.int:=by rw [List.map_map];rfl
     rw [em] at er;rw [Ij er];exact s8 _ _ e1)
  have D2:Dat H8 (.ref kn) (.list ((rs.map (Cd H8)).map lD)):=dX hrs (qN rs _ (by rw [List.length_map]) fun i l a h1 h2=>by
   rw [List.getElem?_map,h1] at h2;cases h2;exact (Xx i l h1).1)
  have P5:zO 5 (.list ((rs.map (Cd H8)).map lD)):=by
   refine ⟨by rw [List.length_map,List.length_map];omega,fun dd hdd=> ?_⟩;obtain ⟨a,ha,rfl⟩:=List.mem_map.mp hdd;obtain ⟨rh,hrh,rfl⟩:=List.mem_map.mp ha;obtain ⟨i,ei⟩:=List.getElem?_of_mem hrh;exact zO.up (zO.up (Iu (by rw [(Xx i rh ei).2];omega)))
  refine ⟨_,_,_,rfl,D1,D2,P5,fun H9 s9=>⟨_,rfl,gb ?_⟩⟩;dsimp only;have s49:=((s5.trans s6).trans s7).trans (s8.trans s9);have S9:=S4.trans s49;have r9:=r.same S9;refine ⟨_,rfl,R.o,R.dx,_,rfl,r9.o,rfl,R,ws.take n,hn,rfl,r9,fun l1 ns1 Ju hl1 N1 p1 sr1 QV=> ?_⟩;have e1:ns1=ns:=lu (p1.trans p4'.symm) sr1 sr4;subst e1;obtain ⟨va,ha,da⟩:=id N1;obtain ⟨vb,hb,db⟩:=id (N4.same (s49.trans QV));exact ⟨_,rfl,_,_,_,rfl,dX ha da,dX hb db,zO.up (zO.up (X7 ns1 (by omega))),fun Xb WQ=>k Xb ((S9.trans QV).trans WQ)⟩
def Wv (C:Addr) (R:Rc) (w p t1 t2:Addr) (ws:List bK) (hn n:Nat) (H:Hp):Prop:=RcAt C H R (ws.take n) hn/\gn H w (ws.take n)/\H p=some (.tup [.ref t1,.ref t2])/\bN H t1 [] ws.length (RowC ws hn)/\bN H t2 [] ws.length (WK ws)
def Fy (C:Addr) (K:PySem.W.Frag):Sp:=fun vs H Q _=>∃(R:Rc) (r b w p t1 t2:Addr) (ws:List bK) (hn n m:Nat),vs=[.ref r,.ref R.o,.ref w,.ref p,.int hn]/\bU H r b m/\m<540000000000/\(∀H',Kp r H H'->Wv C R w p t1 t2 ws hn n H')/\(∀x∈ws,mY (hn:Int) x)/\n<=ws.length/\ws.length<=300/\1<=hn/\hn<=8 /\ ∀H',bU H' r b (m+6)->Kp r H H'->Q (.bl true) H'
theorem Rq {aj:Addr} {f:Addr} {fd:FuncData} (F:jZ K "_law_refused_so" "_law_refused_so" cO f fd) (ao:cg K aj) (b_:FnAt P w K mg base 2 "_law_draw" ["bag","many"] (nJ K)) (Bk:FnAt P w K mg base 3 "_law_none" ["bag","hands"] (rE K)) (qX:FnAt P w K mg base 1 "_law_classes" ["found"] (oM K)) (HF:FnAt P w K mg base 5 "_law_refused" ["recorder","door","hand","cell"] (nF aj K)) (Qh:FnAt P w K mg base 7 "_law_stays" ["recorder","touches","table","hands"] (tO aj K)) (jy:MethAt P w K mg base 4 aj "twin" ["self"] (vB aj K)) (sX:MethAt P w K mg base 2 aj "__eq__" ["self","other"] (MF aj K)) (jW:MethAt P w K mg base 4 aj "__str__" ["self"] (Fz aj K)) (Bt:qY mg):cu P w K mg base jY 8 f fd ["bag","recorder","touches","table","hands"] (Fy aj K):=by
 refine F.ok dU (fun vs H Q E h=> ?_) (fun cdv A outer s H vs Q E hr h=> ?_)
 ·obtain ⟨R,r,b,w,p,t1,t2,ws,hn,n,m,rfl,_⟩:=h
  rfl
 ·obtain ⟨R,r,b,w,p,t1,t2,ws,hn,n,m,rfl,B,mb,KK,Fb,nl,wl,hn1,h8,k⟩:=h
  refine ⟨_,(aC (aW (i:=5) dU.nd rfl (Or.inl rfl) (bx b_ (hr.mono (by decide)) (by rfl) (ak (pv 0) (ak aF au))))
   (aC (aW (i:=6) dU.nd rfl (Or.inl rfl) (bx Bk (hr.mono (by decide)) (by rfl) (ak (pv 0) (ak (pv 4) au))))
   (aC (aW (i:=7) dU.nd rfl (Or.inl rfl) (bx b_ (hr.mono (by decide)) (by rfl) (ak (pv 0) (ak aF au))))
   (aC (aW (i:=8) dU.nd rfl (Or.inl rfl) (eZ jy ao.cls (hr.mono (by decide)) (pv 1)))
   (aC (mz PassesOwn.never rfl (dJ (by rfl) Bt.fD (ak aF au)) (bw (i:=9) dU.nd rfl (Or.inl rfl))
   (aH (dN (iT (gG (bx qX (hr.mono (by decide)) (by rfl) (ak (bx HF (hr.mono (by decide)) (by rfl) (ak (pv 1) (ak (pv 5) (ak (pv 6) (ak (pv 7) au))))) au)))) (aH (aX iM)) bQ)))
   (aC (dN (PW.pt (wG (iT (bY (Vo sX (hr.mono (by decide))) (pv 1) (pv 8) (bD _))) (qH (bY k_ (dW (zG jW (hr.mono (by decide))) (by rfl) Bt.El yg (ak (pv 1) au)) (dW (zG jW (hr.mono (by decide))) (by rfl) Bt.El yg (ak (pv 8) au)) (bD _))))) (aH (aX iM)) bQ)
   (aH (aX (bx Qh (hr.mono (by decide)) (by rfl) (ak (pv 1) (ak (pv 2) (ak (pv 3) (ak (pv 4) au))))))))))))), ?_⟩
  have lt:(ws.take n).length=n:=by rw [List.length_take];omega
  have Xd:∀x∈ws.take n,mY (hn:Int) x:=fun x hx=>Fb x (List.mem_of_mem_take hx)
  have Lk:∀x∈ws.take n,0<=x.1/\x.1<8:=fun x hx=>by
   obtain ⟨⟨a0,a1⟩,_⟩:=Xd x hx;exact ⟨a0,by omega⟩
  refine ⟨_,rfl,r,b,4,m,rfl,B,by omega,by decide,by decide,fun door H1 d0 d1 B1 k1=> ?_⟩;refine ⟨_,rfl,_,rfl,r,b,m+1,hn,rfl,B1,by omega,by omega,fun hh H2 hin B2 k2=> ?_⟩;refine ⟨_,rfl,r,b,20,m+1+4,rfl,B2,by omega,by decide,by decide,fun cl H3 c0 c1 B3 k3=> ?_⟩;have K3:Kp r H H3:=(k1.trans k2).trans k3;obtain ⟨door,rfl⟩:=Int.eq_ofNat_of_zero_le d0;obtain ⟨r3,W3,hp3,L13,L23⟩:=KK H3 K3;refine ⟨_,rfl,R.o,R.dx,_,rfl,r3.o,rfl,R,ws.take n,hn,rfl,r3,hn1,h8,fun R' H4 r4' _ _ _ s4=> ?_⟩;dsimp only [gM];refine jA (fun σ H5=>∃x9:Option V,σ=[some (.ref r),some (.ref R.o),some (.ref w),some (.ref p),some (.int hn),some (.int door),some (.int hh),some (.int cl),some (.ref R'.o),x9]/\Same H4 H5) (fun D hD _=> ?_) ?_
  ·refine ⟨_,rfl,by decide,by decide, ?_⟩
   refine ux (lo:=0) (n:=(2:Int).toNat) (fun i σ H5=>∃x9:Option V,σ=[some (.ref r),some (.ref R.o),some (.ref w),some (.ref p),some (.int hn),some (.int door),some (.int hh),some (.int cl),some (.ref R'.o),x9]/\Same H4 H5) ⟨none,rfl,Same.refl _⟩ ?_ (fun σ H5 q=>hD _ _ q);rintro i σ H5 hi ⟨x9,rfl,s5⟩;have r5:=r3.same (s4.trans s5);refine ⟨_,rfl,_,rfl,_,rfl,_,rfl,R,ws.take n,hn,door,hh,cl,rfl,r5,Lk,h8,by omega,hin,fun l H6 hl e6 s6=> ?_⟩;refine ⟨l,Qs,rfl,e6,by decide,fun H7 s7=> ?_⟩;rw [decide_eq_true rfl];exact ⟨_,rfl,gb ⟨_,rfl,(s5.trans s6).trans s7⟩⟩
  rintro σ H5 ⟨x9,rfl,s5⟩;have S5:Same H3 H5:=s4.trans s5;have r5:=r3.same S5;have r5':=r4'.same s5;have hlen:(ws.take n).length<=300:=by omega
  have Hok:∀ns:List Nt,ns.Perm (jk (ws.take n) (ws.take n).length)->uI ((List.range hn).map fun h:Nat=>cnt (ws.take n) (h:Int)) ns:=fun ns q=>Vd Xd h8 hlen q;refine ⟨_,rfl,_,rfl,R.o,R'.o,R.dx,R'.dx,_,_,rfl,rfl,r5.o,r5'.o,R,R',ws.take n,ws.take n,hn,hn,rfl,r5,r5',h8,h8,fun z=>absurd rfl z,fun _ ns ns' H6 p6 sr6 p6' abG s6=> ?_⟩;have e6:ns=ns':=lu (p6.trans p6'.symm) sr6 abG;subst e6;rw [decide_eq_true rfl];refine ⟨_,rfl,_,rfl,gb ?_⟩;have r6:=r5.same s6;refine ⟨_,rfl,R.o,R.dx,_,rfl,r6.o,R,ws.take n,hn,rfl,r6,h8,Hok,fun ns1 H7 p7 sr7 s7=>⟨_,rfl, ?_⟩⟩;have r7:=r5'.same (s6.trans s7);refine ⟨_,rfl,R'.o,R'.dx,_,rfl,r7.o,R',ws.take n,hn,rfl,r7,h8,Hok,fun ns2 H8 p8 sr8 s8=>⟨_,rfl, ?_⟩⟩;have e8:ns2=ns1:=lu (p8.trans p7.symm) sr8 sr7;subst e8;have S8:Same H3 H8:=((S5.trans s6).trans s7).trans s8;refine ⟨rfl,_,rfl, ?_⟩;rw [decide_eq_true rfl];refine gb ?_;dsimp only;refine ⟨_,rfl,_,rfl,_,rfl,_,rfl,R,w,p,t1,t2,ws,hn,n,rfl,r3.same S8,W3.same S8,Fb,S8 _ _ hp3,L13.same (gK _ _) S8,L23.same (jP _) S8,nl,wl,h8,fun H9 s9=> ?_⟩;exact k H9 (B3.keep (S8.trans s9)) (K3.trans (Kp.of_same (S8.trans s9)))
structure Ti (H5:Hp) (R:Rc) (r b:Addr):Prop where
 fp:∀x∈R.fp,H5 x=none
 pl:H5 R.pl=none
 er:∃u,H5 r=some u
 eb:∃u,H5 b=some u
structure Ep (C:Addr) (H5 H:Hp) (R:Rc) (r b:Addr) (m:Nat) (ws:List bK) (hn j:Nat):Prop where
 kp:Kp r H5 H
 bag:bU H r b m
 rc:RcAt C H R (ws.take j) hn
section
variable {C:Addr} {H5 H H':Hp} {R:Rc} {r b:Addr} {m:Nat} {ws:List bK} {hn j:Nat}
theorem Ti.rfp (S:Ti H5 R r b):r∉R.fp/\b∉R.fp/\R.pl≠r:=by
 obtain ⟨u,e⟩:=S.er;obtain ⟨v,e'⟩:=S.eb;exact ⟨fun q=>(by rw [S.fp _ q] at e;cases e),fun q=>(by rw [S.fp _ q] at e';cases e'),(aB e S.pl).symm⟩
theorem Ep.rcx (S:Ti H5 R r b) (L:Ep C H5 H R r b m ws hn j) (k:Kp r H H'):RcAt C H' R (ws.take j) hn:=by
 obtain ⟨ys,hr⟩:=L.bag.lst;exact L.rc.kp k hr S.rfp.1 S.rfp.2.2
theorem Ep.go (S:Ti H5 R r b) (L:Ep C H5 H R r b m ws hn j) {m':Nat} (k:Kp r H H') (B:bU H' r b m'):Ep C H5 H' R r b m' ws hn j:=⟨L.kp.trans k,B,L.rcx S k⟩
theorem Ep.same (L:Ep C H5 H R r b m ws hn j) (k:Same H H'):Ep C H5 H' R r b m ws hn j:=⟨L.kp.trans (Kp.of_same k),L.bag.keep k,L.rc.same k⟩
theorem Ep.did (S:Ti H5 R r b) (L:Ep C H5 H R r b m ws hn j) {j':Nat} (h:RcAt C H' R (ws.take j') hn) (k:KpL R.fp H H'):Ep C H5 H' R r b m ws hn j':=
 ⟨fun x u e n=>k _ _ (L.kp _ _ e n) (fun q=>by rw [S.fp _ q] at e;cases e),L.bag.kpl R.fp k S.rfp.1 S.rfp.2.1,h⟩
theorem Ep.free (L:Ep C H5 H R r b m ws hn j) {x:Addr} (h:H x=none):H5 x=none:=Kp.new L.kp h L.bag.at
end
def Ie (K:PySem.W.Frag):Sp:=fun vs H Q _=>∃(a:Addr) (ns:List Int),vs=[.ref a]/\bA K H a (ns.map V.int)/\ns.length<=63 /\ ∀H',Q (.bl true) H'
theorem Vr {aj aG:Addr} {f:Addr} {fd:FuncData} (F:jZ K "law" "law" rK f fd) (ao:cg K aj) (Ww:FnAt P w K mg base 1 "_law_bag" ["script"] (MJ K)) (b_:FnAt P w K mg base 2 "_law_draw" ["bag","many"] (nJ K)) (Bk:FnAt P w K mg base 3 "_law_none" ["bag","hands"] (rE K)) (Jy:FnAt P w K mg base 4 "_law_made" ["many"] (wk K)) (qX:FnAt P w K mg base 1 "_law_classes" ["found"] (oM K)) (Qj:FnAt P w K mg base 3 "_law_hands" ["bag"] (zY K)) (HD:FnAt P w K mg base 4 "_law_touches" ["bag","hands"] (tM K)) (Qg:FnAt P w K mg base 1 "_law_table" ["touches","hands"] (wu K)) (jU:Bh P w K mg base 2 aj "Recorder" ["self","hands"] [] (fun vs H Q _=>rD aj aG K vs H Q fun _ _ _=>False)) (jV:MethAt P w K mg base 4 aj "did" ["self","hand","kind","cell"] (fun vs H Q _=>Ig aj aG K vs H Q fun _ _ _=>False)) (jy:MethAt P w K mg base 4 aj "twin" ["self"] (vB aj K)) (yZ:FnAt P w K mg base 8 "_law_refused_so" ["bag","recorder","touches","table","hands"] (Fy aj K)) (jX:FnAt P w K mg base 6 "_law_alike" ["found","due"] (h_ 5 K)) (Bt:qY mg):cu P w K mg base jY 9 f fd ["script"] (Ie K):=by
 refine F.ok fY (fun vs H Q E h=> ?_) (fun cdv A outer s H vs Q E hr h=> ?_)
 ·obtain ⟨a,ns,rfl,_⟩:=h
  rfl
 ·obtain ⟨sa,sns,rfl,hS,hlen,k⟩:=h
  have jh:=hr.units
  refine ⟨_,(aC (aW (i:=1) fY.nd rfl (Or.inr rfl) (bx Ww (hr.mono (by decide)) (by rfl) (ak (pv 0) au)))
   (aC (aW (i:=2) fY.nd rfl (Or.inl rfl) (bB fu (bx b_ (hr.mono (by decide)) (by rfl) (ak (pv 1) (ak aF au))) aF))
   (aC (dN (bY mW (bx b_ (hr.mono (by decide)) (by rfl) (ak (pv 1) (ak aF au))) aF (bD _)) (aH (aW (i:=2) fY.nd rfl (Or.inl rfl) (bx Bk (hr.mono (by decide)) (by rfl) (ak (pv 1) (ak aF au))))) bQ)
   (aC (dN (bY uM (pv 2) aF (bD _)) (aH (aW (i:=2) fY.nd rfl (Or.inl rfl) (bB fu (pv 2) aF))) bQ)
   (aC (aW (i:=3) fY.nd rfl (Or.inl rfl) (nU (eO X_ (pv 2) aF (bD _)) (mG (eO uM (pv 2) aF (bD _)))))
   (aC (dN (PW.pt (wG (bY k_ (pv 3) (eO (vM (K:=K) rfl jh) (bx Jy (hr.mono (by decide)) (by rfl) (ak (pv 2) au)) (bO au) (bD _)) (bD _)) (qH (PW.pt (z_ (iT (gG (pv 3))) (vD (iT (gG (bx qX (hr.mono (by decide)) (by rfl) (ak (bx Jy (hr.mono (by decide)) (by rfl) (ak (pv 2) au)) au)))))))))) (aH (aX iM)) bQ)
   (aC (aW (i:=4) fY.nd rfl (Or.inl rfl) (bx Qj (hr.mono (by decide)) (by rfl) (ak (pv 1) au)))
   (aC (aW (i:=5) fY.nd rfl (Or.inr rfl) (bx HD (hr.mono (by decide)) (by rfl) (ak (pv 1) (ak (pv 4) au))))
   (aC (aW (i:=6) fY.nd rfl (Or.inl rfl) (bx Qg (hr.mono (by decide)) (by rfl) (ak (pv 5) (ak (pv 4) au))))
   (aC (vG (i:=7) rfl fY.nd rfl (Or.inl rfl) (N:=["turn","bag","touches"]) (own:=["turn"]) (caps:=[1,5]) (bf.of (by kernel_rfl)) (dJ (by rfl) Bt.fD (ak aF au)) (fun _ _ _ _=>(bw (i:=0) (show List.Nodup (["turn","bag","touches"]:List Str) by decide +kernel) rfl (Or.inl rfl))) (fun _ _ _ _=>eN) (fun _ _ _ _=>(bx b_ (hr.mono (by decide)) (by rfl) (ak (pv 1) (ak (bB fu (aO (aU (K:=K) rfl) (by rfl) Bt.fX dI (ak (pv 2) au)) aF) au)))))
   (aC (aW (i:=8) fY.nd rfl (Or.inl rfl) (Cp jU (hr.mono (by decide)) (by rfl) (ak (pv 4) au)))
   (aC (mz PassesOwn.never rfl (dJ (by rfl) Bt.fD (ak (bB fu (aO (aU (K:=K) rfl) (by rfl) Bt.fX dI (ak (pv 5) au)) aF) au)) (bw (i:=9) fY.nd rfl (Or.inl rfl))
   (aC (dN (bY (Gh (K:=K) rfl) (pv 9) (pv 7) (by with_unfolding_all rfl)) (aC (dN (bY mW (bx b_ (hr.mono (by decide)) (by rfl) (ak (pv 1) (ak aF au))) aF (bD _)) (aH (aW (i:=8) fY.nd rfl (Or.inl rfl) (eZ jy ao.cls (hr.mono (by decide)) (pv 8)))) bQ)
   (aH (dN (iT (gG (bx yZ (hr.mono (by decide)) (by rfl) (ak (pv 1) (ak (pv 8) (ak (rO (BK (K:=K) rfl) (pv 5) vI (vH (pv 9))) (ak (pv 6) (ak (pv 4) au)))))))) (aH (aX iM)) bQ))) bQ)
   (aH (dN (bY uM (pv 9) (aO (aU (K:=K) rfl) (by rfl) Bt.fX dI (ak (pv 5) au)) (bD _)) (aC (mF (aR (aM (K:=K) rfl) (pv 5) (pv 9) (fun _ _=>rfl)) (vK (K:=K) (n:=3) rfl rfl (fO (bw (i:=10) fY.nd rfl (Or.inl rfl)) (fO (bw (i:=11) fY.nd rfl (Or.inl rfl)) (fO (bw (i:=12) fY.nd rfl (Or.inl rfl)) vJ)))))
   (aH (dN (iT (gG (bx jX (hr.mono (by decide)) (by rfl) (ak (Cm jV ao.cls (hr.mono (by decide)) (pv 8) (ak (pv 10) (ak (pv 11) (ak (pv 12) au)))) (ak (aR (aM (K:=K) rfl) (aR (cH (K:=K) rfl) (pv 6) aF (fun _ _=>rfl)) (pv 9) (fun _ _=>rfl)) au))))) (aH (aX iM)) bQ))) bQ))))
   (aH (aX iM)))))))))))))), ?_⟩
  refine ⟨_,rfl,sa,sns,rfl,hS,hlen,fun r b H1 hr1 hb1 B1 sm1=> ?_⟩;refine ⟨_,rfl,r,b,8,0,rfl,B1,by decide,by decide,by decide,fun m0 H2 m00 m01 B2 k2=> ?_⟩;refine ⟨_,_,rfl,rfl, ?_⟩;dsimp only;refine jA (fun σ Hx=>∃(z:Int),σ=[some (.ref sa),some (.ref r),some (.int z),none,none,none,none,none,none,none,none,none,none]/\bU Hx r b 6) (fun D hD _=> ?_) ?_
  ·refine ⟨_,rfl,r,b,2,1,rfl,B2,by decide,by decide,by decide,fun z2 H3 z20 z21 B3 k3=>⟨rfl,_,rfl, ?_⟩⟩
   refine pC (fun _=> ?_) (fun _=>hD _ _ ⟨_,rfl,B3.mono (by decide)⟩);exact ⟨_,rfl,r,b,2,9,rfl,B3,by decide,by decide,fun z H4 _ B4 _=>hD _ _ ⟨z,rfl,B4⟩⟩
  rintro σ Hx ⟨z,rfl,Bx⟩;refine jA (fun σ Hy=>∃(z:Int),σ=[some (.ref sa),some (.ref r),some (.int z),none,none,none,none,none,none,none,none,none,none]/\bU Hy r b 6) (fun D hD _=> ?_) ?_
  ·refine ⟨_,rfl,_,_,rfl,rfl,_,rfl, ?_⟩
   refine pC (fun _=> ?_) (fun _=>hD _ _ ⟨_,rfl,Bx⟩);exact ⟨_,rfl,_,_,rfl,rfl,hD _ _ ⟨_,rfl,Bx⟩⟩
  rintro σ Hy ⟨z,rfl,By⟩;clear Bx Hx B1 B2 k2 sm1 hr1 hb1 hS;refine jA (fun σ Hz=>∃(g:Bool),σ=[some (.ref sa),some (.ref r),some (.int z),some (.bl g),none,none,none,none,none,none,none,none,none]/\g=decide (1<=z/\z<=8)/\bU Hz r b 6) (fun D hD _=> ?_) ?_
  ·refine ⟨_,rfl,_,_,rfl,rfl,_,rfl, ?_⟩
   by_cases q1:0<z
   ·rw [decide_eq_true q1,if_pos rfl]
    refine ⟨_,rfl,_,_,rfl,rfl,hD _ _ ⟨_,rfl, ?_,By⟩⟩
    by_cases q2:z<9
    ·rw [decide_eq_true q2,decide_eq_true ⟨by omega,by omega⟩]
    ·rw [decide_eq_false q2,decide_eq_false fun q=>by omega]
   ·rw [decide_eq_false q1,if_neg Bool.false_ne_true]
    exact hD _ _ ⟨_,rfl,by rw [decide_eq_false fun q=>by omega],By⟩
  rintro σ Hz ⟨g,rfl,eg,Bz⟩;clear By Hy;refine jA (fun σ Hy=>σ=[some (.ref sa),some (.ref r),some (.int z),some (.bl g),none,none,none,none,none,none,none,none,none]/\bU Hy r b 6) (fun D hD rt=> ?_) ?_
  ·have two:∀{l l2:Addr} {H' Tq:Hp} {bs:List Bool},H' l=some (.lst (bs.map V.bl))->Tq=upd H' l2 (.lst [])->H' l2=none->Dat Tq (.ref l) (.list (bs.map PyData.bool))/\Dat Tq (.ref l2) (.list (([]:List Bool).map PyData.bool)):=fun {l l2 H' Tq bs} e1 e2 e3=>by
    subst e2;exact ⟨dX ((aD e3) _ _ e1) (aL.bools _),dX aq (aL.bools [])⟩
   by_cases hz:1<=z/\z<=8
   ·rw [decide_eq_true hz] at eg
    subst eg;refine ⟨_,rfl,_,rfl,z,rfl,fun _ _ l H' hl el sl=> ?_,fun q=>absurd hz q⟩;refine ⟨(by show 0<=sizeLine;decide),fun l2 hl2=> ?_⟩;obtain ⟨D1,D2⟩:=two el rfl hl2;refine ⟨_,_,D1,D2,fQ _,fQ _, ?_⟩;rw [if_neg Bool.false_ne_true,ou PyData.bool xO];refine ⟨rfl,_,rfl, ?_⟩;rw [show (!decide (V.bl true=V.bl (decide (([]:List Bool)=[]))))=false from by rw [decide_eq_true (show V.bl true=V.bl (decide (([]:List Bool)=[])) from by rw [decide_eq_true rfl])];rfl];dsimp only;rw [if_neg Bool.false_ne_true];refine ⟨_,rfl,_,rfl,gb ?_⟩;refine gb ?_;exact hD _ _ ⟨rfl,Bz.keep (sl.trans (aD hl2))⟩
   ·rw [decide_eq_false hz] at eg
    subst eg;refine ⟨_,rfl,_,rfl,z,rfl,fun q1 q2=>absurd ⟨q1,q2⟩ hz,fun _ l H' hl el sl=> ?_⟩;refine ⟨(by show 0<=sizeLine;decide),fun l2 hl2=> ?_⟩;obtain ⟨D1,D2⟩:=two el rfl hl2;refine ⟨_,_,D1,D2,fQ _,fQ _, ?_⟩;rw [if_neg Bool.false_ne_true,ou PyData.bool xO];refine ⟨rfl,_,rfl, ?_⟩;rw [show (!decide (V.bl false=V.bl (decide (Qs=[]))))=false from by rw [decide_eq_true (show V.bl false=V.bl (decide (Qs=[])) from by rw [decide_eq_false (by unfold Qs;intro z;cases z)])];rfl];dsimp only;rw [if_neg Bool.false_ne_true];refine ⟨_,rfl,_,rfl,iV ?_⟩;have S1:=sl.trans (aD (o:=HO.lst []) hl2);generalize (upd H' l2 (HO.lst []))=H2 at S1 ⊢;refine ⟨_,rfl,z,rfl,fun q1 q2=>absurd ⟨q1,q2⟩ hz,fun _ l3 H3 hl3 el3 sl3=> ?_⟩;refine ⟨l3,Qs,rfl,el3,by decide,fun H4 s4=> ?_⟩;rw [decide_eq_true rfl];exact ⟨_,rfl,gb (hD _ _ ⟨rfl,Bz.keep ((S1.trans sl3).trans s4)⟩)⟩
  rintro σ Hy ⟨rfl,By⟩;clear Bz Hz;refine ⟨_,rfl,r,b,6,rfl,By,by decide,fun hn H3 hn0 hn1 B3 k3=> ?_⟩;refine ⟨_,rfl,_,rfl,r,b,_,hn,rfl,B3,by decide,hn0,hn1,fun w ws H4 hw0 W Fb wl B4 k4=> ?_⟩;obtain ⟨hn,rfl⟩:=Int.eq_ofNat_of_zero_le (show 0<=hn by omega);have tok:=Mu Fb hn1;have Lk:∀x∈ws,0<=x.1/\x.1<8:=fun x hx=>(tok x hx).1;refine ⟨_,rfl,_,rfl,w,hn,ws,rfl,W,Fb,hn0,hn1,wl,fun p t1 t2 H5 vO L1 L2 ft1 ft2 s5=> ?_⟩;rw [Int.toNat_natCast] at L1;have W5:=W.same s5;have B5:bU H5 r b 100000:=(B4.keep s5).mono (by omega);obtain ⟨o4,xq⟩:=B4.at;obtain ⟨o3,Ul⟩:=B3.at;have nwr:w≠r:=(aB Ul hw0).symm;have nt1:t1≠r:=(aB xq ft1).symm;have nt2:t2≠r:=(aB xq ft2).symm
  have eb5:∃u,H5 b=some u:=by
   obtain ⟨_,_,_,_,_,_,e,_⟩:=B5;exact ⟨_,e⟩
  have tps:∀Hc,Kp r H5 Hc -> ∀a xs,H5 a=some (HO.tup xs)->Hc a=some (HO.tup xs):=fun Hc kc=>B5.tups kc
  have L1x:∀Hc,Kp r H5 Hc->bN Hc t1 [] ws.length (RowC ws hn):=fun Hc kc=>by
   obtain ⟨rs,e,l,q⟩:=L1;obtain ⟨bns,i1,f1,c1,t1',e1,_⟩:=B5;refine ⟨rs,kc _ _ e nt1,l,fun jj r1 hj=> ?_⟩;obtain ⟨_,a,ha,rh⟩:=q jj r1 hj
   have n1:r1≠r:=fun z=>by
    rw [z,e1] at ha;have:=HO.lst.inj (Option.some.inj ha);cases a with
    | nil=>cases this
    | cons y ys=>cases this
   exact ⟨fun _ z=>absurd z (by simp),a,kc _ _ ha n1,rh⟩
  have L2x:∀Hc,Kp r H5 Hc->bN Hc t2 [] ws.length (WK ws):=fun Hc kc=>by
   obtain ⟨rs,e,l,q⟩:=L2;obtain ⟨bns,i1,f1,c1,t1',e1,_⟩:=id B5;refine ⟨rs,kc _ _ e nt2,l,fun jj r1 hj=> ?_⟩;obtain ⟨_,nn,⟨us,hus,dus⟩,q2⟩:=q jj r1 hj
   have n1:r1≠r:=fun z=>by
    rw [z,e1] at hus;have e2:=HO.lst.inj (Option.some.inj hus);obtain ⟨y,t,_,ev,_⟩:=Ad dus (i:=1) (v:= .int i1) (by rw [←e2];rfl);cases ev
   exact ⟨fun _ z=>absurd z (by simp),nn,⟨us,kc _ _ hus n1,aL.keep (tps Hc kc) _ (cj _ jQ _) dus⟩,q2⟩
  have Wx:∀Hc,Kp r H5 Hc->gn Hc w ws:=fun Hc kc=>by
   obtain ⟨ys,e⟩:=B5.lst;exact W5.kp e kc nwr
  clear L1 L2 ft1 ft2 xq Ul o4 o3 k3 k4 B3 B4 By;refine ⟨_,rfl,by decide,by decide,fun D hD=> ?_⟩;refine G_ (n:=(3:Int).toNat) (fun _ _=>True) hD B5 (by decide) (fun i Hi F hi kI BI kF=> ?_) (fun H6 zs zl _ ez k6 B6=> ?_)
  ·obtain ⟨vi,hvi,dvi⟩:=id (Wx _ kI)
   have vli:vi.length=ws.length:=by rw [dvi.length,List.length_map]
   have hi:i<3:=hi;exact ⟨_,rfl,_,rfl,w,vi,rfl,.inl (bA.of hvi),_,_,rfl,rfl,r,b,_,_,rfl,BI,by omega,by omega,by omega,fun y H' _ _ B' k'=>kF y H' True.intro k' B'⟩
  dsimp only [gM];have zl3:zs.length=3:=zl;have RG:D≠r:=(B5.ne hD).1;refine ⟨_,rfl,fun o dx ho hdx Ud=> ?_⟩;have s6:Same H6 (upd (upd H6 dx (.own o)) o (.ins aj dx [])):=(aD hdx).trans (aD (by rw [aN (Ne.symm Ud)];exact ho));refine ⟨o,dx,hn,rfl,aq,fun z=>absurd ⟨hn0,hn1⟩ z,fun _ _ R H7 ero RC fr YF k7=>⟨rfl, ?_⟩⟩;rw [Int.toNat_natCast] at RC;have s7:Same H6 H7:=fun c u e=>k7 _ _ (s6 _ _ e) (aB e ho);have fr6:∀c∈R.fp,H6 c=none:=fun c m=>s6.free (fr c m);have YD:H6 R.pl=none:=s6.free YF;generalize (upd (upd H6 dx (.own o)) o (.ins aj dx []))=H6' at *;subst ero
  have eb6:∃u,H6 b=some u:=by
   obtain ⟨_,_,_,_,_,_,e,_⟩:=B6;exact ⟨_,e⟩
  have B6':bU H6 r b 200000:=B6.mono (by show 100000+3<=200000;decide);have St:Ti H6 R r b:=⟨fr6,YD,B6.at,eb6⟩;have L0:Ep aj H6 H7 R r b 200000 ws hn 0:=⟨Kp.of_same s7,B6'.keep s7,by rw [List.take_zero];exact RC⟩;have X6:∀{Hc:Hp},Kp r H6 Hc->Kp r H5 Hc:=fun kc=>Kp.trans k6 kc;obtain ⟨v7,W2,dv7⟩:=id (Wx _ (X6 L0.kp));have vl7:v7.length=ws.length:=by rw [dv7.length,List.length_map]
  clear s6 fr YF k7 ho hdx Ud;refine ⟨_,rfl,w,v7,rfl,.inl (bA.of W2),_,_,rfl,rfl,_,rfl,by omega,by omega, ?_⟩;rw [vl7];rw [show ((ws.length:Int)+1).toNat=ws.length+1 by omega]
  refine ux (lo:=0) (n:=ws.length+1) (fun j σ Hc=>∃(x9 x10 x11 x12:Option V) (m:Nat) (R:Rc),σ=[some (.ref sa),some (.ref r),some (.int z),some (.bl g),some (.int hn),some (.ref w),some (.ref p),some (.ref D),some (.ref R.o),x9,x10,x11,x12]/\m<=200000+10*j/\Ti H6 R r b/\Ep aj H6 Hc R r b m ws hn (min j ws.length))
   ⟨none,none,none,none,_,R,rfl,Nat.le_refl _,St,by rw [Nat.zero_min];exact L0⟩ ?_ (fun σ Hc _=> ?_)
  ·clear L0 St RC fr6 YD
   rintro j σ Hc hj ⟨x9,x10,x11,x12,m,R,rfl,mb,S,L⟩;rw [Int.zero_add];have jl:j<=ws.length:=by omega
   rw [Nat.min_eq_left jl] at L;dsimp only [gM];refine jA (fun σ Hd=>∃(m':Nat) (R:Rc),σ=[some (.ref sa),some (.ref r),some (.int z),some (.bl g),some (.int hn),some (.ref w),some (.ref p),some (.ref D),some (.ref R.o),some (.int j),x10,x11,x12]/\m'<=m+10/\Ti H6 R r b/\Ep aj H6 Hd R r b m' ws hn j) (fun D2 hD2 rt2=> ?_) ?_
   ·refine ⟨_,rfl,_,rfl,D,_,rfl,.inl (bA.of (L.kp _ _ ez RG)),rfl, ?_,_,rfl, ?_⟩
    ·rw [List.all_eq_true]
     intro x hx;obtain ⟨y,_,rfl⟩:=List.mem_map.mp hx;rfl
    refine pC (fun _=> ?_) (fun _=>hD2 _ _ ⟨m,R,rfl,by omega,S,L⟩);refine jA (fun σ Hd=>∃(m':Nat) (R:Rc),σ=[some (.ref sa),some (.ref r),some (.int z),some (.bl g),some (.int hn),some (.ref w),some (.ref p),some (.ref D),some (.ref R.o),some (.int j),x10,x11,x12]/\m'<=m+1/\Ti H6 R r b/\Ep aj H6 Hd R r b m' ws hn j) (fun D3 hD3 rt3=> ?_) ?_
    ·refine ⟨_,rfl,r,b,2,m,rfl,L.bag,by omega,by decide,by decide,fun y Ha _ _ Ba ka=>⟨rfl,_,rfl, ?_⟩⟩
     have La:=L.go S ka Ba;refine pC (fun _=> ?_) (fun _=>hD3 _ _ ⟨m+1,R,rfl,by omega,S,La⟩);refine ⟨_,rfl,R.o,R.dx,_,rfl,La.rc.o,rfl,R,ws.take j,hn,rfl,La.rc,by omega,by omega,fun R' Hb rb ff fp' _ sb=> ?_⟩;exact hD3 _ _ ⟨m+1,R',rfl,by omega,⟨fun x hx=>La.free (ff x hx),La.free fp',S.er,S.eb⟩,⟨La.kp.trans (Kp.of_same sb),La.bag.keep sb,rb⟩⟩
    rintro σ Hd ⟨m',R',rfl,mb',S',L'⟩;obtain ⟨vd,hvd,dvd⟩:=id (Wx _ (X6 L'.kp));refine ⟨_,rfl,_,rfl,_,rfl,_,rfl,_,rfl,w,vd,rfl,bA.of hvd,fun sp hsp=> ?_⟩;have ssp:=aD (o:=HO.lst (j4 vd none (some (j:Int)))) hsp;have ect:j4 vd none (some (j:Int))=vd.take j:=xU vd j
    have WT:gn (upd Hd sp (HO.lst (j4 vd none (some (j:Int))))) sp (ws.take j):=by
     refine ⟨vd.take j,by rw [aq,ect], ?_⟩;rw [List.map_take];exact (aL.keep ssp.tups _ (cj _ uq _) dvd).take j
    have nsr:=(L'.bag.ne hsp).1;have Le:=L'.same ssp;generalize (upd Hd sp (HO.lst (j4 vd none (some (j:Int)))))=He at ssp WT Le ⊢;obtain ⟨yse,RZ⟩:=Le.bag.lst;refine ⟨_,rfl,_,rfl,R',r,b,sp,p,t1,t2,ws,hn,j,m',rfl,Le.bag,by omega,fun Hf kf=> ?_,Fb,jl,wl,by omega,by omega,fun Hf Bf kf=> ?_⟩
    ·have kk:=X6 (Le.kp.trans kf)
     exact ⟨Le.rcx S' kf,WT.kp RZ kf nsr,tps _ kk _ _ vO,L1x _ kk,L2x _ kk⟩
    ·exact ⟨_,rfl,gb (hD2 _ _ ⟨_,R',rfl,by omega,S',Le.go S' kf Bf⟩)⟩
   rintro σ Hd ⟨m',R,rfl,mb',S,L⟩;obtain ⟨vsd,hvd,dvd⟩:=id (Wx _ (X6 L.kp));have vld:vsd.length=ws.length:=by rw [dvd.length,List.length_map]
   refine ⟨_,rfl,_,rfl,w,vsd,rfl,.inl (bA.of hvd),_,_,rfl,rfl,_,rfl, ?_⟩;rw [vld];refine pC (fun q=> ?_) (fun q=> ?_)
   ·have jlt:j<ws.length:=by have:=of_decide_eq_true q;omega
    obtain ⟨x,ex⟩:∃x,ws[j]? = some x:=⟨_,List.getElem?_eq_getElem jlt⟩;obtain ⟨vs',t,hv',et,ht⟩:=qZ (Wx _ (X6 L.kp)) ex;have xin:=Fb x (List.mem_of_getElem? ex);have lt:(ws.take j).length=j:=by rw [List.length_take];omega
    refine ⟨_,rfl,_,rfl,_,_,_,_,rfl,rfl,bA.of hv',bZ et,t,_,rfl,gC.of ht,rfl,_,_,rfl,_,_,rfl,_,_,rfl,rfl, ?_⟩;refine ⟨_,rfl,R.o,R.dx,_,rfl,L.rc.o,rfl,_,rfl,_,rfl,_,rfl,R,ws.take j,hn,x.1,x.2.2,x.2.1,rfl,L.rc,fun _=>by omega,fun y hy=>Lk y (List.mem_of_mem_take hy),by omega,fun z=>absurd xin.1 z,fun _ _ fl ns2 He hf0 NN pp ss R9 k9=> ?_⟩;rw [show ws.take j++[(x.1,x.2.1,x.2.2)]=ws.take (j+1) from take_snoc ex] at pp R9;rw [lt,Oc jlt] at pp;have Lf:=L.did S R9 k9;have kf:=X6 Lf.kp;obtain ⟨rs,hrs,rl,rq⟩:=L2x _ kf;obtain ⟨br,ebr⟩:∃br,rs[j]? = some br:=⟨_,List.getElem?_eq_getElem (by omega)⟩;obtain ⟨_,ns3,N2,p2,ss2⟩:=rq j br ebr;have e2:ns3=ns2:=lu (p2.trans pp.symm) ss2 ss;subst e2;obtain ⟨fv,hfv,dfv⟩:=id NN;obtain ⟨bv,hbv,dbv⟩:=id N2
    have nl:ns3.length<=300:=by
     rw [pp.length_eq];have:=j7 ws j (cL ws j j);have:=lB ws j j;omega
    refine ⟨_,rfl,_,_,_,_,rfl,rfl,gC.of (tps _ kf _ _ vO),rfl,_,rfl,_,_,_,_,rfl,rfl,bA.of hrs,bZ (by rw [List.getElem?_map,ebr];rfl),_,_,_,rfl,dX hfv dfv,dX hbv dbv,zO.up (zO.up (X7 ns3 (by omega))),fun Ju QV=>⟨_,rfl,gb ?_⟩⟩;exact ⟨_,_,_,_,m',R,rfl,by omega,S,by rw [Nat.min_eq_left (by omega)];exact Lf.same QV⟩
   ·have jeq:j=ws.length:=by
     have:¬(j:Int)<ws.length:=fun z=>q (decide_eq_true z);omega
    exact ⟨_,_,_,_,m',R,rfl,by omega,S,by rw [Nat.min_eq_right (by omega),←jeq];exact L⟩
  exact k _
end
theorem len0 {us:List Value} (h:us.length=0):us=[]:=List.eq_nil_of_length_eq_zero h
theorem bI {us:List Value} {n:Nat} (h:us.length=n+1):∃a vs,us=a::vs/\vs.length=n:=by
 cases us with
 | nil=>cases h
 | cons a t=>exact ⟨a,t,rfl,Nat.succ.inj h⟩
theorem Tc (kV doc pm:Value) (an:Option Addr) (cdv ct:Value) (us:List Value) (hl:us.length=(["script"]:List Str).length):bindArgs (PySem.W.fnOf "_law_bag" "_law_bag" (aK mj) (aJ mj) (aA mj) .none kV doc pm an cdv ct) ⟨us,[]⟩=pure ((["script"]:List Str).zip us):=by obtain ⟨_,_,rfl,h1⟩:=bI hl;cases len0 h1;rfl
theorem PB (kV doc pm:Value) (an:Option Addr) (cdv ct:Value) (us:List Value) (hl:us.length=(["number","place"]:List Str).length):bindArgs (PySem.W.fnOf "_law_stir" "_law_stir" (aK jC) (aJ jC) (aA jC) .none kV doc pm an cdv ct) ⟨us,[]⟩=pure ((["number","place"]:List Str).zip us):=by obtain ⟨_,_,rfl,h1⟩:=bI hl;obtain ⟨_,_,rfl,h2⟩:=bI h1;cases len0 h2;rfl
theorem PN (kV doc pm:Value) (an:Option Addr) (cdv ct:Value) (us:List Value) (hl:us.length=(["bag","many"]:List Str).length):bindArgs (PySem.W.fnOf "_law_draw" "_law_draw" (aK jG) (aJ jG) (aA jG) .none kV doc pm an cdv ct) ⟨us,[]⟩=pure ((["bag","many"]:List Str).zip us):=by obtain ⟨_,_,rfl,h1⟩:=bI hl;obtain ⟨_,_,rfl,h2⟩:=bI h1;cases len0 h2;rfl
theorem Lh (kV doc pm:Value) (an:Option Addr) (cdv ct:Value) (us:List Value) (hl:us.length=(["bag"]:List Str).length):bindArgs (PySem.W.fnOf "_law_hands" "_law_hands" (aK iB) (aJ iB) (aA iB) .none kV doc pm an cdv ct) ⟨us,[]⟩=pure ((["bag"]:List Str).zip us):=by obtain ⟨_,_,rfl,h1⟩:=bI hl;cases len0 h1;rfl
theorem K9 (kV doc pm:Value) (an:Option Addr) (cdv ct:Value) (us:List Value) (hl:us.length=(["bag","hands","cells","loads","apart"]:List Str).length):bindArgs (PySem.W.fnOf "_law_touch" "_law_touch" (aK iu) (aJ iu) (aA iu) .none kV doc pm an cdv ct) ⟨us,[]⟩=pure ((["bag","hands","cells","loads","apart"]:List Str).zip us):=by obtain ⟨_,_,rfl,h1⟩:=bI hl;obtain ⟨_,_,rfl,h2⟩:=bI h1;obtain ⟨_,_,rfl,h3⟩:=bI h2;obtain ⟨_,_,rfl,h4⟩:=bI h3;obtain ⟨_,_,rfl,h5⟩:=bI h4;cases len0 h5;rfl
theorem Ei (kV doc pm:Value) (an:Option Addr) (cdv ct:Value) (us:List Value) (hl:us.length=(["bag","hands"]:List Str).length):bindArgs (PySem.W.fnOf "_law_touches" "_law_touches" (aK d_) (aJ d_) (aA d_) .none kV doc pm an cdv ct) ⟨us,[]⟩=pure ((["bag","hands"]:List Str).zip us):=by obtain ⟨_,_,rfl,h1⟩:=bI hl;obtain ⟨_,_,rfl,h2⟩:=bI h1;cases len0 h2;rfl
theorem vm (kV doc pm:Value) (an:Option Addr) (cdv ct:Value) (us:List Value) (hl:us.length=(["one","other"]:List Str).length):bindArgs (PySem.W.fnOf "touches_meet" "touches_meet" (aK cF) (aJ cF) (aA cF) .none kV doc pm an cdv ct) ⟨us,[]⟩=pure ((["one","other"]:List Str).zip us):=by obtain ⟨_,_,rfl,h1⟩:=bI hl;obtain ⟨_,_,rfl,h2⟩:=bI h1;cases len0 h2;rfl
theorem Hq (kV doc pm:Value) (an:Option Addr) (cdv ct:Value) (us:List Value) (hl:us.length=(["web","place","later"]:List Str).length):bindArgs (PySem.W.fnOf "is_step" "is_step" (aK fU) (aJ fU) (aA fU) .none kV doc pm an cdv ct) ⟨us,[]⟩=pure ((["web","place","later"]:List Str).zip us):=by obtain ⟨_,_,rfl,h1⟩:=bI hl;obtain ⟨_,_,rfl,h2⟩:=bI h1;obtain ⟨_,_,rfl,h3⟩:=bI h2;cases len0 h3;rfl
theorem Ef (kV doc pm:Value) (an:Option Addr) (cdv ct:Value) (us:List Value) (hl:us.length=(["name","known"]:List Str).length):bindArgs (PySem.W.fnOf "is_known" "is_known" (aK d8) (aJ d8) (aA d8) .none kV doc pm an cdv ct) ⟨us,[]⟩=pure ((["name","known"]:List Str).zip us):=by obtain ⟨_,_,rfl,h1⟩:=bI hl;obtain ⟨_,_,rfl,h2⟩:=bI h1;cases len0 h2;rfl
theorem Pz (kV doc pm:Value) (an:Option Addr) (cdv ct:Value) (us:List Value) (hl:us.length=(["known","more"]:List Str).length):bindArgs (PySem.W.fnOf "learn" "learn" (aK jB) (aJ jB) (aA jB) .none kV doc pm an cdv ct) ⟨us,[]⟩=pure ((["known","more"]:List Str).zip us):=by obtain ⟨_,_,rfl,h1⟩:=bI hl;obtain ⟨_,_,rfl,h2⟩:=bI h1;cases len0 h2;rfl
theorem yW (kV doc pm:Value) (an:Option Addr) (cdv ct:Value) (us:List Value) (hl:us.length=(["web","named","knowns","place"]:List Str).length):bindArgs (PySem.W.fnOf "bare_steps" "bare_steps" (aK dz) (aJ dz) (aA dz) .none kV doc pm an cdv ct) ⟨us,[]⟩=pure ((["web","named","knowns","place"]:List Str).zip us):=by obtain ⟨_,_,rfl,h1⟩:=bI hl;obtain ⟨_,_,rfl,h2⟩:=bI h1;obtain ⟨_,_,rfl,h3⟩:=bI h2;obtain ⟨_,_,rfl,h4⟩:=bI h3;cases len0 h4;rfl
theorem Ec (kV doc pm:Value) (an:Option Addr) (cdv ct:Value) (us:List Value) (hl:us.length=(["named","bare","name"]:List Str).length):bindArgs (PySem.W.fnOf "notes_to" "notes_to" (aK dZ) (aJ dZ) (aA dZ) .none kV doc pm an cdv ct) ⟨us,[]⟩=pure ((["named","bare","name"]:List Str).zip us):=by obtain ⟨_,_,rfl,h1⟩:=bI hl;obtain ⟨_,_,rfl,h2⟩:=bI h1;obtain ⟨_,_,rfl,h3⟩:=bI h2;cases len0 h3;rfl
theorem K_ (kV doc pm:Value) (an:Option Addr) (cdv ct:Value) (us:List Value) (hl:us.length=(["touches","hands"]:List Str).length):bindArgs (PySem.W.fnOf "_law_table" "_law_table" (aK iw) (aJ iw) (aA iw) .none kV doc pm an cdv ct) ⟨us,[]⟩=pure ((["touches","hands"]:List Str).zip us):=by obtain ⟨_,_,rfl,h1⟩:=bI hl;obtain ⟨_,_,rfl,h2⟩:=bI h1;cases len0 h2;rfl
theorem Ed (kV doc pm:Value) (an:Option Addr) (cdv ct:Value) (us:List Value) (hl:us.length=(["value"]:List Str).length):bindArgs (PySem.W.fnOf "is_whole" "is_whole" (aK d7) (aJ d7) (aA d7) .none kV doc pm an cdv ct) ⟨us,[]⟩=pure ((["value"]:List Str).zip us):=by obtain ⟨_,_,rfl,h1⟩:=bI hl;cases len0 h1;rfl
theorem Eh (kV doc pm:Value) (an:Option Addr) (cdv ct:Value) (us:List Value) (hl:us.length=(["value","count"]:List Str).length):bindArgs (PySem.W.fnOf "is_below" "is_below" (aK d9) (aJ d9) (aA d9) .none kV doc pm an cdv ct) ⟨us,[]⟩=pure ((["value","count"]:List Str).zip us):=by obtain ⟨_,_,rfl,h1⟩:=bI hl;obtain ⟨_,_,rfl,h2⟩:=bI h1;cases len0 h2;rfl
theorem yV (kV doc pm:Value) (an:Option Addr) (cdv ct:Value) (us:List Value) (hl:us.length=(["places","hand"]:List Str).length):bindArgs (PySem.W.fnOf "check_hand" "check_hand" (aK dj) (aJ dj) (aA dj) .none kV doc pm an cdv ct) ⟨us,[]⟩=pure ((["places","hand"]:List Str).zip us):=by obtain ⟨_,_,rfl,h1⟩:=bI hl;obtain ⟨_,_,rfl,h2⟩:=bI h1;cases len0 h2;rfl
theorem uG (kV doc pm:Value) (an:Option Addr) (cdv ct:Value) (us:List Value) (hl:us.length=(["self","hands"]:List Str).length):bindArgs (PySem.W.fnOf "__init__" "Recorder.__init__" (aK cB) (aJ cB) (aA cB) .none kV doc pm an cdv ct) ⟨us,[]⟩=pure ((["self","hands"]:List Str).zip us):=by obtain ⟨_,_,rfl,h1⟩:=bI hl;obtain ⟨_,_,rfl,h2⟩:=bI h1;cases len0 h2;rfl
theorem vo (kV doc pm:Value) (an:Option Addr) (cdv ct:Value) (us:List Value) (hl:us.length=(["self","hand","kind","cell"]:List Str).length):bindArgs (PySem.W.fnOf "did" "Recorder.did" (aK cG) (aJ cG) (aA cG) .none kV doc pm an cdv ct) ⟨us,[]⟩=pure ((["self","hand","kind","cell"]:List Str).zip us):=by obtain ⟨_,_,rfl,h1⟩:=bI hl;obtain ⟨_,_,rfl,h2⟩:=bI h1;obtain ⟨_,_,rfl,h3⟩:=bI h2;obtain ⟨_,_,rfl,h4⟩:=bI h3;cases len0 h4;rfl
theorem sI (kV doc pm:Value) (an:Option Addr) (cdv ct:Value) (us:List Value) (hl:us.length=(["self"]:List Str).length):bindArgs (PySem.W.fnOf "notes" "Recorder.notes" (aK bV) (aJ bV) (aA bV) .none kV doc pm an cdv ct) ⟨us,[]⟩=pure ((["self"]:List Str).zip us):=by obtain ⟨_,_,rfl,h1⟩:=bI hl;cases len0 h1;rfl
theorem sJ (kV doc pm:Value) (an:Option Addr) (cdv ct:Value) (us:List Value) (hl:us.length=(["self","hand"]:List Str).length):bindArgs (PySem.W.fnOf "known" "Recorder.known" (aK bW) (aJ bW) (aA bW) .none kV doc pm an cdv ct) ⟨us,[]⟩=pure ((["self","hand"]:List Str).zip us):=by obtain ⟨_,_,rfl,h1⟩:=bI hl;obtain ⟨_,_,rfl,h2⟩:=bI h1;cases len0 h2;rfl
theorem qO (kV doc pm:Value) (an:Option Addr) (cdv ct:Value) (us:List Value) (hl:us.length=(["self"]:List Str).length):bindArgs (PySem.W.fnOf "counts" "Recorder.counts" (aK bL) (aJ bL) (aA bL) .none kV doc pm an cdv ct) ⟨us,[]⟩=pure ((["self"]:List Str).zip us):=by obtain ⟨_,_,rfl,h1⟩:=bI hl;cases len0 h1;rfl
theorem pK (kV doc pm:Value) (an:Option Addr) (cdv ct:Value) (us:List Value) (hl:us.length=(["self"]:List Str).length):bindArgs (PySem.W.fnOf "__len__" "Recorder.__len__" (aK bG) (aJ bG) (aA bG) .none kV doc pm an cdv ct) ⟨us,[]⟩=pure ((["self"]:List Str).zip us):=by obtain ⟨_,_,rfl,h1⟩:=bI hl;cases len0 h1;rfl
theorem yU (kV doc pm:Value) (an:Option Addr) (cdv ct:Value) (us:List Value) (hl:us.length=(["touch"]:List Str).length):bindArgs (PySem.W.fnOf "touch_text" "touch_text" (aK dh) (aJ dh) (aA dh) .none kV doc pm an cdv ct) ⟨us,[]⟩=pure ((["touch"]:List Str).zip us):=by obtain ⟨_,_,rfl,h1⟩:=bI hl;cases len0 h1;rfl
theorem Az (kV doc pm:Value) (an:Option Addr) (cdv ct:Value) (us:List Value) (hl:us.length=(["note"]:List Str).length):bindArgs (PySem.W.fnOf "note_text" "note_text" (aK dM) (aJ dM) (aA dM) .none kV doc pm an cdv ct) ⟨us,[]⟩=pure ((["note"]:List Str).zip us):=by obtain ⟨_,_,rfl,h1⟩:=bI hl;cases len0 h1;rfl
theorem yh (kV doc pm:Value) (an:Option Addr) (cdv ct:Value) (us:List Value) (hl:us.length=(["record"]:List Str).length):bindArgs (PySem.W.fnOf "record_text" "record_text" (aK cN) (aJ cN) (aA cN) .none kV doc pm an cdv ct) ⟨us,[]⟩=pure ((["record"]:List Str).zip us):=by obtain ⟨_,_,rfl,h1⟩:=bI hl;cases len0 h1;rfl
theorem pJ (kV doc pm:Value) (an:Option Addr) (cdv ct:Value) (us:List Value) (hl:us.length=(["self"]:List Str).length):bindArgs (PySem.W.fnOf "__str__" "Recorder.__str__" (aK bF) (aJ bF) (aA bF) .none kV doc pm an cdv ct) ⟨us,[]⟩=pure ((["self"]:List Str).zip us):=by obtain ⟨_,_,rfl,h1⟩:=bI hl;cases len0 h1;rfl
theorem uF (kV doc pm:Value) (an:Option Addr) (cdv ct:Value) (us:List Value) (hl:us.length=(["self"]:List Str).length):bindArgs (PySem.W.fnOf "twin" "Recorder.twin" (aK cA) (aJ cA) (aA cA) .none kV doc pm an cdv ct) ⟨us,[]⟩=pure ((["self"]:List Str).zip us):=by obtain ⟨_,_,rfl,h1⟩:=bI hl;cases len0 h1;rfl
theorem qP (kV doc pm:Value) (an:Option Addr) (cdv ct:Value) (us:List Value) (hl:us.length=(["self","other"]:List Str).length):bindArgs (PySem.W.fnOf "__eq__" "Recorder.__eq__" (aK bM) (aJ bM) (aA bM) .none kV doc pm an cdv ct) ⟨us,[]⟩=pure ((["self","other"]:List Str).zip us):=by obtain ⟨_,_,rfl,h1⟩:=bI hl;obtain ⟨_,_,rfl,h2⟩:=bI h1;cases len0 h2;rfl
theorem jM (kV doc pm:Value) (an:Option Addr) (cdv ct:Value) (us:List Value) (hl:us.length=(["found","due"]:List Str).length):bindArgs (PySem.W.fnOf "_law_alike" "_law_alike" (aK gj) (aJ gj) (aA gj) .none kV doc pm an cdv ct) ⟨us,[]⟩=pure ((["found","due"]:List Str).zip us):=by obtain ⟨_,_,rfl,h1⟩:=bI hl;obtain ⟨_,_,rfl,h2⟩:=bI h1;cases len0 h2;rfl
theorem PL (kV doc pm:Value) (an:Option Addr) (cdv ct:Value) (us:List Value) (hl:us.length=(["lists"]:List Str).length):bindArgs (PySem.W.fnOf "_law_flat" "_law_flat" (aK jF) (aJ jF) (aA jF) .none kV doc pm an cdv ct) ⟨us,[]⟩=pure ((["lists"]:List Str).zip us):=by obtain ⟨_,_,rfl,h1⟩:=bI hl;cases len0 h1;rfl
theorem PJ (kV doc pm:Value) (an:Option Addr) (cdv ct:Value) (us:List Value) (hl:us.length=(["bag","hands"]:List Str).length):bindArgs (PySem.W.fnOf "_law_none" "_law_none" (aK jD) (aJ jD) (aA jD) .none kV doc pm an cdv ct) ⟨us,[]⟩=pure ((["bag","hands"]:List Str).zip us):=by obtain ⟨_,_,rfl,h1⟩:=bI hl;obtain ⟨_,_,rfl,h2⟩:=bI h1;cases len0 h2;rfl
theorem Ek (kV doc pm:Value) (an:Option Addr) (cdv ct:Value) (us:List Value) (hl:us.length=(["found"]:List Str).length):bindArgs (PySem.W.fnOf "_law_classes" "_law_classes" (aK eF) (aJ eF) (aA eF) .none kV doc pm an cdv ct) ⟨us,[]⟩=pure ((["found"]:List Str).zip us):=by obtain ⟨_,_,rfl,h1⟩:=bI hl;cases len0 h1;rfl
theorem PK (kV doc pm:Value) (an:Option Addr) (cdv ct:Value) (us:List Value) (hl:us.length=(["many"]:List Str).length):bindArgs (PySem.W.fnOf "_law_made" "_law_made" (aK jE) (aJ jE) (aA jE) .none kV doc pm an cdv ct) ⟨us,[]⟩=pure ((["many"]:List Str).zip us):=by obtain ⟨_,_,rfl,h1⟩:=bI hl;cases len0 h1;rfl
theorem Ej (kV doc pm:Value) (an:Option Addr) (cdv ct:Value) (us:List Value) (hl:us.length=(["recorder","door","hand","cell"]:List Str).length):bindArgs (PySem.W.fnOf "_law_refused" "_law_refused" (aK eE) (aJ eE) (aA eE) .none kV doc pm an cdv ct) ⟨us,[]⟩=pure ((["recorder","door","hand","cell"]:List Str).zip us):=by obtain ⟨_,_,rfl,h1⟩:=bI hl;obtain ⟨_,_,rfl,h2⟩:=bI h1;obtain ⟨_,_,rfl,h3⟩:=bI h2;obtain ⟨_,_,rfl,h4⟩:=bI h3;cases len0 h4;rfl
theorem Lg (kV doc pm:Value) (an:Option Addr) (cdv ct:Value) (us:List Value) (hl:us.length=(["touches","rows","hands"]:List Str).length):bindArgs (PySem.W.fnOf "_law_known" "_law_known" (aK iz) (aJ iz) (aA iz) .none kV doc pm an cdv ct) ⟨us,[]⟩=pure ((["touches","rows","hands"]:List Str).zip us):=by obtain ⟨_,_,rfl,h1⟩:=bI hl;obtain ⟨_,_,rfl,h2⟩:=bI h1;obtain ⟨_,_,rfl,h3⟩:=bI h2;cases len0 h3;rfl
theorem Ld (kV doc pm:Value) (an:Option Addr) (cdv ct:Value) (us:List Value) (hl:us.length=(["recorder","touches","table","hands"]:List Str).length):bindArgs (PySem.W.fnOf "_law_stays" "_law_stays" (aK iy) (aJ iy) (aA iy) .none kV doc pm an cdv ct) ⟨us,[]⟩=pure ((["recorder","touches","table","hands"]:List Str).zip us):=by obtain ⟨_,_,rfl,h1⟩:=bI hl;obtain ⟨_,_,rfl,h2⟩:=bI h1;obtain ⟨_,_,rfl,h3⟩:=bI h2;obtain ⟨_,_,rfl,h4⟩:=bI h3;cases len0 h4;rfl
theorem yj (kV doc pm:Value) (an:Option Addr) (cdv ct:Value) (us:List Value) (hl:us.length=(["bag","recorder","touches","table","hands"]:List Str).length):bindArgs (PySem.W.fnOf "_law_refused_so" "_law_refused_so" (aK cO) (aJ cO) (aA cO) .none kV doc pm an cdv ct) ⟨us,[]⟩=pure ((["bag","recorder","touches","table","hands"]:List Str).zip us):=by obtain ⟨_,_,rfl,h1⟩:=bI hl;obtain ⟨_,_,rfl,h2⟩:=bI h1;obtain ⟨_,_,rfl,h3⟩:=bI h2;obtain ⟨_,_,rfl,h4⟩:=bI h3;obtain ⟨_,_,rfl,h5⟩:=bI h4;cases len0 h5;rfl
theorem all_mk {l:PySem.W.OpenLaw} {w:World} {K:PySem.W.Frag} {h:Heap} {mg:Str->Option Value} {fa f0 f1 f2 f3 f4 f5 f6 f7 f8 f9 YW f11 f12 f13 f14 f15 YT YS YQ YM YL YK f22 f23 f24 YJ YH YG Sh f29 f30 f31 f32 f33 f34 f35 f36 f37 aj aG cT cU cV fP:Addr} (X:K.In h) (G:h.Ns mainGlobals mg) (hfa:mg "law" = some (.ref fa))
 {od0 an0 od1 an1 od2 an2 od3 an3 od4 an4 od5 an5 od6 an6 od7 an7 od8 an8 od9 an9 adt ahc adq ahb adp aha ado ag' adn ag9 adl ag8 adk ag7 adi ag6 adh ag5 adg ag4 adf ag3 ade ag2 adb ag1 ada ag0 ac' agZ ac_ agY ac9 agX ac8 agW ac7 agV ac6 agU ac5 agT ac4 agS ac3 agR ac2 agQ ac1 agP ac0 agO acZ agN acY ZR:Option Addr} {sl0 JM sl2 sl3 sl4 sl5 sl6 sl7 sl8 sl9 ab_ ab9 ab8 ab7 ab6 ab5 ab4 ab3 ab2 ab1 ab0 abZ abY abX abW abV abU abT abS abR abP abO abN abM abL abK abJ abI:Array (Option Value)} {oc0 kV0 dc0 pm0 cd0 ct0 oc1 kV1 dc1 pm1 cd1 ct1 oc2 kV2 dc2 pm2 cd2 ct2 oc3 kV3 dc3 pm3 cd3 ct3 oc4 kV4 dc4 pm4 cd4 ct4 oc5 kV5 dc5 pm5 cd5 ct5 oc6 kV6 dc6 pm6 cd6 ct6 oc7 kV7 dc7 pm7 cd7 ct7 oc8 kV8 dc8 pm8 cd8 ct8 oc9 kV9 dc9 pm9 cd9 ct9 adV ae1 afV acS ZM agm adU ae0 afU acR ZL agl adT aeZ afT acQ ZK agk adS aeY afS acP ZJ agj adR aeX afR acO ZG agi adQ aeW afQ acN ZF agh adP aeV afP acM ZD agg adO aeU afO acL ZC agf adN aeT afN acK Zz agd adM aeS afM acJ Zy agc adL aeR afL acI Zx agb adK aeQ afK acH Zw aga adJ aeP afJ acG Zv af' adI aeO afI acF Zu af_ adH aeN afH acE Zt af9 adG aeM afG acD Zr af8 adF aeL afF acC Zq af7 adE aeK afE acB Zo af6 adD aeJ afD acA Zn af5 adC aeI afC acz Zm af4 adB aeH afB acy Zk af3 adA aeG afA acw Zj af2 adz aeF afz acv Zi af0 ady aeE afy acu Zh afZ adx aeD afx acs Zg afY adw aeC afw acr Zf afX adv aeB afv acq Ze afW adu Yr Y9 X5 Wn Zb:Value}
 (a0:PySem.W.nsIn K mainGlobals "_law_bag" = some (some (.ref f0))) (l0:K.lookup f0=some ⟨oc0,od0,.func (PySem.W.fnOf "_law_bag" "_law_bag" (aK mj) (aJ mj) (aA mj) .none kV0 dc0 pm0 an0 cd0 ct0),sl0⟩) (c0:PySem.W.codeIn K cd0 "_law_bag" = true) (k0:PySem.W.keepIn K (.ref f0)=true)
 (a1:PySem.W.nsIn K mainGlobals "_law_stir" = some (some (.ref f1))) (l1:K.lookup f1=some ⟨oc1,od1,.func (PySem.W.fnOf "_law_stir" "_law_stir" (aK jC) (aJ jC) (aA jC) .none kV1 dc1 pm1 an1 cd1 ct1),JM⟩) (c1:PySem.W.codeIn K cd1 "_law_stir" = true) (k1:PySem.W.keepIn K (.ref f1)=true)
 (a2:PySem.W.nsIn K mainGlobals "_law_draw" = some (some (.ref f2))) (l2:K.lookup f2=some ⟨oc2,od2,.func (PySem.W.fnOf "_law_draw" "_law_draw" (aK jG) (aJ jG) (aA jG) .none kV2 dc2 pm2 an2 cd2 ct2),sl2⟩) (c2:PySem.W.codeIn K cd2 "_law_draw" = true) (k2:PySem.W.keepIn K (.ref f2)=true)
 (a3:PySem.W.nsIn K mainGlobals "_law_hands" = some (some (.ref f3))) (l3:K.lookup f3=some ⟨oc3,od3,.func (PySem.W.fnOf "_law_hands" "_law_hands" (aK iB) (aJ iB) (aA iB) .none kV3 dc3 pm3 an3 cd3 ct3),sl3⟩) (c3:PySem.W.codeIn K cd3 "_law_hands" = true) (k3:PySem.W.keepIn K (.ref f3)=true)
 (a4:PySem.W.nsIn K mainGlobals "_law_touch" = some (some (.ref f4))) (l4:K.lookup f4=some ⟨oc4,od4,.func (PySem.W.fnOf "_law_touch" "_law_touch" (aK iu) (aJ iu) (aA iu) .none kV4 dc4 pm4 an4 cd4 ct4),sl4⟩) (c4:PySem.W.codeIn K cd4 "_law_touch" = true) (k4:PySem.W.keepIn K (.ref f4)=true)
 (a5:PySem.W.nsIn K mainGlobals "_law_touches" = some (some (.ref f5))) (l5:K.lookup f5=some ⟨oc5,od5,.func (PySem.W.fnOf "_law_touches" "_law_touches" (aK d_) (aJ d_) (aA d_) .none kV5 dc5 pm5 an5 cd5 ct5),sl5⟩) (c5:PySem.W.codeIn K cd5 "_law_touches" = true) (k5:PySem.W.keepIn K (.ref f5)=true)
 (a6:PySem.W.nsIn K mainGlobals "touches_meet" = some (some (.ref f6))) (l6:K.lookup f6=some ⟨oc6,od6,.func (PySem.W.fnOf "touches_meet" "touches_meet" (aK cF) (aJ cF) (aA cF) .none kV6 dc6 pm6 an6 cd6 ct6),sl6⟩) (c6:PySem.W.codeIn K cd6 "touches_meet" = true) (k6:PySem.W.keepIn K (.ref f6)=true)
 (a7:PySem.W.nsIn K mainGlobals "is_step" = some (some (.ref f7))) (l7:K.lookup f7=some ⟨oc7,od7,.func (PySem.W.fnOf "is_step" "is_step" (aK fU) (aJ fU) (aA fU) .none kV7 dc7 pm7 an7 cd7 ct7),sl7⟩) (c7:PySem.W.codeIn K cd7 "is_step" = true) (k7:PySem.W.keepIn K (.ref f7)=true)
 (a8:PySem.W.nsIn K mainGlobals "is_known" = some (some (.ref f8))) (l8:K.lookup f8=some ⟨oc8,od8,.func (PySem.W.fnOf "is_known" "is_known" (aK d8) (aJ d8) (aA d8) .none kV8 dc8 pm8 an8 cd8 ct8),sl8⟩) (c8:PySem.W.codeIn K cd8 "is_known" = true) (k8:PySem.W.keepIn K (.ref f8)=true)
 (a9:PySem.W.nsIn K mainGlobals "learn" = some (some (.ref f9))) (l9:K.lookup f9=some ⟨oc9,od9,.func (PySem.W.fnOf "learn" "learn" (aK jB) (aJ jB) (aA jB) .none kV9 dc9 pm9 an9 cd9 ct9),sl9⟩) (c9:PySem.W.codeIn K cd9 "learn" = true) (k9:PySem.W.keepIn K (.ref f9)=true)
 (a10:PySem.W.nsIn K mainGlobals "bare_steps" = some (some (.ref YW))) (l10:K.lookup YW=some ⟨adV,adt,.func (PySem.W.fnOf "bare_steps" "bare_steps" (aK dz) (aJ dz) (aA dz) .none ae1 afV acS ahc ZM agm),ab_⟩) (c10:PySem.W.codeIn K ZM "bare_steps" = true) (k10:PySem.W.keepIn K (.ref YW)=true)
 (a11:PySem.W.nsIn K mainGlobals "notes_to" = some (some (.ref f11))) (l11:K.lookup f11=some ⟨adU,adq,.func (PySem.W.fnOf "notes_to" "notes_to" (aK dZ) (aJ dZ) (aA dZ) .none ae0 afU acR ahb ZL agl),ab9⟩) (c11:PySem.W.codeIn K ZL "notes_to" = true) (k11:PySem.W.keepIn K (.ref f11)=true)
 (a12:PySem.W.nsIn K mainGlobals "_law_table" = some (some (.ref f12))) (l12:K.lookup f12=some ⟨adT,adp,.func (PySem.W.fnOf "_law_table" "_law_table" (aK iw) (aJ iw) (aA iw) .none aeZ afT acQ aha ZK agk),ab8⟩) (c12:PySem.W.codeIn K ZK "_law_table" = true) (k12:PySem.W.keepIn K (.ref f12)=true)
 (a13:PySem.W.nsIn K mainGlobals "is_whole" = some (some (.ref f13))) (l13:K.lookup f13=some ⟨adS,ado,.func (PySem.W.fnOf "is_whole" "is_whole" (aK d7) (aJ d7) (aA d7) .none aeY afS acP ag' ZJ agj),ab7⟩) (c13:PySem.W.codeIn K ZJ "is_whole" = true) (k13:PySem.W.keepIn K (.ref f13)=true)
 (a14:PySem.W.nsIn K mainGlobals "is_below" = some (some (.ref f14))) (l14:K.lookup f14=some ⟨adR,adn,.func (PySem.W.fnOf "is_below" "is_below" (aK d9) (aJ d9) (aA d9) .none aeX afR acO ag9 ZG agi),ab6⟩) (c14:PySem.W.codeIn K ZG "is_below" = true) (k14:PySem.W.keepIn K (.ref f14)=true)
 (a15:PySem.W.nsIn K mainGlobals "check_hand" = some (some (.ref f15))) (l15:K.lookup f15=some ⟨adQ,adl,.func (PySem.W.fnOf "check_hand" "check_hand" (aK dj) (aJ dj) (aA dj) .none aeW afQ acN ag8 ZF agh),ab5⟩) (c15:PySem.W.codeIn K ZF "check_hand" = true) (k15:PySem.W.keepIn K (.ref f15)=true)
 (a16:PySem.W.findIn K (.ref aj) "__init__" = some (some (.ref YT))) (l16:K.lookup YT=some ⟨adP,adk,.func (PySem.W.fnOf "__init__" "Recorder.__init__" (aK cB) (aJ cB) (aA cB) .none aeV afP acM ag7 ZD agg),ab4⟩) (c16:PySem.W.codeIn K ZD "Recorder.__init__" = true) (k16:PySem.W.keepIn K (.ref YT)=true) (n16:PySem.W.isFn K (.ref YT)=true)
 (a17:PySem.W.findIn K (.ref aj) "did" = some (some (.ref YS))) (l17:K.lookup YS=some ⟨adO,adi,.func (PySem.W.fnOf "did" "Recorder.did" (aK cG) (aJ cG) (aA cG) .none aeU afO acL ag6 ZC agf),ab3⟩) (c17:PySem.W.codeIn K ZC "Recorder.did" = true) (k17:PySem.W.keepIn K (.ref YS)=true) (n17:PySem.W.isFn K (.ref YS)=true)
 (a18:PySem.W.findIn K (.ref aj) "notes" = some (some (.ref YQ))) (l18:K.lookup YQ=some ⟨adN,adh,.func (PySem.W.fnOf "notes" "Recorder.notes" (aK bV) (aJ bV) (aA bV) .none aeT afN acK ag5 Zz agd),ab2⟩) (c18:PySem.W.codeIn K Zz "Recorder.notes" = true) (k18:PySem.W.keepIn K (.ref YQ)=true) (n18:PySem.W.isFn K (.ref YQ)=true)
 (a19:PySem.W.findIn K (.ref aj) "known" = some (some (.ref YM))) (l19:K.lookup YM=some ⟨adM,adg,.func (PySem.W.fnOf "known" "Recorder.known" (aK bW) (aJ bW) (aA bW) .none aeS afM acJ ag4 Zy agc),ab1⟩) (c19:PySem.W.codeIn K Zy "Recorder.known" = true) (k19:PySem.W.keepIn K (.ref YM)=true) (n19:PySem.W.isFn K (.ref YM)=true)
 (a20:PySem.W.findIn K (.ref aj) "counts" = some (some (.ref YL))) (l20:K.lookup YL=some ⟨adL,adf,.func (PySem.W.fnOf "counts" "Recorder.counts" (aK bL) (aJ bL) (aA bL) .none aeR afL acI ag3 Zx agb),ab0⟩) (c20:PySem.W.codeIn K Zx "Recorder.counts" = true) (k20:PySem.W.keepIn K (.ref YL)=true) (n20:PySem.W.isFn K (.ref YL)=true)
 (a21:PySem.W.findIn K (.ref aj) "__len__" = some (some (.ref YK))) (l21:K.lookup YK=some ⟨adK,ade,.func (PySem.W.fnOf "__len__" "Recorder.__len__" (aK bG) (aJ bG) (aA bG) .none aeQ afK acH ag2 Zw aga),abZ⟩) (c21:PySem.W.codeIn K Zw "Recorder.__len__" = true) (k21:PySem.W.keepIn K (.ref YK)=true) (n21:PySem.W.isFn K (.ref YK)=true)
 (a22:PySem.W.nsIn K mainGlobals "touch_text" = some (some (.ref f22))) (l22:K.lookup f22=some ⟨adJ,adb,.func (PySem.W.fnOf "touch_text" "touch_text" (aK dh) (aJ dh) (aA dh) .none aeP afJ acG ag1 Zv af'),abY⟩) (c22:PySem.W.codeIn K Zv "touch_text" = true) (k22:PySem.W.keepIn K (.ref f22)=true)
 (a23:PySem.W.nsIn K mainGlobals "note_text" = some (some (.ref f23))) (l23:K.lookup f23=some ⟨adI,ada,.func (PySem.W.fnOf "note_text" "note_text" (aK dM) (aJ dM) (aA dM) .none aeO afI acF ag0 Zu af_),abX⟩) (c23:PySem.W.codeIn K Zu "note_text" = true) (k23:PySem.W.keepIn K (.ref f23)=true)
 (a24:PySem.W.nsIn K mainGlobals "record_text" = some (some (.ref f24))) (l24:K.lookup f24=some ⟨adH,ac',.func (PySem.W.fnOf "record_text" "record_text" (aK cN) (aJ cN) (aA cN) .none aeN afH acE agZ Zt af9),abW⟩) (c24:PySem.W.codeIn K Zt "record_text" = true) (k24:PySem.W.keepIn K (.ref f24)=true)
 (a25:PySem.W.findIn K (.ref aj) "__str__" = some (some (.ref YJ))) (l25:K.lookup YJ=some ⟨adG,ac_,.func (PySem.W.fnOf "__str__" "Recorder.__str__" (aK bF) (aJ bF) (aA bF) .none aeM afG acD agY Zr af8),abV⟩) (c25:PySem.W.codeIn K Zr "Recorder.__str__" = true) (k25:PySem.W.keepIn K (.ref YJ)=true) (n25:PySem.W.isFn K (.ref YJ)=true)
 (a26:PySem.W.findIn K (.ref aj) "twin" = some (some (.ref YH))) (l26:K.lookup YH=some ⟨adF,ac9,.func (PySem.W.fnOf "twin" "Recorder.twin" (aK cA) (aJ cA) (aA cA) .none aeL afF acC agX Zq af7),abU⟩) (c26:PySem.W.codeIn K Zq "Recorder.twin" = true) (k26:PySem.W.keepIn K (.ref YH)=true) (n26:PySem.W.isFn K (.ref YH)=true)
 (a27:PySem.W.findIn K (.ref aj) "__eq__" = some (some (.ref YG))) (l27:K.lookup YG=some ⟨adE,ac8,.func (PySem.W.fnOf "__eq__" "Recorder.__eq__" (aK bM) (aJ bM) (aA bM) .none aeK afE acB agW Zo af6),abT⟩) (c27:PySem.W.codeIn K Zo "Recorder.__eq__" = true) (k27:PySem.W.keepIn K (.ref YG)=true) (n27:PySem.W.isFn K (.ref YG)=true)
 (a28:PySem.W.nsIn K mainGlobals "_law_alike" = some (some (.ref Sh))) (l28:K.lookup Sh=some ⟨adD,ac7,.func (PySem.W.fnOf "_law_alike" "_law_alike" (aK gj) (aJ gj) (aA gj) .none aeJ afD acA agV Zn af5),abS⟩) (c28:PySem.W.codeIn K Zn "_law_alike" = true) (RV:PySem.W.keepIn K (.ref Sh)=true)
 (a29:PySem.W.nsIn K mainGlobals "_law_flat" = some (some (.ref f29))) (l29:K.lookup f29=some ⟨adC,ac6,.func (PySem.W.fnOf "_law_flat" "_law_flat" (aK jF) (aJ jF) (aA jF) .none aeI afC acz agU Zm af4),abR⟩) (c29:PySem.W.codeIn K Zm "_law_flat" = true) (k29:PySem.W.keepIn K (.ref f29)=true)
 (a30:PySem.W.nsIn K mainGlobals "_law_none" = some (some (.ref f30))) (l30:K.lookup f30=some ⟨adB,ac5,.func (PySem.W.fnOf "_law_none" "_law_none" (aK jD) (aJ jD) (aA jD) .none aeH afB acy agT Zk af3),abP⟩) (c30:PySem.W.codeIn K Zk "_law_none" = true) (k30:PySem.W.keepIn K (.ref f30)=true)
 (a31:PySem.W.nsIn K mainGlobals "_law_classes" = some (some (.ref f31))) (l31:K.lookup f31=some ⟨adA,ac4,.func (PySem.W.fnOf "_law_classes" "_law_classes" (aK eF) (aJ eF) (aA eF) .none aeG afA acw agS Zj af2),abO⟩) (c31:PySem.W.codeIn K Zj "_law_classes" = true) (k31:PySem.W.keepIn K (.ref f31)=true)
 (a32:PySem.W.nsIn K mainGlobals "_law_made" = some (some (.ref f32))) (l32:K.lookup f32=some ⟨adz,ac3,.func (PySem.W.fnOf "_law_made" "_law_made" (aK jE) (aJ jE) (aA jE) .none aeF afz acv agR Zi af0),abN⟩) (c32:PySem.W.codeIn K Zi "_law_made" = true) (k32:PySem.W.keepIn K (.ref f32)=true)
 (a33:PySem.W.nsIn K mainGlobals "_law_refused" = some (some (.ref f33))) (l33:K.lookup f33=some ⟨ady,ac2,.func (PySem.W.fnOf "_law_refused" "_law_refused" (aK eE) (aJ eE) (aA eE) .none aeE afy acu agQ Zh afZ),abM⟩) (c33:PySem.W.codeIn K Zh "_law_refused" = true) (k33:PySem.W.keepIn K (.ref f33)=true)
 (a34:PySem.W.nsIn K mainGlobals "_law_known" = some (some (.ref f34))) (l34:K.lookup f34=some ⟨adx,ac1,.func (PySem.W.fnOf "_law_known" "_law_known" (aK iz) (aJ iz) (aA iz) .none aeD afx acs agP Zg afY),abL⟩) (c34:PySem.W.codeIn K Zg "_law_known" = true) (k34:PySem.W.keepIn K (.ref f34)=true)
 (a35:PySem.W.nsIn K mainGlobals "_law_stays" = some (some (.ref f35))) (l35:K.lookup f35=some ⟨adw,ac0,.func (PySem.W.fnOf "_law_stays" "_law_stays" (aK iy) (aJ iy) (aA iy) .none aeC afw acr agO Zf afX),abK⟩) (c35:PySem.W.codeIn K Zf "_law_stays" = true) (k35:PySem.W.keepIn K (.ref f35)=true)
 (a36:PySem.W.nsIn K mainGlobals "_law_refused_so" = some (some (.ref f36))) (l36:K.lookup f36=some ⟨adv,acZ,.func (PySem.W.fnOf "_law_refused_so" "_law_refused_so" (aK cO) (aJ cO) (aA cO) .none aeB afv acq agN Ze afW),abJ⟩) (c36:PySem.W.codeIn K Ze "_law_refused_so" = true) (k36:PySem.W.keepIn K (.ref f36)=true)
 (a37:PySem.W.nsIn K mainGlobals "law" = some (some (.ref f37))) (l37:K.lookup f37=some ⟨adu,acY,.func (PySem.W.fnOf "law" "law" (aK rK) (aJ rK) (aA rK) .none Yr Y9 X5 ZR Wn Zb),abI⟩) (c37:PySem.W.codeIn K Wn "law" = true) (k37:PySem.W.keepIn K (.ref f37)=true)
 (j5:PySem.W.nsIn K mainGlobals "Recorder" = some (some (.ref aj)))
 (lK:PySem.W.plainGet K aj Str.empty=true)
 (lO:PySem.W.hasDictIn K aj=true)
 (lJ:PySem.W.plainOver K aj=true)
 (lH:PySem.W.findIn K (.ref aj) "__setattr__" = some (some (.builtin "object.__setattr__")))
 (lM:PySem.W.makesIn K aj=true)
 (lN:PySem.W.keepIn K (.ref aj)=true)
 (jq:PySem.W.findIn K (.ref aj) "web" = some none)
 (gW:PySem.W.findIn K (.ref aj) "named" = some none)
 (gF:PySem.W.findIn K (.ref aj) "knowns" = some none)
 (gU:PySem.W.findIn K (.ref aj) "taken" = some none)
 (gD:PySem.W.findIn K (.ref aj) "places" = some none)
 (ycg:PySem.W.specialIn K (.builtin "object.__class__") "__get__" = some (some (.builtin "getset_descriptor.__get__")))
 (yct:PySem.W.takesIn K (.builtin "object.__class__")=some true)
 (lV:PySem.W.findIn K (.ref aj) "__class__" = some (some (.builtin "object.__class__")))
 (lU:PySem.W.mroIn K aj (.type "object")=some true)
 (tG:PySem.W.nsIn K mainGlobals "NoHand" = some (some (.ref aG)))
 (lW:(PySem.W.clsIn K aG).isSome=true)
 (qb:PySem.W.typeIn K (.ref aG)=some (.type "type"))
 (qy:PySem.W.subIn K (.ref aG) (.type "BaseException")=some true)
 (lX:PySem.W.nsIn K mainGlobals "NoteError" = some (some (.ref cT)))
 (kJ:(PySem.W.clsIn K cT).isSome=true)
 (kE:PySem.W.typeIn K (.ref cT)=some (.type "type"))
 (kO:PySem.W.subIn K (.ref cT) (.type "BaseException")=some true)
 (tE:PySem.W.nsIn K mainGlobals "NoNote" = some (some (.ref cU)))
 (qt:(PySem.W.clsIn K cU).isSome=true)
 (pZ:PySem.W.typeIn K (.ref cU)=some (.type "type"))
 (qx:PySem.W.subIn K (.ref cU) (.type "BaseException")=some true)
 (tH:PySem.W.nsIn K mainGlobals "NoCell" = some (some (.ref cV)))
 (qu:(PySem.W.clsIn K cV).isSome=true)
 (qd:PySem.W.typeIn K (.ref cV)=some (.type "type"))
 (qz:PySem.W.subIn K (.ref cV) (.type "BaseException")=some true)
 (zR:PySem.W.nsIn K mainGlobals "Over" = some (some (.ref fP)))
 (vW:(PySem.W.clsIn K fP).isSome=true)
 (vV:PySem.W.typeIn K (.ref fP)=some (.type "type"))
 (vX:PySem.W.subIn K (.ref fP) (.type "BaseException")=some true)
 (fL:(Value.ref aG==Value.ref cT)=false)
 (fK:PySem.W.subIn K (.ref aG) (.ref cT)=some true)
 (g8:(Value.ref aG==Value.ref cU)=false)
 (gY:PySem.W.subIn K (.ref aG) (.ref cU)=some false)
 (g_:(Value.ref aG==Value.ref cV)=false)
 (gZ:PySem.W.subIn K (.ref aG) (.ref cV)=some false)
 (jt:(Value.ref aG==Value.ref fP)=false)
 (jr:PySem.W.subIn K (.ref aG) (.ref fP)=some false)
 (xcg:PySem.W.specialIn K (.builtin "object.__class__") "__get__" = some (some (.builtin "getset_descriptor.__get__")))
 (xct:PySem.W.takesIn K (.builtin "object.__class__")=some true)
 (qm:PySem.W.findIn K (.ref aG) "__getattribute__" = some (some (.builtin "BaseException.__getattribute__")))
 (qj:PySem.W.findIn K (.ref aG) "__getattr__" = some none)
 (qg:PySem.W.mroIn K aG (.type "BaseException")=some true)
 (qw:PySem.W.findIn K (.ref aG) "__class__" = some (some (.builtin "object.__class__")))
 (qe:PySem.W.mroIn K aG (.type "object")=some true)
 (pY:PySem.W.subIn K (.ref aG) (.type "ValueError")=some true)
 (qp:PySem.W.excIn K aG [.type "ValueError",.type "Exception",.type "BaseException",.type "object"] "ValueError.__new__" = true)
 {yR:Tok} (mJ:PySem.W.nsIn K mainGlobals "MOST_HANDS" = some (some (.int 8 yR)))
 (lR:PySem.W.nsIn K mainGlobals "ValueError" = some none) (Mh:PySem.W.nsIn K mainGlobals "all" = some none) (E_:PySem.W.nsIn K mainGlobals "bool" = some none) (ni:PySem.W.nsIn K mainGlobals "enumerate" = some none) (Mf:PySem.W.nsIn K mainGlobals "int" = some none) (lQ:PySem.W.nsIn K mainGlobals "isinstance" = some none) (Ma:PySem.W.nsIn K mainGlobals "len" = some none) (EY:PySem.W.nsIn K mainGlobals "list" = some none) (L_:PySem.W.nsIn K mainGlobals "max" = some none) (LR:PySem.W.nsIn K mainGlobals "min" = some none) (zQ:PySem.W.nsIn K mainGlobals "range" = some none) (vU:PySem.W.nsIn K mainGlobals "sorted" = some none) (LQ:PySem.W.nsIn K mainGlobals "str" = some none) (LC:PySem.W.nsIn K mainGlobals "sum" = some none) (zP:PySem.W.nsIn K mainGlobals "tuple" = some none) (Lz:PySem.W.nsIn K mainGlobals "zip" = some none):
 ∃fd:FuncData,(∀(s:Shared) (v:Value),BindsTo s fd ⟨[v],[]⟩ [("script",v)]) /\ ∀base:Heap,K.In base->base.Ns mainGlobals mg->cu l.prog w K mg base jY 9 fa fd ["script"] (Ie K):=by
 have e:=hfa.symm.trans (PySem.W.mg_of X G a37);cases e;have Bt:qY mg:=⟨PySem.W.mg_none_of X G lR,PySem.W.mg_none_of X G Mh,PySem.W.mg_none_of X G E_,PySem.W.mg_none_of X G ni,PySem.W.mg_none_of X G Mf,PySem.W.mg_none_of X G lQ,PySem.W.mg_none_of X G Ma,PySem.W.mg_none_of X G EY,PySem.W.mg_none_of X G L_,PySem.W.mg_none_of X G LR,PySem.W.mg_none_of X G zQ,PySem.W.mg_none_of X G vU,PySem.W.mg_none_of X G LQ,PySem.W.mg_none_of X G LC,PySem.W.mg_none_of X G zP,PySem.W.mg_none_of X G Lz⟩;have ao:cg K aj:=⟨⟨lK,lO,lJ,lH⟩,jq,gW,gF,gU,gD⟩;have mQ:IsO K mg aj "Recorder" :=⟨PySem.W.mg_of X G j5,lV,ycg,yct,lU⟩;have jJ:Gv mg "MOST_HANDS" (.int 8):=⟨_,PySem.W.mg_of X G mJ,⟨_,rfl⟩⟩;have bh:Xr K mg aG "NoHand" :=⟨PySem.W.mg_of X G tG,⟨lW,qb,qy⟩,⟨qm,qj,qg,lW,qw,xcg,xct,qe⟩,qp,pY⟩;have cR:Xo K mg aG cT "NoteError" true:=⟨PySem.W.mg_of X G lX,⟨kJ,kE,kO⟩,⟨fL,fK⟩⟩;have iH:Xo K mg aG cU "NoNote" false:=⟨PySem.W.mg_of X G tE,⟨qt,pZ,qx⟩,⟨g8,gY⟩⟩;have iI:Xo K mg aG cV "NoCell" false:=⟨PySem.W.mg_of X G tH,⟨qu,qd,qz⟩,⟨g_,gZ⟩⟩;have mR:Xo K mg aG fP "Over" false:=⟨PySem.W.mg_of X G zR,⟨vW,vV,vX⟩,⟨jt,jr⟩⟩;have F0:=bJ (st:=mj) l0 c0 k0;have F1:=bJ (st:=jC) l1 c1 k1;have F2:=bJ (st:=jG) l2 c2 k2;have F3:=bJ (st:=iB) l3 c3 k3;have F4:=bJ (st:=iu) l4 c4 k4;have F5:=bJ (st:=d_) l5 c5 k5;have F6:=bJ (st:=cF) l6 c6 k6;have F7:=bJ (st:=fU) l7 c7 k7;have F8:=bJ (st:=d8) l8 c8 k8;have F9:=bJ (st:=jB) l9 c9 k9;have F10:=bJ (st:=dz) l10 c10 k10;have F11:=bJ (st:=dZ) l11 c11 k11;have F12:=bJ (st:=iw) l12 c12 k12;have F13:=bJ (st:=d7) l13 c13 k13;have F14:=bJ (st:=d9) l14 c14 k14;have F15:=bJ (st:=dj) l15 c15 k15;have F16:=bJ (st:=cB) l16 c16 k16;have F17:=bJ (st:=cG) l17 c17 k17;have F18:=bJ (st:=bV) l18 c18 k18;have F19:=bJ (st:=bW) l19 c19 k19;have F20:=bJ (st:=bL) l20 c20 k20;have F21:=bJ (st:=bG) l21 c21 k21;have F22:=bJ (st:=dh) l22 c22 k22;have F23:=bJ (st:=dM) l23 c23 k23;have F24:=bJ (st:=cN) l24 c24 k24;have F25:=bJ (st:=bF) l25 c25 k25;have F26:=bJ (st:=cA) l26 c26 k26;have F27:=bJ (st:=bM) l27 c27 k27;have F28:=bJ (st:=gj) l28 c28 RV;have F29:=bJ (st:=jF) l29 c29 k29;have F30:=bJ (st:=jD) l30 c30 k30;have F31:=bJ (st:=eF) l31 c31 k31;have F32:=bJ (st:=jE) l32 c32 k32;have F33:=bJ (st:=eE) l33 c33 k33;have F34:=bJ (st:=iz) l34 c34 k34;have F35:=bJ (st:=iy) l35 c35 k35;have F36:=bJ (st:=cO) l36 c36 k36;have F37:=bJ (st:=rK) l37 c37 k37;refine ⟨PySem.W.fnOf "law" "law" (aK rK) (aJ rK) (aA rK) .none Yr Y9 X5 ZR Wn Zb,fun s v=> .of_eq rfl,fun base _ _=> ?_⟩;have A0:FnAt l.prog w K mg base 1 "_law_bag" ["script"] (MJ K):=⟨f0,_,Vt F0 Bt,PySem.W.mg_of X G a0,k0,F0.binds (ps:=["script"]) Tc⟩;have A1:FnAt l.prog w K mg base 1 "_law_stir" ["number","place"] (Fw K):=⟨f1,_,Rp F1,PySem.W.mg_of X G a1,k1,F1.binds (ps:=["number","place"]) PB⟩;have A2:FnAt l.prog w K mg base 2 "_law_draw" ["bag","many"] (nJ K):=⟨f2,_,Rv F2 A1 Bt,PySem.W.mg_of X G a2,k2,F2.binds (ps:=["bag","many"]) PN⟩;have A3:FnAt l.prog w K mg base 3 "_law_hands" ["bag"] (zY K):=⟨f3,_,Oa F3 A2,PySem.W.mg_of X G a3,k3,F3.binds (ps:=["bag"]) Lh⟩;have A4:FnAt l.prog w K mg base 3 "_law_touch" ["bag","hands","cells","loads","apart"] (zU K):=⟨f4,_,NK F4 A2 Bt,PySem.W.mg_of X G a4,k4,F4.binds (ps:=["bag","hands","cells","loads","apart"]) K9⟩;have A5:FnAt l.prog w K mg base 4 "_law_touches" ["bag","hands"] (tM K):=⟨f5,_,Gj F5 A2 A4 Bt,PySem.W.mg_of X G a5,k5,F5.binds (ps:=["bag","hands"]) Ei⟩;have A6:FnAt l.prog w K mg base 1 "touches_meet" ["one","other"] (U9 K):=⟨f6,_,u5 F6,PySem.W.mg_of X G a6,k6,F6.binds (ps:=["one","other"]) vm⟩;have A7:FnAt l.prog w K mg base 2 "is_step" ["web","place","later"] (Fx K):=⟨f7,_,Gp F7 A6,PySem.W.mg_of X G a7,k7,F7.binds (ps:=["web","place","later"]) Hq⟩;have A8:FnAt l.prog w K mg base 1 "is_known" ["name","known"] (zX K):=⟨f8,_,N_ F8,PySem.W.mg_of X G a8,k8,F8.binds (ps:=["name","known"]) Ef⟩;have A9:FnAt l.prog w K mg base 1 "learn" ["known","more"] (zW K):=⟨f9,_,N8 F9 Bt,PySem.W.mg_of X G a9,k9,F9.binds (ps:=["known","more"]) Pz⟩;have A10:FnAt l.prog w K mg base 3 "bare_steps" ["web","named","knowns","place"] (FP K):=⟨YW,_,Rw F10 A7 A8 A9 Bt,PySem.W.mg_of X G a10,k10,F10.binds (ps:=["web","named","knowns","place"]) yW⟩;have A11:FnAt l.prog w K mg base 1 "notes_to" ["named","bare","name"] (tR K):=⟨f11,_,Gm F11,PySem.W.mg_of X G a11,k11,F11.binds (ps:=["named","bare","name"]) Ec⟩;have A12:FnAt l.prog w K mg base 1 "_law_table" ["touches","hands"] (wu K):=⟨f12,_,J9 F12 Bt,PySem.W.mg_of X G a12,k12,F12.binds (ps:=["touches","hands"]) K_⟩;have A13:FnAt l.prog w K mg base 1 "is_whole" ["value"] (QL K):=⟨f13,_,Cw F13 Bt,PySem.W.mg_of X G a13,k13,F13.binds (ps:=["value"]) Ed⟩;have A14:FnAt l.prog w K mg base 2 "is_below" ["value","count"] (zZ K):=⟨f14,_,Cy F14 A13,PySem.W.mg_of X G a14,k14,F14.binds (ps:=["value","count"]) Eh⟩;have A15:Jv l.prog w K mg base 3 "check_hand" ["places","hand"] (rG aG K):=⟨f15,_,J8 F15 bh A14 Bt,PySem.W.mg_of X G a15,k15,F15.binds (ps:=["places","hand"]) yV⟩;have A16:sW l.prog w K mg base 2 aj "Recorder" ["self","hands"] [] (rD aj aG K):=⟨YT,_,[],NQ F16 bh ao A13 jJ Bt,⟨lM,a16,n16,lN⟩,PySem.W.mg_of X G j5,F16.binds (ps:=["self","hands"]) uG,.nil⟩;have A17:mU l.prog w K mg base 4 aj "did" ["self","hand","kind","cell"] (Ig aj aG K):=⟨YS,_,Vs F17 ao A15 A10 A11 Bt,⟨a17,n17,k17⟩,F17.binds (ps:=["self","hand","kind","cell"]) vo⟩;have A18:MethAt l.prog w K mg base 1 aj "notes" ["self"] (nG aj K):=⟨YQ,_,JZ F18 ao Bt,⟨a18,n18,k18⟩,F18.binds (ps:=["self"]) sI⟩;have A19:mU l.prog w K mg base 4 aj "known" ["self","hand"] (rC aj aG K):=⟨YM,_,J0 F19 ao A15 Bt,⟨a19,n19,k19⟩,F19.binds (ps:=["self","hand"]) sJ⟩;have A20:MethAt l.prog w K mg base 1 aj "counts" ["self"] (nH aj K):=⟨YL,_,J1 F20 ao Bt,⟨a20,n20,k20⟩,F20.binds (ps:=["self"]) qO⟩;have A21:MethAt l.prog w K mg base 1 aj "__len__" ["self"] (FJ aj K):=⟨YK,_,Rt F21 ao Bt,⟨a21,n21,k21⟩,F21.binds (ps:=["self"]) pK⟩;have A22:FnAt l.prog w K mg base 1 "touch_text" ["touch"] (wj K):=⟨f22,_,JX F22 Bt,PySem.W.mg_of X G a22,k22,F22.binds (ps:=["touch"]) yU⟩;have A23:FnAt l.prog w K mg base 2 "note_text" ["note"] (zV K):=⟨f23,_,NZ F23 A22 Bt,PySem.W.mg_of X G a23,k23,F23.binds (ps:=["note"]) Az⟩;have A24:FnAt l.prog w K mg base 3 "record_text" ["record"] (tQ K):=⟨f24,_,wN F24 A23 Bt,PySem.W.mg_of X G a24,k24,F24.binds (ps:=["record"]) yh⟩;have A25:MethAt l.prog w K mg base 4 aj "__str__" ["self"] (Fz aj K):=⟨YJ,_,Rr F25 ao A24 A20 A18 Bt,⟨a25,n25,k25⟩,F25.binds (ps:=["self"]) pJ⟩;have A26:MethAt l.prog w K mg base 4 aj "twin" ["self"] (vB aj K):=⟨YH,_,NP F26 ao A16.calm Bt,⟨a26,n26,k26⟩,F26.binds (ps:=["self"]) uF⟩;have A27:MethAt l.prog w K mg base 2 aj "__eq__" ["self","other"] (MF aj K):=⟨YG,_,Vq F27 ao mQ A20 A18 Bt,⟨a27,n27,k27⟩,F27.binds (ps:=["self","other"]) qP⟩;have Z2:FnAt l.prog w K mg base 1 "_law_alike" ["found","due"] (h_ 0 K):=⟨Sh,_,J_ F28,PySem.W.mg_of X G a28,RV,F28.binds (ps:=["found","due"]) jM⟩;have Z1:FnAt l.prog w K mg base 2 "_law_alike" ["found","due"] (h_ 1 K):=⟨Sh,_,lq (n:=0) F28 Z2 Bt,PySem.W.mg_of X G a28,RV,F28.binds (ps:=["found","due"]) jM⟩;have Z0:FnAt l.prog w K mg base 3 "_law_alike" ["found","due"] (h_ 2 K):=⟨Sh,_,lq (n:=1) F28 Z1 Bt,PySem.W.mg_of X G a28,RV,F28.binds (ps:=["found","due"]) jM⟩;have ZX:FnAt l.prog w K mg base 4 "_law_alike" ["found","due"] (h_ 3 K):=⟨Sh,_,lq (n:=2) F28 Z0 Bt,PySem.W.mg_of X G a28,RV,F28.binds (ps:=["found","due"]) jM⟩;have ZW:FnAt l.prog w K mg base 5 "_law_alike" ["found","due"] (h_ 4 K):=⟨Sh,_,lq (n:=3) F28 ZX Bt,PySem.W.mg_of X G a28,RV,F28.binds (ps:=["found","due"]) jM⟩;have A28:FnAt l.prog w K mg base 6 "_law_alike" ["found","due"] (h_ 5 K):=⟨Sh,_,lq (n:=4) F28 ZW Bt,PySem.W.mg_of X G a28,RV,F28.binds (ps:=["found","due"]) jM⟩;have A29:FnAt l.prog w K mg base 1 "_law_flat" ["lists"] (FN K):=⟨f29,_,Ru F29 Bt,PySem.W.mg_of X G a29,k29,F29.binds (ps:=["lists"]) PL⟩;have A30:FnAt l.prog w K mg base 3 "_law_none" ["bag","hands"] (rE K):=⟨f30,_,J3 F30 A2,PySem.W.mg_of X G a30,k30,F30.binds (ps:=["bag","hands"]) PJ⟩;have A31:FnAt l.prog w K mg base 1 "_law_classes" ["found"] (oM K):=⟨f31,_,Gq F31 Bt,PySem.W.mg_of X G a31,k31,F31.binds (ps:=["found"]) Ek⟩;have A32:FnAt l.prog w K mg base 4 "_law_made" ["many"] (wk K):=⟨f32,_,J5 F32 bh cR iH iI mR A16 Bt,PySem.W.mg_of X G a32,k32,F32.binds (ps:=["many"]) PK⟩;have A33:FnAt l.prog w K mg base 5 "_law_refused" ["recorder","door","hand","cell"] (nF aj K):=⟨f33,_,Ab F33 bh cR iH iI mR ao A19 A17 Bt,PySem.W.mg_of X G a33,k33,F33.binds (ps:=["recorder","door","hand","cell"]) Ej⟩;have A34:FnAt l.prog w K mg base 1 "_law_known" ["touches","rows","hands"] (tU K):=⟨f34,_,Gn F34 Bt,PySem.W.mg_of X G a34,k34,F34.binds (ps:=["touches","rows","hands"]) Lg⟩;have A35:FnAt l.prog w K mg base 7 "_law_stays" ["recorder","touches","table","hands"] (tO aj K):=⟨f35,_,Gk F35 ao A18 A20 A19.calm A21 A29 A34 A28 Bt,PySem.W.mg_of X G a35,k35,F35.binds (ps:=["recorder","touches","table","hands"]) Ld⟩;have A36:FnAt l.prog w K mg base 8 "_law_refused_so" ["bag","recorder","touches","table","hands"] (Fy aj K):=⟨f36,_,Rq F36 ao A2 A30 A31 A33 A35 A26 A27 A25 Bt,PySem.W.mg_of X G a36,k36,F36.binds (ps:=["bag","recorder","touches","table","hands"]) yj⟩;exact Vr F37 ao A0 A2 A30 A32 A31 A3 A5 A12 A16.calm A17.calm A26 A36 A28 Bt
theorem walk {l:PySem.W.OpenLaw} {q:Program} {loose:List Str} {XP:(Str->Option Value)->Heap->Prop} {YP:World->Heap->Prop} {d:DefRec} {K:Params->PySem.W.Frag} (hn:l.most=some 63) (hdf:d.params.defaults=[])
 (hY:∀(w:World) (h:Heap),YP w h->(K w.params).In h)
 (F:∀(w:World) (mg:Str->Option Value) (fa:Addr) (h:Heap),(K w.params).In h->h.Ns mainGlobals mg->mg d.name=some (.ref fa) ->
   ∃fd:FuncData,(∀(s:Shared) (u:Value),BindsTo s fd ⟨[u],[]⟩ [("script",u)]) /\ ∀base:Heap,(K w.params).In base->base.Ns mainGlobals mg->cu l.prog w (K w.params) mg base jY 9 fa fd ["script"] (Ie (K w.params))):
 PySem.W.WalkO q loose XP YP l.row.toRowW d [] (fun f vs=>PySem.call f vs):=
 L2.QB (n:=63) (k:=9) (x:= "script") (CX:=fun _=>jY) (sp:=fun w=>Ie (K w.params)) hn (by decide) hdf ⟨rfl,by decide,by decide⟩ hY F (fun _ _ a ns hl _ hS=>⟨a,ns,rfl,hS,hl,fun _=>rfl⟩) fun _ _ _ _ _ z=>z
end Prf
namespace PySem.W.Fast
def tw16458027096728172911:=()
def tw964710049829229592:=()
def tw10161672395994787771:=()
def tw13712043674140095762:=()
def tw15862726184529348252:=()
def tw9306235239257898688:=()
def tw14303670652775184648:=()
def tw16894956133441361408:=()
def tw3633059583178514617:=()
def tw4970856462119060777:=()
def tw1566936087441368022:=()
def tw5168037072679281599:=()
def tw2095333982126343614:=()
def tw11548613989071813131:=()
def tw3237383972169590380:=()
def tw3462259460344430466:=()
def tw829258662553046939:=()
def tw2739189482423486527:=()
def tw8451202075116776231:=()
def tw10286064691348539560:=()
def tw5986649112626901640:=()
def tw2359739085492370470:=()
def tw6246812389409130201:=()
def tw14945138247525207985:=()
def tw10429731042094544082:=()
def tw5034853798668248423:=()
def tw4734753292561427038:=()
def tw14196222276296669848:=()
def tw15878373954095265702:=()
def tw15246424176880602322:=()
def tw17261326628689856656:=()
def tw10573713436767138807:=()
def tw11326335469555500925:=()
def tw1505226474504646412:=()
def tw15066052344620132470:=()
def tw390108507884967700:=()
def tw16943429211453283714:=()
def tw7244457060566726973:=()
def tw2381386159287910597:=()
def tw3890382113550294281:=()
def tw1499346902222747175:=()
def tw9300237715509228884:=()
def tw5296449136037318606:=()
def tw3325573460370818629:=()
def tw8572249464615964673:=()
def tw8195239372401343945:=()
def tw16610644010822281271:=()
def tw15146577974764971884:=()
def tw8485834735418231129:=()
def tw18045473285219285562:=()
def tw9573203720890650924:=()
def tw7010421671336283085:=()
def tw11976562379728778262:=()
def tw4633315800263821013:=()
def tw2439225991254571586:=()
def tw3668903995123547323:=()
def tw3059380993536608485:=()
def tw13836451871261167208:=()
def tw12918474508267208733:=()
def tw13869404771989264347:=()
def tw3234482869418005784:=()
def tw16532079792308421078:=()
def tw842127628320504787:=()
def tw1924773981893075517:=()
def tw15447048326193986055:=()
def tw5109870862133128875:=()
def tw14562202982631933926:=()
def tw4209042473575401253:=()
def tw3958737249754062123:=()
def tw9056145274924547892:=()
def tw15868477846234602042:=()
def tw17798237918941199958:=()
def tw7766971921783623317:=()
def tw11596404404097794481:=()
def tw9730900856400408683:=()
def tw8563719639926700727:=()
def tw12411216536625083318:=()
def tw12851344906911292570:=()
def tw12086731824114787354:=()
def tw12398879018406884047:=()
def tw15601142701344361804:=()
def tw16685238133194194820:=()
def tw13919749861716270005:=()
def tw12001525813070578245:=()
def tw3134330776845779113:=()
def tw1637866288215349078:=()
def tw3656469649401762839:=()
def tw14172855117570096058:=()
def tw5191522281505245495:=()
def tw16123585984628016934:=()
def tw8872362442779286389:=()
def tw9392001243937460460:=()
def tw6351610501529749515:=()
def tw2518264676774416132:=()
def tw13549360379315080207:=()
def tw8658823795939678335:=()
def tw1527227892517691377:=()
def tw15718956537247959650:=()
def tw11167955932452591310:=()
def tw5690880962477876498:=()
def tw2532654081571582946:=()
def tw5523085905317971920:=()
def tw732681745126187505:=()
def tw8588390034360653680:=()
def tw4699772325923303471:=()
def tw538905721581234482:=()
def tw2977878812984657070:=()
def tw10120212867436475123:=()
def tw2207348941127987812:=()
def tw14968872080770977360:=()
def tw16833146652305965248:=()
def tw13340394142457985252:=()
def tw2146582093401120614:=()
def tw1329721923313647765:=()
def tw7749912290600100471:=()
def tw12935446339243964020:=()
def tw2670367527021674302:=()
def tw10889720357171642487:=()
def tw6829552534035444794:=()
def tw11017090470095973415:=()
def tw4804133479869652746:=()
def tw8313304025328179733:=()
def tw2188245439419116105:=()
def tw4794439898615789004:=()
def tw6983297194952162961:=()
def tw7773008436736033965:=()
def tw6548052919806812434:=()
def tw8438627511019581388:=()
def tw4044705916788296663:=()
def tw15579044870957574022:=()
def tw11921146885451928499:=()
def tw10352307029447809471:=()
def tw5262598048783167740:=()
def tw10996730178817303496:=()
def tw11753871748197489717:=()
def tw6420046004394946974:=()
def tw8040129195612166647:=()
def tw17714329021803496747:=()
def tw15668520998317866951:=()
def tw6141580874101355633:=()
def tw13292144871383614636:=()
def tw6512207151409158502:=()
def tw6198954325761001150:=()
def tw4344119362314723447:=()
def tw12789738343116154430:=()
def tw3681211144936438965:=()
def tw7259750232082201333:=()
def tw12861306815056491270:=()
def tw11305284519599582047:=()
def tw2324912184618526946:=()
def tw11412015901127125238:=()
def tw4767244140261099780:=()
def tw14024474354098686880:=()
def tw5993985217488805937:=()
def tw16739265320725656603:=()
def tw5836203970882587847:=()
def tw3815961737845097921:=()
def tw264794206309132992:=()
def tw568075498463368606:=()
def tw13172381128459127046:=()
def tw4218359807946428780:=()
def tw14848897203041853608:=()
def tw3646419492917082860:=()
def tw2222208327256763691:=()
def tw13662187728051436544:=()
def tw8798877730575107871:=()
def tw4463125418310881861:=()
def tw8227024846622564676:=()
def tw12348389285684425794:=()
def tw5269051466133776485:=()
def tw8000116761469147245:=()
def tw5099002340471512625:=()
def tw15228873715304465047:=()
def tw3581336670618466325:=()
def tw16700602692276205839:=()
def tw17898799400252321167:=()
def tw2013592544509059893:=()
def tw3673925064217160008:=()
def tw8975446042369025501:=()
def tw12178217710986470580:=()
def tw7897377278067518411:=()
def tw15999762468906057817:=()
def tw16666774166963085691:=()
def tw7332245559778072765:=()
def tw11391999573852493780:=()
def tw10216827713822338524:=()
def tw15762444364712435738:=()
def tw11395252165230577387:=()
def tw12947844518019742058:=()
def tw2142231346869605835:=()
def tw8335490230359647658:=()
def tw18408442732863672729:=()
def tw12827232429278867953:=()
def tw9391684863097626571:=()
def tw5029276012613398787:=()
def tw2922621502172682623:=()
def tw15684325476776117213:=()
def tw18213526972081844949:=()
def tw7307748144580720783:=()
def tw14702552059892366063:=()
def tw16635228129976758428:=()
def tw10825684460199450742:=()
def tw302810384699608293:=()
def tw4257039973741728966:=()
def tw733782263412154709:=()
def tw7679222268243699977:=()
def tw14645968021069132925:=()
def tw4993943170225393410:=()
def tw17999512520803217212:=()
def tw9270350112942640681:=()
def tw5151909253800324655:=()
def tw16205310780468134707:=()
def tw11021436444509139978:=()
def tw4198305656023096265:=()
def tw9328417551005170249:=()
def tw5932839291611192691:=()
def tw9486446033483343175:=()
def tw3988262262590924333:=()
def tw14607517692195882126:=()
def tw14754518919427649944:=()
def tw5855922223407356050:=()
def tw3267083639051257808:=()
def tw17021420679304763508:=()
def tw15823633502808633627:=()
def tw17760131530142298051:=()
def tw16284045152012278181:=()
def tw10721869611437973423:=()
def tw8983095456732856697:=()
def tw13082041214437831563:=()
def tw17841478347179344870:=()
def tw18415096078061130481:=()
def tw6042048886263464822:=()
def tw7530595658280032703:=()
def tw3384064867962289836:=()
def tw15799258329780247713:=()
def tw86920744655587806:=()
def tw14253706985116780311:=()
def tw9983302319432125278:=()
def tw18110238598254133870:=()
def tw2912178334907675572:=()
def tw10862440912676274246:=()
def tw13949353123535135345:=()
def tw11942895801598849206:=()
def tw8376126345593925705:=()
def tw6896869474545460510:=()
def tw4280856258463905676:=()
def tw17674716568135947564:=()
def tw7497688014845720375:=()
def tw569341415549983771:=()
def tw15365022299107540146:=()
def tw8191578534070884079:=()
def tw10150141514063331489:=()
def tw89015231450424593:=()
def tw2364883454739748765:=()
def tw11640445079557008451:=()
def tw16691315564109670608:=()
def tw5683152672282644418:=()
def tw6719533313691425982:=()
def tw13735944317194207745:=()
def tw2424929245100380939:=()
def tw2197601380227216325:=()
def tw12215852051481353222:=()
def tw15622393325013301310:=()
def tw18227748061360482913:=()
def tw311116768277554120:=()
def tw17202332672248345357:=()
def tw6788939165124780322:=()
def tw8972914577319196841:=()
def tw5892911237592943147:=()
def tw209322354545457813:=()
def tw12444341109099737562:=()
def tw6795770301341218158:=()
def tw459281057769985687:=()
def tw10466329815934353733:=()
def tw1432304563857080514:=()
def tw14115574057490935414:=()
def tw825373786032522754:=()
def tw13419800529474887339:=()
def tw16645594032123933034:=()
def tw2891854815176692011:=()
def tw13090930783438296840:=()
def tw15453938824537993664:=()
def tw11980958290679577027:=()
def tw15327315883692028517:=()
def tw9999329931454533060:=()
def tw13082014578030640356:=()
def tw18239197248496200001:=()
def tw5438015181217185038:=()
def tw9454728473289609036:=()
def tw11052354226678388801:=()
def tw17466808054461154808:=()
def tw2958316208876474167:=()
def tw1657018439069694059:=()
def tw12612585744830967727:=()
def tw12663889256304787688:=()
def tw7451021263553626434:=()
def tw8974683228484793047:=()
def tw942113187687411402:=()
def tw8086025497695132253:=()
def tw15338556786370725372:=()
def tw17341318486011125746:=()
def tw15813638123623989041:=()
def tw7247053403576482222:=()
def tw11935389367936509991:=()
def tw1231627869520718476:=()
def tw13959067576631308874:=()
def tw15669426734507652573:=()
def tw2385880997259887522:=()
def tw17690950598148443642:=()
def tw18033006785787296540:=()
def tw10315448796632877833:=()
def tw1029500138975745226:=()
def tw5823238367089584433:=()
def tw11736275624892246866:=()
def tw11241585940532893663:=()
def tw14609882275960102340:=()
def tw14337854781994990276:=()
def tw12248126811860465449:=()
def tw11396101428417960817:=()
def tw2687272987688344390:=()
def tw6605019420385421234:=()
def tw7158314567065268907:=()
def tw11267285539872448433:=()
def tw12001926723035903474:=()
def tw14270255077216697198:=()
def tw12237380247582729831:=()
def tw4535755095961552246:=()
def tw16801367527905330719:=()
def tw15160067128575818514:=()
def tw11827093830800400642:=()
def tw12289210253509617774:=()
def tw4109494565856828945:=()
def tw5418694165485735405:=()
def tw9178544004206164161:=()
end PySem.W.Fast
open PySem PySem.W PyProof.Rows
set_option maxRecDepth 100000 in
set_option maxHeartbeats 0 in
theorem PySem.Challenge.cw_fewnotes_k49_no_such_hand_holds : PySem.Challenge.rw_fewnotes_k49_no_such_hand.Holds := by
 w_on;o_law;k_head;(case hw=>w_witness2)
 k_fill
 refine Prf.walk (l:=PySem.Challenge.rw_fewnotes_k49_no_such_hand) rfl rfl (fun w h Y=>PySem.W.kIn_of Y) ?F
 case F=>
  intro w mg fa h KX G hmg
  replace hmg:mg (Str.ofString "law")=some (.ref fa):=hmg
  refine' Prf.all_mk KX G hmg ?a0 ?l0 ?c0 ?k0 ?a1 ?l1 ?c1 ?k1 ?a2 ?l2 ?c2 ?k2 ?a3 ?l3 ?c3 ?k3 ?a4 ?l4 ?c4 ?k4 ?a5 ?l5 ?c5 ?k5 ?a6 ?l6 ?c6 ?k6 ?a7 ?l7 ?c7 ?k7 ?a8 ?l8 ?c8 ?k8 ?a9 ?l9 ?c9 ?k9 ?a10 ?l10 ?c10 ?k10 ?a11 ?l11 ?c11 ?k11 ?a12 ?l12 ?c12 ?k12 ?a13 ?l13 ?c13 ?k13 ?a14 ?l14 ?c14 ?k14 ?a15 ?l15 ?c15 ?k15 ?a16 ?l16 ?c16 ?k16 ?n16 ?a17 ?l17 ?c17 ?k17 ?n17 ?a18 ?l18 ?c18 ?k18 ?n18 ?a19 ?l19 ?c19 ?k19 ?n19 ?a20 ?l20 ?c20 ?k20 ?n20 ?a21 ?l21 ?c21 ?k21 ?n21 ?a22 ?l22 ?c22 ?k22 ?a23 ?l23 ?c23 ?k23 ?a24 ?l24 ?c24 ?k24 ?a25 ?l25 ?c25 ?k25 ?n25 ?a26 ?l26 ?c26 ?k26 ?n26 ?a27 ?l27 ?c27 ?k27 ?n27 ?a28 ?l28 ?c28 ?RV ?a29 ?l29 ?c29 ?k29 ?a30 ?l30 ?c30 ?k30 ?a31 ?l31 ?c31 ?k31 ?a32 ?l32 ?c32 ?k32 ?a33 ?l33 ?c33 ?k33 ?a34 ?l34 ?c34 ?k34 ?a35 ?l35 ?c35 ?k35 ?a36 ?l36 ?c36 ?k36 ?a37 ?l37 ?c37 ?k37 ?j5 ?lK ?lO ?lJ ?lH ?lM ?lN ?jq ?gW ?gF ?gU ?gD ?ycg ?yct ?lV ?lU ?tG ?lW ?qb ?qy ?lX ?kJ ?kE ?kO ?tE ?qt ?pZ ?qx ?tH ?qu ?qd ?qz ?zR ?vW ?vV ?vX ?fL ?fK ?g8 ?gY ?g_ ?gZ ?jt ?jr ?xcg ?xct ?qm ?qj ?qg ?qw ?qe ?pY ?qp ?mJ ?lR ?Mh ?E_ ?ni ?Mf ?lQ ?Ma ?EY ?L_ ?LR ?zQ ?vU ?LQ ?LC ?zP ?Lz
  (case j5=>k_is)
  (case lK=>k_is)
  (case lO=>k_is)
  (case lJ=>k_is)
  (case lH=>k_is)
  (case lM=>k_is)
  (case lN=>k_is)
  (case jq=>k_is)
  (case gW=>k_is)
  (case gF=>k_is)
  (case gU=>k_is)
  (case gD=>k_is)
  (case ycg=>k_is)
  (case yct=>k_is)
  (case lV=>k_is)
  (case lU=>k_is)
  (case tG=>k_is)
  (case lW=>rfl)
  (case qb=>k_is)
  (case qy=>k_is)
  (case lX=>k_is)
  (case kJ=>rfl)
  (case kE=>k_is)
  (case kO=>k_is)
  (case tE=>k_is)
  (case qt=>rfl)
  (case pZ=>k_is)
  (case qx=>k_is)
  (case tH=>k_is)
  (case qu=>rfl)
  (case qd=>k_is)
  (case qz=>k_is)
  (case zR=>k_is)
  (case vW=>rfl)
  (case vV=>k_is)
  (case vX=>k_is)
  (case fL=>rfl)
  (case fK=>k_is)
  (case g8=>rfl)
  (case gY=>k_is)
  (case g_=>rfl)
  (case gZ=>k_is)
  (case jt=>rfl)
  (case jr=>k_is)
  (case xcg=>k_is)
  (case xct=>k_is)
  (case qm=>k_is)
  (case qj=>k_is)
  (case qg=>k_is)
  (case qw=>k_is)
  (case qe=>k_is)
  (case pY=>k_is)
  (case qp=>k_exc)
  (case mJ=>k_is)
  (case a0=>k_is)
  (case l0=>k_is)
  (case c0=>k_is)
  (case k0=>k_is)
  (case a1=>k_is)
  (case l1=>k_is)
  (case c1=>k_is)
  (case k1=>k_is)
  (case a2=>k_is)
  (case l2=>k_is)
  (case c2=>k_is)
  (case k2=>k_is)
  (case a3=>k_is)
  (case l3=>k_is)
  (case c3=>k_is)
  (case k3=>k_is)
  (case a4=>k_is)
  (case l4=>k_is)
  (case c4=>k_is)
  (case k4=>k_is)
  (case a5=>k_is)
  (case l5=>k_is)
  (case c5=>k_is)
  (case k5=>k_is)
  (case a6=>k_is)
  (case l6=>k_is)
  (case c6=>k_is)
  (case k6=>k_is)
  (case a7=>k_is)
  (case l7=>k_is)
  (case c7=>k_is)
  (case k7=>k_is)
  (case a8=>k_is)
  (case l8=>k_is)
  (case c8=>k_is)
  (case k8=>k_is)
  (case a9=>k_is)
  (case l9=>k_is)
  (case c9=>k_is)
  (case k9=>k_is)
  (case a10=>k_is)
  (case l10=>k_is)
  (case c10=>k_is)
  (case k10=>k_is)
  (case a11=>k_is)
  (case l11=>k_is)
  (case c11=>k_is)
  (case k11=>k_is)
  (case a12=>k_is)
  (case l12=>k_is)
  (case c12=>k_is)
  (case k12=>k_is)
  (case a13=>k_is)
  (case l13=>k_is)
  (case c13=>k_is)
  (case k13=>k_is)
  (case a14=>k_is)
  (case l14=>k_is)
  (case c14=>k_is)
  (case k14=>k_is)
  (case a15=>k_is)
  (case l15=>k_is)
  (case c15=>k_is)
  (case k15=>k_is)
  (case a16=>k_is)
  (case l16=>k_is)
  (case c16=>k_is)
  (case k16=>k_is)
  (case n16=>k_is)
  (case a17=>k_is)
  (case l17=>k_is)
  (case c17=>k_is)
  (case k17=>k_is)
  (case n17=>k_is)
  (case a18=>k_is)
  (case l18=>k_is)
  (case c18=>k_is)
  (case k18=>k_is)
  (case n18=>k_is)
  (case a19=>k_is)
  (case l19=>k_is)
  (case c19=>k_is)
  (case k19=>k_is)
  (case n19=>k_is)
  (case a20=>k_is)
  (case l20=>k_is)
  (case c20=>k_is)
  (case k20=>k_is)
  (case n20=>k_is)
  (case a21=>k_is)
  (case l21=>k_is)
  (case c21=>k_is)
  (case k21=>k_is)
  (case n21=>k_is)
  (case a22=>k_is)
  (case l22=>k_is)
  (case c22=>k_is)
  (case k22=>k_is)
  (case a23=>k_is)
  (case l23=>k_is)
  (case c23=>k_is)
  (case k23=>k_is)
  (case a24=>k_is)
  (case l24=>k_is)
  (case c24=>k_is)
  (case k24=>k_is)
  (case a25=>k_is)
  (case l25=>k_is)
  (case c25=>k_is)
  (case k25=>k_is)
  (case n25=>k_is)
  (case a26=>k_is)
  (case l26=>k_is)
  (case c26=>k_is)
  (case k26=>k_is)
  (case n26=>k_is)
  (case a27=>k_is)
  (case l27=>k_is)
  (case c27=>k_is)
  (case k27=>k_is)
  (case n27=>k_is)
  (case a28=>k_is)
  (case l28=>k_is)
  (case c28=>k_is)
  (case RV=>k_is)
  (case a29=>k_is)
  (case l29=>k_is)
  (case c29=>k_is)
  (case k29=>k_is)
  (case a30=>k_is)
  (case l30=>k_is)
  (case c30=>k_is)
  (case k30=>k_is)
  (case a31=>k_is)
  (case l31=>k_is)
  (case c31=>k_is)
  (case k31=>k_is)
  (case a32=>k_is)
  (case l32=>k_is)
  (case c32=>k_is)
  (case k32=>k_is)
  (case a33=>k_is)
  (case l33=>k_is)
  (case c33=>k_is)
  (case k33=>k_is)
  (case a34=>k_is)
  (case l34=>k_is)
  (case c34=>k_is)
  (case k34=>k_is)
  (case a35=>k_is)
  (case l35=>k_is)
  (case c35=>k_is)
  (case k35=>k_is)
  (case a36=>k_is)
  (case l36=>k_is)
  (case c36=>k_is)
  (case k36=>k_is)
  (case a37=>k_is)
  (case l37=>k_is)
  (case c37=>k_is)
  (case k37=>k_is)
  (case lR=>k_is)
  (case Mh=>k_is)
  (case E_=>k_is)
  (case ni=>k_is)
  (case Mf=>k_is)
  (case lQ=>k_is)
  (case Ma=>k_is)
  (case EY=>k_is)
  (case L_=>k_is)
  (case LR=>k_is)
  (case zQ=>k_is)
  (case vU=>k_is)
  (case LQ=>k_is)
  (case LC=>k_is)
  (case zP=>k_is)
  (case Lz=>k_is)
#print axioms PySem.Challenge.cw_fewnotes_k49_no_such_hand_holds
