import PyProof.Rows.All
import Wide.All
import OpenK.AllK
import Wide.FinOn
import Lean
import PyProof.EqAt
import PyProof.EqKinds
import PyProof.TupleCall
import PyProof.EqLayable
import PyProof.ExcArgsOwn
import PyProof.ExcAttrAll.Exception
import PyProof.RulesAs
import PyProof.ExcBaseAll.ValueError
import PyProof.NsDelKeeps
import KE.KRevSl
import OpenK.KOps
import OpenK.KWalk
import PyProof.DictUpdate
import PyProof.DictTruth
import PyProof.DictDisplay
import KE.KDictOf
import PyProof.AttrMissSeq
import PyProof.WalksS
import KE.KSortedM
import PySem.Challenge.RW_fewnotes_k98_whole_records_of_long_runs
set_option Elab.async false
set_option linter.all false
set_option maxRecDepth 100000
namespace L2
open PySem PySem.Spec PyProof.Rows
abbrev Key:=Sum Int Str
def uh:Key->Value->Bool
 | .inl k,v=>Value.isInt k v
 | .inr x,v=>Value.isStrOf x v
def adM (w:World):Key->Int
 | .inl k=>hashInt k
 | .inr x=>hashStr w x
theorem cV:∀{k:Key} {v:Value},uh k v=true->(∃i t,k=Sum.inl i/\v=Value.int i t)\/(∃x t,k=Sum.inr x/\v=Value.str x t)
 | .inl i,v,h=>by
   obtain ⟨t,e⟩:=Value.isInt_shape (k:=i) (v:=v) h;exact .inl ⟨i,t,rfl,e⟩
 | .inr x,v,h=>by
   obtain ⟨t,e⟩:=Value.isStrOf_shape (x:=x) (v:=v) h;exact .inr ⟨x,t,rfl,e⟩
theorem HF (i:Int) (t:Tok):uh (.inl i) (.int i t)=true:=by simp [uh,Value.isInt]
theorem HD (x:Str) (t:Tok):uh (.inr x) (.str x t)=true:=by simp [uh,Value.isStrOf]
theorem T7 (a b:Int):decide ((Sum.inl a:Key)=Sum.inl b)=(a==b):=by
 by_cases e:a=b
 ·subst e;simp
 ·have h:¬(Sum.inl a:Key)=Sum.inl b:=fun q=>e (Sum.inl.inj q)
  rw [decide_eq_false h];exact (beq_eq_false_iff_ne.mpr e).symm
theorem T4 (a b:Str):decide ((Sum.inr a:Key)=Sum.inr b)=decide (a=b):=by
 by_cases e:a=b
 ·subst e;simp
 ·have h:¬(Sum.inr a:Key)=Sum.inr b:=fun q=>e (Sum.inr.inj q)
  rw [decide_eq_false h,decide_eq_false e]
theorem T6 (a:Int) (b:Str):decide ((Sum.inl a:Key)=Sum.inr b)=false:=decide_eq_false (fun q=>nomatch q)
theorem T5 (a:Str) (b:Int):decide ((Sum.inr a:Key)=Sum.inl b)=false:=decide_eq_false (fun q=>nomatch q)
def bD (prog:Program) (w:World):PySem.KeyKind prog w Key where
 is:=uh
 hash:=adM w
 inj:=fun v a b ha hb=>by
  rcases cV ha with ⟨i,t,rfl,rfl⟩|⟨x,t,rfl,rfl⟩
  ·rcases cV hb with ⟨j,u,rfl,e⟩|⟨y,u,rfl,e⟩
   ·injection e with e1 _;rw [e1]
   ·exact nomatch e
  ·rcases cV hb with ⟨j,u,rfl,e⟩|⟨y,u,rfl,e⟩
   ·exact nomatch e
   ·injection e with e1 _;rw [e1]
 byValue:=fun k v h=>by
  rcases cV h with ⟨i,t,rfl,rfl⟩|⟨x,t,rfl,rfl⟩<;>rfl
 pyHash:=fun hv h=>by
  rcases cV hv with ⟨i,t,rfl,rfl⟩|⟨x,t,rfl,rfl⟩
  ·exact wpAny_pyHash_int h
  ·exact wpAny_pyHash_str h
 eqBool:=fun hu hv h=>by
  rcases cV hu with ⟨i,t,rfl,rfl⟩|⟨x,t,rfl,rfl⟩
  ·rcases cV hv with ⟨j,u,rfl,rfl⟩|⟨y,u,rfl,rfl⟩
   ·rw [T7] at h;exact wpAny_eqBool_int h
   ·rw [T6] at h;exact SeqAt.EqAt.int_str i t y u _ _ _ _ h
  ·rcases cV hv with ⟨j,u,rfl,rfl⟩|⟨y,u,rfl,rfl⟩
   ·rw [T5] at h;exact SeqAt.EqAt.str_int x t j u _ _ _ _ h
   ·rw [T4] at h;exact wpAny_eqBool_str h
 «strs» :=fun k x t v h=>by
  rcases cV h with ⟨i,u,rfl,e⟩|⟨y,u,rfl,e⟩
  ·exact nomatch e
  ·injection e with e1 _
   subst e1;cases v<;>rfl
theorem Df (prog:Program) (w:World) (k:Key) (v:Value):(bD prog w).is k v=uh k v:=rfl
theorem z_ (prog:Program) (w:World) (i:Int) (t:Tok):(bD prog w).is (.inl i) (.int i t)=true:=HF i t
theorem z9 (prog:Program) (w:World) (x:Str) (t:Tok):(bD prog w).is (.inr x) (.str x t)=true:=HD x t
end L2
namespace L2
open PySem PySem.Spec PyProof.Rows
inductive V where
 | non|bl (b:Bool)|int (i:Int)|str (x:Str)|Gf (b:Array UInt8)|flt (b:UInt64)|ref (a:Addr)|ty (n:String)
 deriving DecidableEq
def RelV:V->Value->Prop
 | .non,u=>u=Value.none
 | .bl b,u=>u=Value.bool b
 | .int i,u=>∃t,u=Value.int i t
 | .str x,u=>∃t,u=Value.str x t
 | .Gf b,u=>∃t,u=Value.bytes b t
 | .flt b,u=>∃t,u=Value.float b t
 | .ref a,u=>u=Value.ref a
 | .ty n,u=>u=Value.type n
abbrev Vals:List V->List Value->Prop:=Paired RelV
theorem Vals.length {xs:List V} {us:List Value} (r:Vals xs us):xs.length=us.length:=Paired.length r
theorem Vals.get:∀{xs:List V} {us:List Value} {i:Nat} {x:V},Vals xs us->xs[i]? = some x -> ∃u,us[i]? = some u/\RelV x u
 | _,_,_,_,.nil,e=>by simp at e
 | _,_,0,_,.cons r _,e=>by simp at e;subst e;exact ⟨_,rfl,r⟩
 | _,_,i+1,x,.cons _ t,e=>by
   obtain ⟨u,h1,h2⟩:=Vals.get (i:=i) (x:=x) t (by simpa using e);exact ⟨u,by simpa using h1,h2⟩
theorem Vals.set {x:V} {u:Value} (r:RelV x u):∀{xs:List V} {us:List Value} (i:Nat),Vals xs us->Vals (xs.set i x) (us.set i u)
 | _,_,_,.nil=> .nil
 | _,_,0,.cons _ t=> .cons r t
 | _,_,i+1,.cons q t=> .cons q (Vals.set r i t)
theorem Vals.append {xs ys:List V} {us ws:List Value} (h:Vals xs us) (s:Vals ys ws):Vals (xs++ys) (us++ws):=by
 induction h with
 | nil=>exact s
 | cons r t ih=>exact .cons r ih
theorem Vals.take:∀{xs:List V} {us:List Value} (n:Nat),Vals xs us->Vals (xs.take n) (us.take n)
 | _,_,0,_=> .nil
 | _,_,_+1,.nil=> .nil
 | _,_,n+1,.cons r t=> .cons r (Vals.take n t)
theorem Vals.drop:∀{xs:List V} {us:List Value} (n:Nat),Vals xs us->Vals (xs.drop n) (us.drop n)
 | _,_,0,r=>r
 | _,_,_+1,.nil=> .nil
 | _,_,n+1,.cons _ t=>Vals.drop n t
def oE:Option V->Option Value->Prop
 | some v,some u=>RelV v u
 | none,none=>True
 | _,_=>False
def KV {κ:Type}:List (κ×V)->List (κ×Value)->Prop:=Paired fun (p:κ×V) (q:κ×Value)=>p.1=q.1/\RelV p.2 q.2
def kV:Key->V
 | .inl i=> .int i
 | .inr x=> .str x
inductive HO where
 | lst (xs:List V)
 | tup (xs:List V)
 | dK (kvs:List (Key×V))|dT (kvs:List (List Key×V))
 | set (S:Int->Bool) (n:Nat)
 | ins (C dx:Addr) (fs:List (Str×V))
 | own (x:Addr)
 | xd (fs:List (Str×V))
 | met (f x:Addr)
 | rng (lo hi:Int)
 | iV (o:Obj) (u:HO)
 | QJ (ps:Array Value)
 | ext (φ:Heap->Prop)
abbrev Hp:=Addr->Option HO
def upd (H:Hp) (a:Addr) (o:HO):Hp:=fun b=>if b=a then some o else H b
theorem au {H:Hp} {a:Addr} {o:HO}:upd H a o a=some o:=by unfold upd;rw [if_pos rfl]
theorem bA {H:Hp} {a b:Addr} {o:HO} (h:b≠a):upd H a o b=H b:=by unfold upd;rw [if_neg h]
theorem Ei {H:Hp} {a:Addr} {o u:HO}:upd (upd H a o) a u=upd H a u:=by
 funext b;unfold upd;split<;>rfl
theorem iK {H:Hp} {a b:Addr} {o u:HO} (h:H a=some o) (h':H b=some u) (d:o≠u):a≠b:=by
 intro e;subst e;rw [h] at h';exact d (Option.some.inj h')
theorem aL {H:Hp} {a b:Addr} {o:HO} (h:H a=some o) (h':H b=none):a≠b:=by
 intro e;subst e;rw [h] at h';cases h'
section
variable (P:Program) (w:World)
def bY (H:Hp) (h:Heap) (a:Addr):HO->Prop
 | .lst xs=>xs.length<=sizeLine /\ ∃(its:List Value) (n:Nat),Vals xs its/\h.get? a=some {cls:= .type "list",data:= .seq its.toArray n}
 | .tup xs=>xs.length<=sizeLine /\ ∃its:List Value,Vals xs its/\IsTup h a its.toArray
 | .dK kvs=>kvs.length<=sizeLine/\(a==sysModules)=false /\ ∃vs,KV kvs vs/\h.DictOf (bD P w) a vs
 | .dT kvs=>kvs.length<=sizeLine/\(a==sysModules)=false /\ ∃xs:List (List Key×Addr×Value),
    Paired (fun (p:List Key×V) (q:List Key×Addr×Value)=>p.1=q.1/\H q.2.1=some (.tup (p.1.map kV))/\RelV p.2 q.2.2) kvs xs /\
    ∃o es ep,h.get? a=some o/\o.ExactDict/\o.data = .dict es ep/\es.toList=xs.map (entryOfKey (tupleKind (bD P w)))/\(xs.map (·.1)).Nodup
 | .set S n=>h.SetOf (intKind P w) a S n
 | .ins C dx fs=>H dx=some (.own a)/\fs.length<=1000/\dx≠a/\h.get? a=some (PySem.W.instObj C dx) /\
    ∃mA,h.Ns1 dx mA/\(∀f,oE (fs.lookup f) (mA f))/\PySem.Within mA (fs.map (·.1))
 | .own _=>∃o,h.get? a=some o
 | .xd fs=>∃mA,h.Ns1 a mA /\ ∀f,oE (fs.lookup f) (mA f)
 | .rng lo hi=>∃t u v,h.get? a=some {cls:= .type "range",data:= .fields #[.int lo t,.int hi u,.int 1 v]}
 | .iV o u=>h.get? a=some o/\bY H h a u
 | .QJ ps=>h.get? a=some {cls:= .none,data:= .fields ps}
 | .met f x=>h.get? a=some (PySem.W.methodObj (.ref f) (.ref x))
 | .ext φ=>φ h/\(∃o,h.get? a=some o) /\ ∀h1 h2:Heap,φ h1->(∀o,h1.get? a=some o->h2.get? a=some o)->φ h2
def nP (H:Hp) (h:Heap):Prop:=∀a o,H a=some o->bY P w H h a o
end
section
variable {P:Program} {w:World} {H H':Hp} {h h':Heap} {a:Addr} {o:HO}
theorem bY.lt (x:bY P w H h a o):a<h.objs.size:=by
 cases o with
 | lst xs=>obtain ⟨_,_,_,_,e⟩:=x;exact Heap.lt_size e
 | tup xs=>obtain ⟨_,_,_,p⟩:=x;exact p.lt
 | dK kvs=>obtain ⟨_,_,_,_,o,_,_,e,_⟩:=x;exact Heap.lt_size e
 | dT kvs=>obtain ⟨_,_,_,_,o,_,_,e,_⟩:=x;exact Heap.lt_size e
 | set S n=>obtain ⟨o,_,_,_,e,_⟩:=x;exact Heap.lt_size e
 | ins C dx fs=>obtain ⟨_,_,_,e,_⟩:=x;exact Heap.lt_size e
 | own y=>obtain ⟨_,e⟩:=x;exact Heap.lt_size e
 | xd fs=>obtain ⟨_,⟨_,_,_,e,_⟩,_⟩:=x;exact Heap.lt_size e
 | rng lo hi=>obtain ⟨_,_,_,e⟩:=x;exact Heap.lt_size e
 | iV ob u=>obtain ⟨e,_⟩:=x;exact Heap.lt_size e
 | QJ ps=>exact Heap.lt_size (show h.get? a=some _ from x)
 | met f y=>exact Heap.lt_size (show h.get? a=some _ from x)
 | ext φ=>obtain ⟨_,⟨_,e⟩,_⟩:=x;exact Heap.lt_size e
theorem Paired.TF {α β:Type} {F G:α->β->Prop}:∀{l₁:List α} {l₂:List β},Paired F l₁ l₂->(∀a b,F a b->G a b)->Paired G l₁ l₂
 :=by
 intro l₁ l₂ h f
 induction h with
 | nil=>exact .nil
 | cons r t ih=>exact .cons (f _ _ r) ih
theorem bY.stay (x:bY P w H h a o) (k:∀b u,(b=a\/H b=some (.own a))->h.get? b=some u->h'.get? b=some u)
 (ho:∀b,H b=some (.own a)->H' b=some (.own a)) (ht:∀b xs,H b=some (.tup xs)->H' b=some (.tup xs)):bY P w H' h' a o:=by
 induction o with
 | lst xs=>obtain ⟨z,its,n,r,e⟩:=x;exact ⟨z,its,n,r,k _ _ (.inl rfl) e⟩
 | tup xs=>obtain ⟨z,its,r,ob,e,c⟩:=x;exact ⟨z,its,r,ob,k _ _ (.inl rfl) e,c⟩
 | dK kvs=>obtain ⟨z,y,vs,r,ob,es,ep,e,c⟩:=x;exact ⟨z,y,vs,r,ob,es,ep,k _ _ (.inl rfl) e,c⟩
 | dT kvs=>
   obtain ⟨z,y,xs,r,ob,es,ep,e,c⟩:=x;exact ⟨z,y,xs,Paired.TF r fun p q z=>⟨z.1,ht _ _ z.2.1,z.2.2⟩,ob,es,ep,k _ _ (.inl rfl) e,c⟩
 | set S n=>obtain ⟨ob,es,ep,t,e,c⟩:=x;exact ⟨ob,es,ep,t,k _ _ (.inl rfl) e,c⟩
 | ins C dx fs=>
   obtain ⟨d,z,ne,e,mA,⟨od,es,ep,e2,c⟩,r⟩:=x;exact ⟨ho _ d,z,ne,k _ _ (.inl rfl) e,mA,⟨od,es,ep,k _ _ (.inr d) e2,c⟩,r⟩
 | own y=>obtain ⟨ob,e⟩:=x;exact ⟨ob,k _ _ (.inl rfl) e⟩
 | xd fs=>obtain ⟨mA,⟨od,es,ep,e,c⟩,r⟩:=x;exact ⟨mA,⟨od,es,ep,k _ _ (.inl rfl) e,c⟩,r⟩
 | rng lo hi=>obtain ⟨t,u,v,e⟩:=x;exact ⟨t,u,v,k _ _ (.inl rfl) e⟩
 | iV ob u ih=>obtain ⟨e,q⟩:=x;exact ⟨k _ _ (.inl rfl) e,ih q⟩
 | QJ ps=>
   have e:h.get? a=some {cls:= .none,data:= .fields ps}:=x;show h'.get? a=some {cls:= .none,data:= .fields ps};exact k a _ (.inl rfl) e
 | met f y=>
   have e:h.get? a=some (PySem.W.methodObj (.ref f) (.ref y)):=x;show h'.get? a=some (PySem.W.methodObj (.ref f) (.ref y));exact k a _ (.inl rfl) e
 | ext φ=>obtain ⟨p,⟨o,e⟩,st⟩:=x;exact ⟨st _ _ p fun o q=>k _ _ (.inl rfl) q,⟨o,k _ _ (.inl rfl) e⟩,st⟩
theorem nP.lt (x:nP P w H h) (e:H a=some o):a<h.objs.size:=(x a o e).lt
theorem nP.fresh (x:nP P w H h) (e:h.objs.size<=a):H a=none:=by
 cases q:H a with
 | none=>rfl
 | some u=>exact absurd (Nat.lt_of_lt_of_le (x.lt q) e) (Nat.lt_irrefl _)
theorem nP.kept (x:nP P w H h) (k:∀b u,h.get? b=some u->h'.get? b=some u):nP P w H h':=fun a o e=>
 (x a o e).stay (fun b u _ q=>k b u q) (fun _ q=>q) fun _ _ q=>q
theorem nP.laid (x:nP P w H h) (k:∀b u,h.get? b=some u->h'.get? b=some u) (hp:h.objs.size<=a) (new:bY P w (upd H a o) h' a o):nP P w (upd H a o) h':=fun b u e=>by
 have hn:=x.fresh hp
 by_cases hb:b=a
 ·subst hb;rw [au] at e;cases e;exact new
 ·rw [bA hb] at e
  exact (x b u e).stay (fun c v _ q=>k c v q) (fun c q=>by rw [bA (aL q hn)];exact q) fun c xs q=>by rw [bA (aL q hn)];exact q
end
def Rd (H:Hp) (a:Addr) (u:HO):Prop:=H a=some u \/ ∃o,H a=some (.iV o u)
theorem Rd.ok {P:Program} {w:World} {H:Hp} {h:Heap} {a:Addr} {u:HO} (r:Rd H a u) (x:nP P w H h):bY P w H h a u:=by
 rcases r with r|⟨o,r⟩
 ·exact x a u r
 ·obtain ⟨_,q⟩:=x a _ r
  exact q
def X8:Option HO->Prop
 | some (.lst _)=>True
 | some (.dK _)=>True
 | some (.dT _)=>True
 | some (.set _ _)=>True
 | some (.ins _ _ _)=>True
 | some (.ext _)=>True
 | _=>False
section
variable {P:Program} {w:World} {H:Hp} {h h':Heap} {x e:Addr} {o':HO}
theorem nP.write (ok:nP P w H h) (mu:X8 (H x)) (he:e=x\/H e=some (.own x)) (k:∀b u,b≠e->h.get? b=some u->h'.get? b=some u) (heo:∃u,h'.get? e=some u)
 (new:bY P w (upd H x o') h' x o'):nP P w (upd H x o') h':=fun b u q=>by
 have Hs:∀c y,H c=some (.own y)->c≠x:=fun c y r z=>by subst z;rw [r] at mu;exact mu
 have acY:∀c xs,H c=some (.tup xs)->c≠x:=fun c xs r z=>by subst z;rw [r] at mu;exact mu
 by_cases hb:b=x
 ·subst hb;rw [au] at q;cases q;exact new
 ·rw [bA hb] at q
  by_cases hbe:b=e
  ·have q':H b=some (.own x):=by
    rcases he with z|z
    ·exact absurd (hbe.trans z) hb
    ·rw [hbe];exact z
   rw [q] at q';cases q';obtain ⟨v,hv⟩:=heo;exact ⟨v,by rw [hbe];exact hv⟩
  ·refine (ok b u q).stay (fun c v hc r=>k c v ?_ r) (fun c r=>by rw [bA (Hs c b r)];exact r) fun c xs r=>by rw [bA (acY c xs r)];exact r
   rcases hc with rfl|hc
   ·exact hbe
   ·rintro rfl
    rcases he with z|z
    ·exact Hs c b hc z
    ·rw [hc] at z;cases z;exact hb rfl
end
structure Un (fs ex:List Addr) (H H':Hp) (h h':Heap):Prop where
 keep:∀b o,h.get? b=some o->H b=none->b∉fs->b∉ex->h'.get? b=some o
 slot:∀b o,h.get? b=some o->H b=none->b∈fs->b∉ex -> ∃sl,h'.get? b=some {o with slots:=sl}
 free:∀b o,h.get? b=some o->H b=none->b∉ex->H' b=none
 there:∀b o,h.get? b=some o->b∉ex -> ∃o',h'.get? b=some o'
 tups:∀b xs,H b=some (.tup xs)->H' b=some (.tup xs)
 qF:∀b o u,H b=some (.iV o u)->H' b=some (.iV o u)
 vB:∀b ps,H b=some (.QJ ps) -> ∃more,H' b=some (.QJ (ps++more))
section
variable {fs fs' ex ex':List Addr} {H H1 H2:Hp} {h h1 h2 h':Heap} {a x e:Addr} {o:HO}
theorem Un.any (u:Un fs ex H H1 h h1) {b:Addr} {ob:Obj} (q:h.get? b=some ob) (n:H b=none) (hx:b∉ex):∃sl,h1.get? b=some {ob with slots:=sl}:=by
 by_cases hb:b∈fs
 ·exact u.slot b ob q n hb hx
 ·exact ⟨ob.slots,u.keep b ob q n hb hx⟩
theorem Un.kept (k:∀b u,h.get? b=some u->h'.get? b=some u):Un fs ex H H h h':=
 ⟨fun b ob q _ _ _=>k b ob q,fun b ob q _ _ _=>⟨ob.slots,k b ob q⟩,fun _ _ _ n _=>n,fun b ob q _=>⟨ob,k b ob q⟩,fun _ _ q=>q,fun _ _ _ q=>q,fun _ ps q=>⟨#[],by rw [q];simp⟩⟩
theorem Un.refl:Un fs ex H H h h:=Un.kept fun _ _ q=>q
theorem Un.laid (k:∀b u,h.get? b=some u->h'.get? b=some u) (hp:h.objs.size<=a) (hn:H a=none):Un fs ex H (upd H a o) h h' where
 keep:=fun b u q _ _ _=>k b u q
 slot:=fun b u q _ _ _=>⟨u.slots,k b u q⟩
 free:=fun b u q n _=>by rw [bA (Nat.ne_of_lt (Nat.lt_of_lt_of_le (Heap.lt_size q) hp))];exact n
 there:=fun b u q _=>⟨u,k b u q⟩
 tups:=fun b xs q=>by rw [bA (aL q hn)];exact q
 qF:=fun b u xs q=>by rw [bA (aL q hn)];exact q
 vB:=fun b ps q=>⟨#[],by rw [bA (aL q hn),q];simp⟩
theorem Un.write (mu:X8 (H x)) (he:e=x\/H e=some (.own x)) (k:∀b u,b≠e->h.get? b=some u->h'.get? b=some u) (heo:∃u,h'.get? e=some u):Un fs ex H (upd H x o) h h':=by
 have hx:∀b,H b=none->b≠x:=fun b n z=>by subst z;rw [n] at mu;exact mu
 have hb:∀b,H b=none->b≠e:=fun b n z=>by
  subst z;rcases he with r|r
  ·exact hx b n r
  ·rw [n] at r;cases r
 have hm:∀b u,H b=some u -> ¬X8 (some u)->b≠x:=fun b u q nm z=>by subst z;rw [q] at mu;exact nm mu
 refine ⟨fun b u q n _ _=>k b u (hb b n) q,fun b u q n _ _=>⟨u.slots,k b u (hb b n) q⟩,fun b u q n _=>by rw [bA (hx b n)];exact n,fun b u q _=> ?_,
  fun b xs q=>by rw [bA (hm b _ q fun z=>z)];exact q,fun b u xs q=>by rw [bA (hm b _ q fun z=>z)];exact q,fun b ps q=>⟨#[],by rw [bA (hm b _ q fun z=>z),q];simp⟩⟩
 by_cases hbe:b=e
 ·subst hbe;exact heo
 ·exact ⟨u,k b u hbe q⟩
end
def Yi (h:Heap) (H:Hp):List Addr:=(List.range h.objs.size).filter fun a=>(H a).isSome
def yJ (h:Heap) (H:Hp):Heap:=PySem.W.hideAll h (Yi h H)
theorem HY (h:Heap) (H:Hp):(yJ h H).objs.size=h.objs.size:=PySem.W.hideAll_size _ _
theorem Lr {h:Heap} {H:Hp} {b:Addr} {o:Obj} (e:h.get? b=some o) (n:H b=none):(yJ h H).get? b=some o:=
 PySem.W.hideAll_get _ e fun hm=>by
  have q:(H b).isSome=true:=(List.mem_filter.mp hm).2;rw [n] at q;simp at q
theorem O5 {h:Heap} {H:Hp} {b:Addr} {o:Obj} (e:(yJ h H).get? b=some o):h.get? b=some o/\H b=none:=by
 have e':h.get? b=some o:=PySem.W.of_hideAll (Yi h H) e;refine ⟨e', ?_⟩;cases q:H b with
 | none=>rfl
 | some x=>
   have hm:b∈Yi h H:=List.mem_filter.mpr ⟨List.mem_range.mpr (Heap.lt_size e'),by simp [q]⟩;have z:(yJ h H).get? b=none:=PySem.W.hideAll_none (Yi h H) hm;rw [z] at e;cases e
def Qs (g h:Heap) (L:Addr):List (Addr×Obj):=(List.range h.objs.size).filterMap fun a=>if a=L\/(g.get? a).isSome=true then none else (h.get? a).map fun o=>(a,o)
def rest (g h:Heap) (L d:Addr):List (Addr×Obj):=(Qs g h L).filter fun p=>decide (p.1≠d)
end L2
namespace L2
open PySem PySem.Spec PyProof.Rows
structure Mod (K:PySem.W.Frag) (mg:Str->Option Value) (base:Heap):Prop where
 kin:K.In base
 glob:base.Ns mainGlobals mg
 blt:∃mb,base.Ns builtinsNs mb /\ ∀x:Str,x ≠ "__name__" -> mb x=bootBuiltins x
 nolimit:base.NoLimit
structure Cx where
 prog:Program
 w:World
 K:PySem.W.Frag
 mg:Str->Option Value
 base:Heap
 A:Around
 N:List Str
 s₀:Shared
 H₀:Hp
 env:Env
 outer:List Env
 stack:List Env
 ex:List Addr
 fn:Str->Bool
 calm:Bool
 pn:List (Addr×Obj)
 xe:Value->Shared->Prop
def frs (l:List Env):List Addr:=l.filterMap (·.frame)
abbrev Cx.fs (X:Cx):List Addr:=frs X.outer
def Vis (sc:Scope) (x:Str):Prop:=sc.names.lookup x=some .local\/sc.names.lookup x=some .cell\/sc.names.lookup x=some .free
def Loc (sc:Scope) (x:Str):Prop:=sc.names.lookup x=some .local\/sc.names.lookup x=some .cell
def Look (env:Env) (h:Heap) (m:Str->Option Value) (x:Str) (u:Value):Prop:=
 (env.kindOf x=some .local/\m x=some u)\/((env.kindOf x=some .cell\/env.kindOf x=some .free) /\ ∃c,env.cells.lookup x=some c/\h.IsCell c (some u))
structure Cx.Ok (X:Cx):Prop where
 mod:Mod X.K X.mg X.base
 kind:X.env.scope.kind = .function
 glob:X.env.globals=mainGlobals
 blt:X.env.builtins=builtinsNs
 above:X.s₀.heap.objs.size<=X.env.locals
 inj:∀x y c,X.env.cells.lookup x=some c->X.env.cells.lookup y=some c->x=y
 has:∀x,(X.env.kindOf x=some .cell\/X.env.kindOf x=some .free) -> ∃c,X.env.cells.lookup x=some c
 cab:∀x c,X.fn x=true->X.env.cells.lookup x=some c->X.s₀.heap.objs.size<=c
 hd:X.calm=true->X.A.handled=none
 frames:X.A.frames=some X.stack
 stk:X.stack=X.outer\/(X.stack=X.env::X.outer/\X.env.frame=some X.env.locals)
 exf:∀b∈X.ex,b≠X.env.locals /\ ∀x c,X.env.cells.lookup x=some c->c≠b
 bs:∀b o,X.base.get? b=some o->X.s₀.heap.get? b=some o/\X.H₀ b=none
 Rj:X.base.objs.size<=X.s₀.heap.objs.size
 KR:∀b o,X.base.get? b=some o->b∉X.ex
 P_:∀b∈X.ex,b∉X.fs
 uw:X.s₀.heap.FunFrames X.base X.outer
 U_:∀b∈X.fs,X.H₀ b=none
structure Inv (X:Cx) (pins:List (Addr×Obj)) (σ:List (Option V)) (H:Hp) (s:Shared):Prop where
 ok:X.Ok
 os:s.os=X.s₀.os
 bare:AllBare s.gens
 base:Un X.fs X.ex X.H₀ H X.s₀.heap s.heap
 loc:∃m,s.heap.Ns X.env.locals m /\ ∀(i:Nat) (x:Str) (v:V),X.N[i]? = some x->σ[i]? = some (some v)->Vis X.env.scope x -> ∃u,RelV v u/\Look X.env s.heap m x u
 cell:∀x c,X.env.cells.lookup x=some c -> ∃v,s.heap.IsCell c v
 free:H X.env.locals=none
 lN:∀x c,X.env.cells.lookup x=some c->H c=none
 pin:∀p∈X.pn++pins,s.heap.get? p.1=some p.2/\H p.1=none/\p.1≠X.env.locals/\p.1∉X.fs /\ ∀v,p.2.data ≠ .cell v
 hok:nP X.prog X.w H s.heap
 len:σ.length=X.N.length
section
variable {X:Cx} {pins:List (Addr×Obj)} {σ:List (Option V)} {H H':Hp} {s:Shared} {h':Heap}
theorem Cx.Ok.ac3 (ok:X.Ok) {b:Addr} {o:Obj} (e:X.base.get? b=some o):b∉X.fs:=fun hb=>by
 have:=(ok.uw.mem hb).1;rw [e] at this;cases this
theorem Inv.bs (I:Inv X pins σ H s):∀b o,X.base.get? b=some o->s.heap.get? b=some o/\H b=none:=fun b o e=>
 ⟨I.base.keep b o (I.ok.bs b o e).1 (I.ok.bs b o e).2 (I.ok.ac3 e) (I.ok.KR b o e),I.base.free b o (I.ok.bs b o e).1 (I.ok.bs b o e).2 (I.ok.KR b o e)⟩
theorem Inv.bk (I:Inv X pins σ H s):∀b o,X.base.get? b=some o->s.heap.get? b=some o:=fun b o e=>(I.bs b o e).1
theorem Inv.mod (I:Inv X pins σ H s):Mod X.K X.mg X.base:=I.ok.mod
theorem Inv.Aj (I:Inv X pins σ H s):X.K.In s.heap:=I.ok.mod.kin.keeps I.bk
theorem Inv.lt (I:Inv X pins σ H s):X.env.locals<s.heap.objs.size:=let ⟨_,hn,_⟩:=I.loc;hn.lt
theorem Inv.sz (I:Inv X pins σ H s):X.s₀.heap.objs.size<=s.heap.objs.size:=Nat.le_trans I.ok.above (Nat.le_of_lt I.lt)
theorem Inv.ac2 (I:Inv X pins σ H s) {a:Addr} (h:s.heap.objs.size<=a):a∉X.fs:=fun hb=>by
 obtain ⟨_,o,ho,_⟩:=I.ok.uw.mem hb;exact absurd (Nat.lt_of_lt_of_le (Heap.lt_size ho) (Nat.le_trans I.sz h)) (Nat.lt_irrefl _)
theorem Inv.Uo (I:Inv X pins σ H s):∀x c,X.env.cells.lookup x=some c->c≠X.env.locals:=fun x c e z=>by
 obtain ⟨v,o,ho,hd⟩:=I.cell x c e;obtain ⟨m,⟨o',es,ep,ho',hd',_⟩,_⟩:=I.loc;rw [z,ho'] at ho;cases ho;rw [hd'] at hd;cases hd
theorem Inv.uw (I:Inv X pins σ H s):s.heap.FunFrames X.base X.outer:=by
 have all:∀(l:List Env),(∀b∈frs l,b∈X.fs)->X.s₀.heap.FunFrames X.base l->s.heap.FunFrames X.base l:=by
  intro l
  induction l with
  | nil=>intro _ _;trivial
  | cons env r ih=>
    intro hs hl;obtain ⟨hk,⟨L,o,hf,hn,ho,hd⟩,hr⟩:=hl;have hL:L∈X.fs:=hs L (by unfold frs;rw [List.filterMap_cons,hf];exact List.mem_cons_self);obtain ⟨sl,e⟩:=I.base.slot L o ho (I.ok.U_ L hL) hL fun z=>I.ok.P_ L z hL;exact ⟨hk,⟨L,_,hf,hn,e,hd⟩,ih (fun b hb=>hs b (by unfold frs;rw [List.filterMap_cons,hf];exact List.mem_cons_of_mem _ hb)) hr⟩
 exact all X.outer (fun _ hb=>hb) I.ok.uw
theorem Inv.stack (I:Inv X pins σ H s):s.heap.FunFrames X.base X.stack:=by
 rcases I.ok.stk with e|⟨e,hf⟩
 ·rw [e];exact I.uw
 ·rw [e]
  obtain ⟨m,hn,_⟩:=I.loc;refine .cons (by rw [I.ok.kind];decide) hf hn ?_ I.uw;exact Heap.get?_none_of_le (Nat.le_trans I.ok.Rj I.ok.above)
theorem Inv.xK (I:Inv X pins σ H s):∀b∈frs X.stack,b∈X.env.locals::X.fs:=fun b hb=>by
 rcases I.ok.stk with e|⟨e,hf⟩
 ·rw [e] at hb;exact List.mem_cons_of_mem _ hb
 ·rw [e] at hb
  unfold frs at hb;rw [List.filterMap_cons,hf] at hb;exact hb
theorem Inv.En (I:Inv X pins σ H s):∀b∈frs X.stack,H b=none:=fun b hb=>by
 rcases List.mem_cons.mp (I.xK b hb) with e|hb
 ·rw [e];exact I.free
 ·obtain ⟨_,o,ho,_⟩:=I.ok.uw.mem hb
  exact I.base.free b o ho (I.ok.U_ b hb) fun z=>I.ok.P_ b z hb
theorem Inv.step {g':Array GenState} {t':Nat} {d':Drawn} {ch:List Addr} (I:Inv X pins σ H s)
 (hch:∀b∈ch,(b∈X.ex\/X.s₀.heap.objs.size<=b)/\b≠X.env.locals/\(∀x c,X.env.cells.lookup x=some c->c≠b) /\ ∀p∈X.pn++pins,p.1≠b)
 (keep:∀b o,b≠X.env.locals->b∉X.fs->b∉ch->s.heap.get? b=some o->H b=none->h'.get? b=some o)
 (slot:∀b o,b≠X.env.locals->b∈X.fs->b∉ch->s.heap.get? b=some o->H b=none -> ∃sl,h'.get? b=some {o with slots:=sl}) (free:∀b o,b∉ch->s.heap.get? b=some o->H b=none->H' b=none)
 (there:∀b o,b∉ch->s.heap.get? b=some o -> ∃o',h'.get? b=some o')
 (tups:∀b xs,H b=some (.tup xs)->H' b=some (.tup xs)) (qF:∀b o u,H b=some (.iV o u)->H' b=some (.iV o u)) (vB:∀b ps,H b=some (.QJ ps) -> ∃more,H' b=some (.QJ (ps++more)))
 (ns:∀m,s.heap.Ns X.env.locals m->h'.Ns X.env.locals m) (hok:nP X.prog X.w H' h') (hg:AllBare g'):
 Inv X pins σ H' {s with heap:=h',gens:=g',drawn:=d',toks:=t'}:=by
 have neL:∀b o,X.s₀.heap.get? b=some o->b≠X.env.locals:=fun b o e=>Nat.ne_of_lt (Nat.lt_of_lt_of_le (Heap.lt_size e) I.ok.above)
 have Yy:∀b o,X.s₀.heap.get? b=some o->b∉X.ex->b∉ch:=fun b o e hx hb=>by
  rcases (hch b hb).1 with z|z
  ·exact hx z
  ·exact absurd (Nat.lt_of_lt_of_le (Heap.lt_size e) z) (Nat.lt_irrefl _)
 have cellK:∀x c,X.env.cells.lookup x=some c -> ∀v,s.heap.IsCell c v->h'.IsCell c v:=fun x c e v ⟨o,ho,hd⟩=>by
  have V8:c∉ch:=fun z=>(hch c z).2.2.1 x c e rfl
  by_cases hc:c∈X.fs
  ·obtain ⟨sl,q⟩:=slot c o (I.Uo x c e) hc V8 ho (I.lN x c e)
   exact ⟨_,q,hd⟩
  ·exact ⟨o,keep c o (I.Uo x c e) hc V8 ho (I.lN x c e),hd⟩
 refine ⟨I.ok,I.os,hg,⟨fun b o e n hb hx=> ?_,fun b o e n hb hx=> ?_,fun b o e n hx=> ?_,fun b o e hx=> ?_,fun b xs e=>tups b xs (I.base.tups b xs e),fun b o xs e=>qF b o xs (I.base.qF b o xs e),fun b ps e=> ?_⟩, ?_,fun x c e=> ?_, ?_,fun x c e=> ?_,fun p hp=> ?_,hok,I.len⟩
 ·exact keep b o (neL b o e) hb (Yy b o e hx) (I.base.keep b o e n hb hx) (I.base.free b o e n hx)
 ·obtain ⟨sl,e1⟩:=I.base.slot b o e n hb hx
  obtain ⟨sl',e2⟩:=slot b _ (neL b o e) hb (Yy b o e hx) e1 (I.base.free b o e n hx);exact ⟨sl',e2⟩
 ·obtain ⟨o',e1⟩:=I.base.there b o e hx
  exact free b o' (Yy b o e hx) e1 (I.base.free b o e n hx)
 ·obtain ⟨o',e1⟩:=I.base.there b o e hx
  exact there b o' (Yy b o e hx) e1
 ·obtain ⟨m1,e1⟩:=I.base.vB b ps e
  obtain ⟨m2,e2⟩:=vB b _ e1;exact ⟨m1++m2,by rw [e2,Array.append_assoc]⟩
 ·obtain ⟨m,hn,hl⟩:=I.loc
  refine ⟨m,ns m hn,fun i x v e1 e2 e3=> ?_⟩;obtain ⟨u,r,l⟩:=hl i x v e1 e2 e3;refine ⟨u,r, ?_⟩;rcases l with l|⟨k,c,e,z⟩
  ·exact .inl l
  ·exact .inr ⟨k,c,e,cellK x c e _ z⟩
 ·obtain ⟨v,z⟩:=I.cell x c e
  exact ⟨v,cellK x c e v z⟩
 ·obtain ⟨m,⟨o,_,_,ho,_⟩,_⟩:=I.loc
  exact free _ o (fun z=>(hch _ z).2.1 rfl) ho I.free
 ·obtain ⟨v,o,ho,hd⟩:=I.cell x c e
  exact free c o (fun z=>(hch c z).2.2.1 x c e rfl) ho (I.lN x c e)
 ·obtain ⟨e,n,ne,nf,d⟩:=I.pin p hp
  have V8:p.1∉ch:=fun z=>(hch p.1 z).2.2.2 p hp rfl;exact ⟨keep p.1 p.2 ne nf V8 e n,free p.1 p.2 V8 e n,ne,nf,d⟩
theorem Inv.un {t':Nat} (I:Inv X pins σ H s) (u:Un X.fs [] H H' s.heap h') (hok:nP X.prog X.w H' h'):Inv X pins σ H' {s with heap:=h',toks:=t'}:=by
 obtain ⟨m,⟨o,es,ep,ho,r⟩,_⟩:=id I.loc;obtain ⟨sl,hL⟩:=u.any ho I.free (by simp)
 exact I.step (g':=s.gens) (d':=s.drawn) (ch:=[]) (fun _ z=>nomatch z) (fun b o _ hb _ e n=>u.keep b o e n hb (by simp)) (fun b o _ hb _ e n=>u.slot b o e n hb (by simp)) (fun b o _ e n=>u.free b o e n (by simp)) (fun b o _ e=>u.there b o e (by simp)) u.tups u.qF u.vB (fun m' hm=>by
  obtain ⟨o',es',ep',ho',r'⟩:=hm;rw [ho] at ho';cases ho';exact ⟨_,es',ep',hL,r'⟩) hok I.bare
theorem Inv.call {g':Array GenState} {t':Nat} {d':Drawn} {ch:List Addr} (I:Inv X pins σ H s) (u:Un (frs X.stack) ch H H' s.heap h') (hok:nP X.prog X.w H' h') (hg:AllBare g')
 (hch:∀b∈ch,(b∈X.ex\/X.s₀.heap.objs.size<=b)/\b≠X.env.locals/\(∀x c,X.env.cells.lookup x=some c->c≠b) /\ ∀p∈X.pn++pins,p.1≠b):
 Inv X pins σ H' {s with heap:=h',gens:=g',drawn:=d',toks:=t'}:=by
 obtain ⟨m,⟨o,es,ep,ho,r⟩,_⟩:=id I.loc;obtain ⟨sl,hL⟩:=u.any ho I.free fun z=>(hch _ z).2.1 rfl
 exact I.step (ch:=ch) hch (fun b o hL hb hc e n=>u.keep b o e n (fun z=>(List.mem_cons.mp (I.xK b z)).elim hL hb) hc) (fun b o _ _ hc e n=>u.any e n hc) (fun b o hc e n=>u.free b o e n hc) (fun b o hc e=>u.there b o e hc) u.tups u.qF u.vB (fun m' hm=>by
  obtain ⟨o',es',ep',ho',r'⟩:=hm;rw [ho] at ho';cases ho';exact ⟨_,es',ep',hL,r'⟩) hok hg
theorem Inv.turned {t':Nat} {it:Addr} (I:Inv X pins σ H s) (k:∀b o,b≠it->s.heap.get? b=some o->h'.get? b=some o) (hn:H it=none) (hL:it≠X.env.locals)
 (h1:it∈X.ex\/X.s₀.heap.objs.size<=it) (h2:∀x c,X.env.cells.lookup x=some c->c≠it) (h3:∀p∈X.pn++pins,p.1≠it):Inv X pins σ H {s with heap:=h',toks:=t'}:=by
 have Pa:∀b u,H b=some u->b≠it:=fun b u e z=>by rw [z,hn] at e;cases e
 refine I.step (g':=s.gens) (d':=s.drawn) (ch:=[it]) (fun b hb=> ?_) (fun b o _ _ hc e _=>k b o (fun z=>hc (by simp [z])) e) (fun b o _ _ hc e _=>⟨o.slots,k b o (fun z=>hc (by simp [z])) e⟩) (fun _ _ _ _ n=>n)
  (fun b o hc e=>⟨o,k b o (fun z=>hc (by simp [z])) e⟩) (fun _ _ e=>e) (fun _ _ _ e=>e) (fun b ps e=>⟨#[],by rw [e];simp⟩) (fun m hm=> ?_) (fun b u e=> ?_) I.bare
 ·have e:b=it:=by simpa using hb
  subst e;exact ⟨h1,hL,h2,h3⟩
 ·obtain ⟨o,es,ep,ho,r⟩:=hm
  exact ⟨o,es,ep,k _ o (Ne.symm hL) ho,r⟩
 ·refine (I.hok b u e).stay (fun c v hc q=>k c v ?_ q) (fun _ q=>q) fun _ _ q=>q
  rcases hc with z|z
  ·rw [z];exact Pa b u e
  ·exact Pa c _ z
theorem Inv.tok (I:Inv X pins σ H s) (t:Nat):Inv X pins σ H {s with toks:=t}:=I.un (h':=s.heap) (t':=t) Un.refl I.hok
theorem Inv.kept {t':Nat} (I:Inv X pins σ H s) (k:∀b u,s.heap.get? b=some u->h'.get? b=some u):Inv X pins σ H {s with heap:=h',toks:=t'}:=I.un (Un.kept k) (I.hok.kept k)
theorem Inv.laid {a:Addr} {o:HO} {t':Nat} (I:Inv X pins σ H s) (k:∀b u,s.heap.get? b=some u->h'.get? b=some u) (hp:s.heap.objs.size<=a) (new:bY X.prog X.w (upd H a o) h' a o):
 Inv X pins σ (upd H a o) {s with heap:=h',toks:=t'}:=I.un (Un.laid k hp (I.hok.fresh hp)) (I.hok.laid k hp new)
theorem Inv.write {x e:Addr} {o:HO} {t':Nat} (I:Inv X pins σ H s) (mu:X8 (H x)) (he:e=x\/H e=some (.own x)) (k:∀b u,b≠e->s.heap.get? b=some u->h'.get? b=some u) (heo:∃u,h'.get? e=some u)
 (new:bY X.prog X.w (upd H x o) h' x o):Inv X pins σ (upd H x o) {s with heap:=h',toks:=t'}:=I.un (Un.write mu he k heo) (I.hok.write mu he k heo new)
theorem Inv.Fg {Fi:List (Addr×Obj)} (I:Inv X pins σ H s) (h:∀p∈Fi,s.heap.get? p.1=some p.2/\H p.1=none/\p.1≠X.env.locals/\p.1∉X.fs /\ ∀v,p.2.data ≠ .cell v):Inv X Fi σ H s:=
 ⟨I.ok,I.os,I.bare,I.base,I.loc,I.cell,I.free,I.lN,fun p hp=>(List.mem_append.mp hp).elim (fun z=>I.pin p (List.mem_append_left _ z)) (h p),I.hok,I.len⟩
theorem z7 {N:List Str} (hN:N.Nodup) {i j:Nat} {x:Str} (a:N[i]? = some x) (b:N[j]? = some x):i=j:=by
 obtain ⟨h1,e1⟩:=List.getElem?_eq_some_iff.mp a;obtain ⟨h2,e2⟩:=List.getElem?_eq_some_iff.mp b;exact (List.getElem_inj hN).mp (e1.trans e2.symm)
theorem wk {M:Model} {A:Around} {E:Value->Shared->Prop} {i:Nat} {x:Str} {v:V} {u:Value} {Q:Unit->Shared->Prop} (I:Inv X pins σ H s) (hN:X.N.Nodup) (hi:X.N[i]? = some x) (hx:Loc X.env.scope x) (r:RelV v u)
 (h:∀s',Inv X pins (σ.set i (some v)) H s'->(∃a,Heap.SameBut a s.heap s'.heap/\(a=X.env.locals\/X.env.cells.lookup x=some a))->Q () s') (hf:X.fn x=true\/X.env.scope.names.lookup x=some .local:=by first |exact .inl rfl|exact .inr rfl|assumption):wpAny M A (storeName X.env x u) Q E s:=by
 obtain ⟨m,hn,hl⟩:=id I.loc;have hcls:(X.env.scope.kind == .class||(X.env.scope.kind == .module&&X.env.locals != X.env.globals))=false:=by rw [I.ok.kind];rfl
 have ahW:i<σ.length:=by rw [I.len];exact (List.getElem?_eq_some_iff.mp hi).1
 have Uo:=I.Uo
 have tracked:∀{a:Addr} {h':Heap},(∃o,s.heap.get? a=some o/\H a=none)->Heap.SameBut a s.heap h'->nP X.prog X.w H h':=fun {a h'} ha hs b ob e=>by
  obtain ⟨_,_,hfree⟩:=ha;refine (I.hok b ob e).stay (fun c w' hc q=>(hs.2 c ?_).trans q) (fun _ q=>q) fun _ _ q=>q;rintro rfl;rcases hc with rfl|hc
  ·rw [hfree] at e;cases e
  ·rw [hfree] at hc;cases hc
 rcases hx with hk|hk
 ·refine wpAny_storeName_local hk hn (fun h' hn' hs=> ?_) hcls
  obtain ⟨oL,_,_,hoL,_⟩:=id hn;refine h _ ⟨I.ok,I.os,I.bare,⟨fun b o e n hb hx=> ?_,fun b o e n hb hx=> ?_,I.base.free,fun b o e hx=> ?_,I.base.tups,I.base.qF,I.base.vB⟩,⟨_,hn',fun j y v' e1 e2 e3=> ?_⟩,fun y c e=> ?_,I.free,I.lN,fun p hp=> ?_,tracked ⟨oL,hoL,I.free⟩ hs,by simpa using I.len⟩ ⟨_,hs,.inl rfl⟩
  ·exact (hs.2 b (Nat.ne_of_lt (Nat.lt_of_lt_of_le (Heap.lt_size e) I.ok.above))).trans (I.base.keep b o e n hb hx)
  ·obtain ⟨sl,e1⟩:=I.base.slot b o e n hb hx
   exact ⟨sl,(hs.2 b (Nat.ne_of_lt (Nat.lt_of_lt_of_le (Heap.lt_size e) I.ok.above))).trans e1⟩
  ·obtain ⟨o',e1⟩:=I.base.there b o e hx
   exact ⟨o',(hs.2 b (Nat.ne_of_lt (Nat.lt_of_lt_of_le (Heap.lt_size e) I.ok.above))).trans e1⟩
  ·by_cases hj:j=i
   ·subst hj
    rw [hi] at e1;cases e1;rw [List.getElem?_set_self ahW] at e2;cases e2;exact ⟨u,r,.inl ⟨hk,by simp⟩⟩
   ·rw [List.getElem?_set_ne (Ne.symm hj)] at e2
    obtain ⟨u',r',q⟩:=hl j y v' e1 e2 e3;refine ⟨u',r', ?_⟩;rcases q with ⟨k,e⟩|⟨k,c,e,z⟩
    ·refine .inl ⟨k, ?_⟩
     have:y≠x:=fun e=>hj (z7 hN e1 (e▸hi));simp [this,e]
    ·exact .inr ⟨k,c,e,z.sameBut hs (Uo y c e)⟩
  ·obtain ⟨w',z⟩:=I.cell y c e
   exact ⟨w',z.sameBut hs (Uo y c e)⟩
  ·obtain ⟨e,n,ne,nf,d⟩:=I.pin p hp
   exact ⟨(hs.2 p.1 ne).trans e,n,ne,nf,d⟩
 ·have hfn:X.fn x=true:=by
   rcases hf with z|z
   ·exact z
   ·rw [z] at hk;cases hk
  obtain ⟨c,hc⟩:=I.ok.has x (.inl hk);obtain ⟨w',z⟩:=I.cell x c hc;refine wpAny_storeName_cell I.ok.kind hk hc z (fun h' hc' hs=> ?_);obtain ⟨oc,hoc,aeA⟩:=id z;refine h {s with heap:=h'} ⟨I.ok,I.os,I.bare,⟨fun b o e n hb hx=> ?_,fun b o e n hb hx=> ?_,I.base.free,fun b o e hx=> ?_,I.base.tups,I.base.qF,I.base.vB⟩,⟨m,hn.sameBut hs (Ne.symm (Uo x c hc)),fun j y v' e1 e2 e3=> ?_⟩,fun y c' e=> ?_,I.free,I.lN,fun p hp=> ?_,tracked ⟨oc,hoc,I.lN x c hc⟩ hs,by simpa using I.len⟩ ⟨c,hs,.inr hc⟩
  ·exact (hs.2 b (Nat.ne_of_lt (Nat.lt_of_lt_of_le (Heap.lt_size e) (I.ok.cab x c hfn hc)))).trans (I.base.keep b o e n hb hx)
  ·obtain ⟨sl,e1⟩:=I.base.slot b o e n hb hx
   exact ⟨sl,(hs.2 b (Nat.ne_of_lt (Nat.lt_of_lt_of_le (Heap.lt_size e) (I.ok.cab x c hfn hc)))).trans e1⟩
  ·obtain ⟨o',e1⟩:=I.base.there b o e hx
   exact ⟨o',(hs.2 b (Nat.ne_of_lt (Nat.lt_of_lt_of_le (Heap.lt_size e) (I.ok.cab x c hfn hc)))).trans e1⟩
  ·by_cases hj:j=i
   ·subst hj
    rw [hi] at e1;cases e1;rw [List.getElem?_set_self ahW] at e2;cases e2;exact ⟨u,r,.inr ⟨.inl hk,c,hc,hc'⟩⟩
   ·rw [List.getElem?_set_ne (Ne.symm hj)] at e2
    obtain ⟨u',r',q⟩:=hl j y v' e1 e2 e3;refine ⟨u',r', ?_⟩;rcases q with q|⟨k,c',e,z'⟩
    ·exact .inl q
    ·refine .inr ⟨k,c',e,z'.sameBut hs ?_⟩
     rintro rfl;exact hj (z7 hN e1 (I.ok.inj _ _ _ e hc▸hi))
  ·by_cases hcc:c'=c
   ·subst hcc;exact ⟨_,hc'⟩
   ·obtain ⟨w2,z2⟩:=I.cell y c' e
    exact ⟨w2,z2.sameBut hs hcc⟩
  ·obtain ⟨e,n,ne,nf,d⟩:=I.pin p hp
   refine ⟨(hs.2 p.1 ?_).trans e,n,ne,nf,d⟩;intro q;rw [q,hoc] at e;have q':oc=p.2:=Option.some.inj e;exact d w' (by rw [←q'];exact aeA)
theorem zG {M:Model} {A:Around} {E:Value->Shared->Prop} {i:Nat} {x:Str} {v:V} {u:Value} {Q:Unit->Shared->Prop} (I:Inv X pins σ H s) (hN:X.N.Nodup) (hi:X.N[i]? = some x) (hx:Loc X.env.scope x) (r:RelV v u)
 (h:∀s',Inv X pins (σ.set i (some v)) H s'->Q () s') (hf:X.fn x=true\/X.env.scope.names.lookup x=some .local:=by first |exact .inl rfl|exact .inr rfl|assumption):wpAny M A (storeName X.env x u) Q E s:=
 wk I hN hi hx r (fun s' I' _=>h s' I') hf
theorem Inv.call' {s':Shared} {ch:List Addr} (I:Inv X pins σ H s) (ho:s'.os=s.os) (u:Un (frs X.stack) ch H H' s.heap s'.heap) (hok:nP X.prog X.w H' s'.heap) (hg:AllBare s'.gens)
 (hch:∀b∈ch,(b∈X.ex\/X.s₀.heap.objs.size<=b)/\b≠X.env.locals/\(∀x c,X.env.cells.lookup x=some c->c≠b) /\ ∀p∈X.pn++pins,p.1≠b):Inv X pins σ H' s':=by
 obtain ⟨h',g',d',t',o'⟩:=s';have e:o'=s.os:=ho;subst e;exact I.call (g':=g') (t':=t') (d':=d') u hok hg hch
end
abbrev XK:=Value->Option Addr->Hp->Prop
abbrev St:=List (Option V)
abbrev VK:=V->Hp->Prop
abbrev TE:=St->Hp->VK->Prop
abbrev TT:=St->Hp->(Bool->Hp->Prop)->Prop
abbrev TA:=St->Hp->(List V->Hp->Prop)->Prop
structure Ends where
 nx:St->Hp->Prop
 rt:VK
 bk:St->Hp->Prop:=fun _ _=>False
 ct:St->Hp->Prop:=fun _ _=>False
abbrev TS:=Ends->St->Hp->Prop
def EP (X:Cx) (pins:List (Addr×Obj)) (σ:St) (Q:VK) (u:Value) (s':Shared):Prop:=∃v H',Inv X pins σ H' s'/\RelV v u/\Q v H'
def TP (X:Cx) (pins:List (Addr×Obj)) (σ:St) (Q:Bool->Hp->Prop) (b:Bool) (s':Shared):Prop:=∃H',Inv X pins σ H' s'/\Q b H'
def AP (X:Cx) (pins:List (Addr×Obj)) (σ:St) (Q:List V->Hp->Prop) (us:List Value) (s':Shared):Prop:=∃vs H',Inv X pins σ H' s'/\Vals vs us/\Q vs H'
def SP (X:Cx) (pins:List (Addr×Obj)) (D:Ends) (f:Flow) (s':Shared):Prop:=
 match f with
 | .next=>∃σ' H',Inv X pins σ' H' s'/\D.nx σ' H'
 | .brk=>∃σ' H',Inv X pins σ' H' s'/\D.bk σ' H'
 | .cont=>∃σ' H',Inv X pins σ' H' s'/\D.ct σ' H'
 | .ret u=>∃v σ' H',Inv X pins σ' H' s'/\RelV v u/\D.rt v H'
def PE (X:Cx) (e:Expr) (t:TE):Prop:=
 ∀(pins:List (Addr×Obj)) (s:Shared) (σ:St) (H:Hp) (Q:VK),Inv X pins σ H s->t σ H Q->wpAny (model X.prog X.w) X.A (eval e X.env) (EP X pins σ Q) X.xe s
def PT (X:Cx) (e:Expr) (t:TT):Prop:=
 ∀(pins:List (Addr×Obj)) (s:Shared) (σ:St) (H:Hp) (Q:Bool->Hp->Prop),Inv X pins σ H s->t σ H Q->wpAny (model X.prog X.w) X.A (isTrue e X.env (eval e X.env)) (TP X pins σ Q) X.xe s
def PW (X:Cx) (e:Expr) (t:TT):Prop:=
 ∀(whole:Sem Value) (pins:List (Addr×Obj)) (s:Shared) (σ:St) (H:Hp) (Q:Bool->Hp->Prop),Inv X pins σ H s->t σ H Q->wpAny (model X.prog X.w) X.A (isTrue e X.env whole) (TP X pins σ Q) X.xe s
theorem PW.pt {X:Cx} {e:Expr} {t:TT} (h:PW X e t):PT X e t:=h _
def PA (X:Cx) (es:List Expr) (t:TA):Prop:=
 ∀(pos:Pos) (pins:List (Addr×Obj)) (s:Shared) (σ:St) (H:Hp) (Q:List V->Hp->Prop),Inv X pins σ H s->t σ H Q->wpAny (model X.prog X.w) X.A (spliced (backTo pos (starEach es X.env))) (AP X pins σ Q) X.xe s
def PS (X:Cx) (st:Stmt) (t:TS):Prop:=
 ∀(pins:List (Addr×Obj)) (s:Shared) (σ:St) (H:Hp) (D:Ends),Inv X pins σ H s->t D σ H->wpAny (model X.prog X.w) X.A (exec st X.env) (SP X pins D) X.xe s
def IW (X:Cx) (st:List Stmt) (t:TS):Prop:=
 ∀(pins:List (Addr×Obj)) (s:Shared) (σ:St) (H:Hp) (D:Ends),Inv X pins σ H s->t D σ H->wpAny (model X.prog X.w) X.A (execs st X.env) (SP X pins D) X.xe s
theorem cF {α:Type} {t:Sem α} {Q Q':α->Shared->Prop} {M:Model} {A:Around} {E:Value->Shared->Prop} {s:Shared} (h:wpAny M A t Q E s) (hQ:∀a s,Q a s->Q' a s):wpAny M A t Q' E s:=wpAny_mono h hQ fun _ _ x=>x
end L2
namespace L2
open PySem PySem.Spec PyProof.Rows
section
variable {X:Cx}
def zF (i:Nat):TE:=fun σ H Q=>∃v,σ[i]? = some (some v)/\Q v H
def tC (v:V):TE:=fun _ H Q=>Q v H
theorem Tc {i:Nat} {x:Str} {pos:Pos} (hN:X.N[i]? = some x) (hv:Vis X.env.scope x) (hd:(x==("__debug__" :Str))=false:=by decide) (hcd:(x==("__classdict__" :Str))=false:=by decide):PE X (.Name x pos) (zF i):=by
 intro pins s σ H Q I h;obtain ⟨v,e,h⟩:=h;obtain ⟨m,hn,hl⟩:=I.loc;obtain ⟨u,r,l⟩:=hl i x v hN e hv;have fin:EP X pins σ Q u s:=⟨v,H,I,r,h⟩;rcases l with ⟨hk,hm⟩|⟨hk,c,hc,hcell⟩
 ·exact wpAny_Name (wpAny_loadName_local I.ok.kind hk hn hm fin) hd
 ·rcases hk with hk|hk
  ·exact wpAny_Name (wpAny_loadName_cell I.ok.kind hk hc hcell fin) hd
  ·exact wpAny_Name (wpAny_loadName_free I.ok.kind hk hc hcell fin hcd) hd
theorem ao {i j pos}:PE X (.Constant (.int i) j pos) (tC (.int i)):=fun _ _ _ H _ I h=>wpAny_Constant_int ⟨.int i,H,I.tok _,⟨_,rfl⟩,h⟩
theorem fU {b j pos}:PE X (.Constant (.bool b) j pos) (tC (.bl b)):=fun _ _ _ H _ I h=>Constant_bool ⟨.bl b,H,I,rfl,h⟩
theorem iy {j pos}:PE X (.Constant .none j pos) (tC .non):=fun _ _ _ H _ I h=>Constant_none ⟨.non,H,I,rfl,h⟩
theorem iw {x j pos}:PE X (.Constant (.str x) j pos) (tC (.str x)):=fun _ _ _ H _ I h=>Calls.Constant_str ⟨.str x,H,I.tok _,⟨_,rfl⟩,h⟩
def Gl (X:Cx) (x:Str):Prop:=X.env.kindOf x=some .globalImplicit
theorem Fx {E:Value->Shared->Prop} {pins:List (Addr×Obj)} {s:Shared} {σ:St} {H:Hp} {x:Str} {u:Value} {pos:Pos} {Q:Value->Shared->Prop} (I:Inv X pins σ H s) (hg:Gl X x) (hm:X.mg x=some u) (h:Q u s)
 (hd:(x==("__debug__" :Str))=false:=by decide):wpAny (model X.prog X.w) X.A (eval (.Name x pos) X.env) Q E s:=
 Calls.Name_function_global I.ok.kind hg (Calls.loadGlobal_global (by rw [I.ok.glob];exact I.mod.glob.keeps I.bk) hm h) hd
theorem oh {E:Value->Shared->Prop} {pins:List (Addr×Obj)} {s:Shared} {σ:St} {H:Hp} {x:Str} {u:Value} {pos:Pos} {Q:Value->Shared->Prop} (I:Inv X pins σ H s) (hg:Gl X x) (hm:X.mg x=none) (hv:bootBuiltins x=some u) (h:Q u s)
 (hn:x ≠ "__name__" :=by decide) (hd:(x==("__debug__" :Str))=false:=by decide):wpAny (model X.prog X.w) X.A (eval (.Name x pos) X.env) Q E s:=by
 obtain ⟨mb,h1,h2⟩:=I.mod.blt;exact Calls.Name_function_global I.ok.kind hg (Calls.loadGlobal_builtin (by rw [I.ok.glob];exact I.mod.glob.keeps I.bk) hm (by rw [I.ok.blt];exact h1.keeps I.bk) ((h2 x hn).trans hv) h) hd
theorem Oo {x:Str} {v:V} {u:Value} {pos:Pos} (hg:Gl X x) (hm:X.mg x=some u) (r:RelV v u) (hd:(x==("__debug__" :Str))=false:=by decide):PE X (.Name x pos) (tC v):=
 fun _ _ _ H _ I h=>Fx I hg hm ⟨v,H,I,r,h⟩ hd
theorem o8 {x:Str} {v:V} {u:Value} {pos:Pos} (hg:Gl X x) (hm:X.mg x=none) (hv:bootBuiltins x=some u) (r:RelV v u) (hn:x ≠ "__name__" :=by decide) (hd:(x==("__debug__" :Str))=false:=by decide):PE X (.Name x pos) (tC v):=
 fun _ _ _ H _ I h=>oh I hg hm hv ⟨v,H,I,r,h⟩ hn hd
variable {a b:Expr} {ta tb:TE} {pos:Pos}
def PC (X:Cx) (op:CmpOp) (a b:Expr) (t:TE):Prop:=
 ∀(pins:List (Addr×Obj)) (s:Shared) (σ:St) (H:Hp) (Q:VK),Inv X pins σ H s->t σ H Q ->
  wpAny (model X.prog X.w) X.A (eval a X.env) (fun v s₁=>wpAny (model X.prog X.w) X.A (eval b X.env) (fun u s₂=>wpAny (model X.prog X.w) X.A (compareOp op v u) (EP X pins σ Q) X.xe s₂) X.xe s₁) X.xe s
theorem KZ (b:Expr) {op:CmpOp} (h:op ≠ .In) (h2:op ≠ .NotIn):behindInMarks op b=false:=by
 have e1:(op==CmpOp.In)=false:=by cases op<;>first |rfl|exact absurd rfl h
 have e2:(op==CmpOp.NotIn)=false:=by cases op<;>first |rfl|exact absurd rfl h2
 cases b<;>simp [behindInMarks,e1,e2]
def tB (t:TE):TT:=fun σ H Q=>t σ H fun x H1=>∃c,x = .bl c/\Q c H1
theorem SQ {op:CmpOp} {t:TE} (h:PC X op a b t) (h1:behindInMarks op b=false:=by first |exact KZ _ (by decide) (by decide)|rfl):PT X (.Compare a [op] [b] pos) (tB t):=by
 intro pins s σ H Q I hw;refine wpAny_isTrue_Compare1 (cF (h pins s σ H _ I hw) fun v s1 h1=>cF h1 fun u s2 h2=>cF h2 fun c s3 ⟨x,H1,I1,r1,q1⟩=> ?_) h1;obtain ⟨d,rfl,q⟩:=q1;cases r1;exact wpAny_truthy_bool ⟨H1,I1,q⟩
theorem cT {e:Expr} {t:TE} (h:PE X e t) (he:∀whole,isTrue e X.env whole=(do let v ←whole;standAt e.pos;holding [v] (truthy v)):=by intro _;rfl):PT X e (tB t):=by
 intro pins s σ H Q I hw;refine isTrue_plain (cF (h pins s σ H _ I hw) fun v s1 ⟨x,H1,I1,r1,q1⟩=> ?_) (he _);obtain ⟨d,rfl,q⟩:=q1;cases r1;exact wpAny_truthy_bool ⟨H1,I1,q⟩
variable {tA Yn:TT} {rest:List Expr}
def aas (t u:TT):TT:=fun σ H Q=>t σ H fun c H1=>if c=true then u σ H1 Q else Q false H1
def tOr (t u:TT):TT:=fun σ H Q=>t σ H fun c H1=>if c=true then Q true H1 else u σ H1 Q
def aao (t:TT):TT:=fun σ H Q=>t σ H fun c H1=>Q (!c) H1
theorem jG (ha:PT X a tA):PW X (.BoolOp .And [a] pos) tA:=by
 intro wh pins s σ H Q I h;refine isTrue_and (cF (ha pins s σ H Q I h) fun c s1 e=> ?_);cases c with
 | true=>exact isTrue_and_nil e
 | false=>exact e
theorem gO (ha:PT X a tA):PW X (.BoolOp .Or [a] pos) tA:=by
 intro wh pins s σ H Q I h;refine isTrue_or (cF (ha pins s σ H Q I h) fun c s1 e=> ?_);cases c with
 | false=>exact isTrue_or_nil e
 | true=>exact e
theorem mz (ha:PT X a tA) (hb:PW X (.BoolOp .And (b::rest) pos) Yn):PW X (.BoolOp .And (a::b::rest) pos) (aas tA Yn):=by
 intro wh pins s σ H Q I h;refine isTrue_and (cF (ha pins s σ H _ I h) fun c s1 ⟨H1,I1,q1⟩=> ?_);cases c with
 | true=>exact hb wh pins s1 σ H1 Q I1 q1
 | false=>exact ⟨H1,I1,q1⟩
theorem iJ (ha:PT X a tA) (hb:PW X (.BoolOp .Or (b::rest) pos) Yn):PW X (.BoolOp .Or (a::b::rest) pos) (tOr tA Yn):=by
 intro wh pins s σ H Q I h;refine isTrue_or (cF (ha pins s σ H _ I h) fun c s1 ⟨H1,I1,q1⟩=> ?_);cases c with
 | true=>exact ⟨H1,I1,q1⟩
 | false=>exact hb wh pins s1 σ H1 Q I1 q1
theorem cW (ha:PT X a tA):PT X (.UnaryOp .Not a pos) (aao tA):=by
 intro pins s σ H Q I h;exact isTrue_not (ha pins s σ H (fun c H1=>Q (!c) H1) I h)
def Vr (ta tb:TE):TE:=fun σ H Q=>ta σ H fun x H1=>∃c,x = .bl c/\if c=true then tb σ H1 Q else Q (.bl false) H1
def Vj (ta tb:TE):TE:=fun σ H Q=>ta σ H fun x H1=>∃c,x = .bl c/\if c=true then Q (.bl true) H1 else tb σ H1 Q
def Vk (ta:TE):TE:=fun σ H Q=>ta σ H fun x H1=>∃c,x = .bl c/\Q (.bl (!c)) H1
theorem jQ {op} {t:TE} (h:PE X a t):PE X (.BoolOp op [a] pos) t:=fun pins s σ H Q I hw=>BoolOp_one (h pins s σ H Q I hw)
theorem nY (ha:PE X a ta) (hb:PE X (.BoolOp .And (b::rest) pos) tb):PE X (.BoolOp .And (a::b::rest) pos) (Vr ta tb):=by
 intro pins s σ H Q I h;refine BoolOp_and (cF (ha pins s σ H _ I h) fun v s1 ⟨x,H1,I1,r1,q1⟩=> ?_);obtain ⟨c,rfl,q1⟩:=q1;cases r1;refine wpAny_truthy_bool ?_;cases c with
 | true=>exact hb pins s1 σ H1 Q I1 q1
 | false=>exact ⟨.bl false,H1,I1,rfl,q1⟩
theorem Fl (ha:PE X a ta) (hb:PE X (.BoolOp .Or (b::rest) pos) tb):PE X (.BoolOp .Or (a::b::rest) pos) (Vj ta tb):=by
 intro pins s σ H Q I h;refine BoolOp_or (cF (ha pins s σ H _ I h) fun v s1 ⟨x,H1,I1,r1,q1⟩=> ?_);obtain ⟨c,rfl,q1⟩:=q1;cases r1;refine wpAny_truthy_bool ?_;cases c with
 | false=>exact hb pins s1 σ H1 Q I1 q1
 | true=>exact ⟨.bl true,H1,I1,rfl,q1⟩
theorem Kc (ha:PE X a ta):PE X (.UnaryOp .Not a pos) (Vk ta):=by
 intro pins s σ H Q I h;refine UnaryOp_ (cF (ha pins s σ H _ I h) fun v s1 ⟨x,H1,I1,r1,q1⟩=> ?_);obtain ⟨c,rfl,q1⟩:=q1;cases r1;exact not_of (wpAny_truthy_bool ⟨.bl (!c),H1,I1,rfl,q1⟩)
end
end L2
namespace L2
open PySem PySem.Spec PyProof.Rows
def aZ (K:PySem.W.Frag) (H:Hp) (a:Addr) (xs:List V):Prop:=
 Rd H a (.lst xs) \/
  ∃(o:Obj) (its:Array Value) (n:Nat),K.lookup a=some o/\o.cls = .type "list" /\ o.dict=none/\o.data = .seq its n/\its.size<=sizeLine/\Vals xs its.toList
def bL (K:PySem.W.Frag) (H:Hp) (a:Addr) (xs:List V):Prop:=
 Rd H a (.tup xs) \/
  ∃(o:Obj) (its:Array Value) (n:Nat),K.lookup a=some o/\o.cls = .type "tuple" /\ o.data = .seq its n/\its.size<=sizeLine/\Vals xs its.toList
def ag2:Value->Option V
 | .none=>some .non
 | .bool b=>some (.bl b)
 | .int i _=>some (.int i)
 | .str x _=>some (.str x)
 | .bytes b _=>some (.Gf b)
 | .float b _=>some (.flt b)
 | .ref a=>some (.ref a)
 | .type n=>some (.ty n)
 | _=>none
theorem RelV.abs {x:V} {u:Value} (r:RelV x u):ag2 u=some x:=by
 cases x with
 | non=>cases r;rfl
 | bl _=>cases r;rfl
 | int _=>obtain ⟨t,rfl⟩:=r;rfl
 | str _=>obtain ⟨t,rfl⟩:=r;rfl
 | Gf _=>obtain ⟨t,rfl⟩:=r;rfl
 | flt _=>obtain ⟨t,rfl⟩:=r;rfl
 | ref _=>cases r;rfl
 | ty _=>cases r;rfl
theorem RelV.inj {x y:V} {u:Value} (r:RelV x u) (q:RelV y u):x=y:=Option.some.inj (r.abs.symm.trans q.abs)
theorem Vals.inj {xs ys:List V} {us:List Value} (h:Vals xs us) (h':Vals ys us):xs=ys:=by
 induction h generalizing ys with
 | nil=>cases h';rfl
 | cons r t ih=>cases h' with
   | cons r' t'=>rw [r.inj r',ih t']
section
variable {X:Cx} {pins:List (Addr×Obj)} {σ:St} {H:Hp} {s:Shared} {a:Addr} {xs ys:List V}
theorem aZ.of {K:PySem.W.Frag} (h:H a=some (.lst xs)):aZ K H a xs:= .inl (.inl h)
theorem bL.of {K:PySem.W.Frag} (h:H a=some (.tup xs)):bL K H a xs:= .inl (.inl h)
theorem Inv.list (I:Inv X pins σ H s) (h:aZ X.K H a xs):∃its:List Value,Vals xs its/\PlainL s.heap a its.toArray/\xs.length<=sizeLine:=by
 rcases h with h|⟨o,its,n,hk,hc,hd,hs,hz,r⟩
 ·obtain ⟨z,its,n,r,e⟩:=h.ok I.hok
  exact ⟨its,r,⟨_,n,e,rfl,rfl,rfl⟩,z⟩
 ·refine ⟨its.toList,r,⟨o,n,I.Aj a o hk,hc,hd,by simpa using hs⟩, ?_⟩
  have e:=r.length;simp only [Array.length_toList] at e;omega
theorem Inv.tuple (I:Inv X pins σ H s) (h:bL X.K H a xs):∃its:List Value,Vals xs its/\IsTup s.heap a its.toArray/\xs.length<=sizeLine:=by
 rcases h with h|⟨o,its,n,hk,hc,hs,hz,r⟩
 ·obtain ⟨z,its,r,p⟩:=h.ok I.hok
  exact ⟨its,r,p,z⟩
 ·refine ⟨its.toList,r,⟨o,I.Aj a o hk,hc,n,by simpa using hs⟩, ?_⟩
  have e:=r.length;simp only [Array.length_toList] at e;omega
theorem Inv.pC (I:Inv X pins σ H s) (h:aZ X.K H a xs) (h':aZ X.K H a ys):xs=ys:=by
 obtain ⟨its,r,⟨o,n,e,_,_,d⟩,_⟩:=I.list h;obtain ⟨its',r',⟨o',n',e',_,_,d'⟩,_⟩:=I.list h';rw [e] at e';cases e';rw [d] at d';injection d' with d1 _
 have:its=its':=by simpa using congrArg Array.toList d1
 subst this;exact r.inj r'
theorem Inv.Gz (I:Inv X pins σ H s) (h:bL X.K H a xs) (h':bL X.K H a ys):xs=ys:=by
 obtain ⟨its,r,⟨o,e,_,n,d⟩,_⟩:=I.tuple h;obtain ⟨its',r',⟨o',e',_,n',d'⟩,_⟩:=I.tuple h';rw [e] at e';cases e';rw [d] at d';injection d' with d1 _
 have:its=its':=by simpa using congrArg Array.toList d1
 subst this;exact r.inj r'
end
abbrev Cx.wish (X:Cx) (E:Value->Shared->Prop):Cx:={X with xe:=E}
abbrev Cx.Yx (X:Cx):Cx:=X.wish fun _ _=>False
theorem Cx.Ok.wish {X:Cx} (ok:X.Ok) (E:Value->Shared->Prop):(X.wish E).Ok:=
 ⟨ok.mod,ok.kind,ok.glob,ok.blt,ok.above,ok.inj,ok.has,ok.cab,ok.hd,ok.frames,ok.stk,ok.exf,ok.bs,ok.Rj,ok.KR,ok.P_,ok.uw,ok.U_⟩
theorem Cx.Ok.lV {X:Cx} {E:Value->Shared->Prop} (ok:(X.wish E).Ok):X.Ok:=
 ⟨ok.mod,ok.kind,ok.glob,ok.blt,ok.above,ok.inj,ok.has,ok.cab,ok.hd,ok.frames,ok.stk,ok.exf,ok.bs,ok.Rj,ok.KR,ok.P_,ok.uw,ok.U_⟩
section
variable {X:Cx} {pins:List (Addr×Obj)} {σ:St} {H:Hp} {s:Shared} {E:Value->Shared->Prop}
theorem Inv.wish (I:Inv X pins σ H s) (E:Value->Shared->Prop):Inv (X.wish E) pins σ H s:=⟨I.ok.wish E,I.os,I.bare,I.base,I.loc,I.cell,I.free,I.lN,I.pin,I.hok,I.len⟩
theorem Inv.lV (I:Inv (X.wish E) pins σ H s):Inv X pins σ H s:=⟨I.ok.lV,I.os,I.bare,I.base,I.loc,I.cell,I.free,I.lN,I.pin,I.hok,I.len⟩
theorem SP.lV {D:Ends} {f:Flow} {s':Shared} (h:SP (X.wish E) pins D f s'):SP X pins D f s':=by
 cases f with
 | next=>obtain ⟨σ',H',I,q⟩:=h;exact ⟨σ',H',I.lV,q⟩
 | brk=>obtain ⟨σ',H',I,q⟩:=h;exact ⟨σ',H',I.lV,q⟩
 | cont=>obtain ⟨σ',H',I,q⟩:=h;exact ⟨σ',H',I.lV,q⟩
 | ret u=>obtain ⟨v,σ',H',I,r,q⟩:=h;exact ⟨v,σ',H',I.lV,r,q⟩
theorem IW.Yx {st:List Stmt} {t:TS} (h:IW X.Yx st t):IW X st t:=fun pins s σ H D I hw=>
 wpAny_mono (h pins s σ H D (I.wish _) hw) (fun _ _ q=>q.lV) fun _ _ z=>False.elim z
end
section
variable {X:Cx} {st:Stmt} {rest:List Stmt} {t u:TS} {e:Expr} {te:TE} {pos:Pos}
def lH:TS:=fun D σ H=>D.nx σ H
def RB (t u:TS):TS:=fun D σ H=>t {D with nx:=u D} σ H
theorem bw:IW X [] lH:=fun _ _ σ H _ I h=>wpAny_execs_nil ⟨σ,H,I,h⟩
theorem aB (h1:PS X st t) (h2:IW X rest u):IW X (st::rest) (RB t u):=by
 intro pins s σ H D I h;refine wpAny_execs_cons (cF (h1 pins s σ H {D with nx:=u D} I h) fun f s1 q=> ?_);cases f with
 | next=>
   obtain ⟨σ',H',I',q⟩:=q;exact h2 pins s1 σ' H' D I' q
 | ret v=>exact q
 | brk=>exact q
 | cont=>exact q
theorem aC (h1:PS X st t):IW X [st] t:=by
 intro pins s σ H D I h;refine wpAny_execs_cons (cF (h1 pins s σ H D I h) fun f s1 q=> ?_);cases f with
 | next=>exact wpAny_execs_nil q
 | ret v=>exact q
 | brk=>exact q
 | cont=>exact q
theorem Inv.quiet {pins:List (Addr×Obj)} {σ:St} {H:Hp} {s:Shared} (I:Inv X pins σ H s):interactive X.env=false:=by simp [interactive,I.ok.kind]
def QK (te:TE):TS:=fun D σ H=>te σ H fun _ H1=>D.nx σ H1
theorem cg (he:PE X e te) (hs:swapsWith e none pos.line X.env=pure false:=by rfl):PS X (.Expr e pos) (QK te):=by
 intro pins s σ H D I h;exact wpAny_Expr_any (cF (he pins s σ H _ I h) fun v s1 ⟨x,H1,I1,r1,q1⟩=>⟨σ,H1,I1,q1⟩) I.quiet hs
def RD (te:TE):TS:=fun D σ H=>te σ H D.rt
theorem aP (he:PE X e te):PS X (.Return (some e) pos) (RD te):=by
 intro pins s σ H D I h;exact wpAny_Return_some (cF (he pins s σ H _ I h) fun v s1 ⟨x,H1,I1,r1,q1⟩=>⟨x,σ,H1,I1,r1,q1⟩)
def Vm (c:TT) (t u:TS):TS:=fun D σ H=>c σ H fun b H1=>if b=true then t D σ H1 else u D σ H1
theorem cj {c:Expr} {a b:List Stmt} {tc:TT} (hc:PT X c tc) (ha:IW X a t) (hb:IW X b u):PS X (.If c a b pos) (Vm tc t u):=by
 intro pins s σ H D I h;refine wpAny_If (cF (hc pins s σ H _ I h) fun d s1 ⟨H1,I1,q1⟩=> ?_);cases d with
 | true=>exact ha pins s1 σ H1 D I1 q1
 | false=>exact hb pins s1 σ H1 D I1 q1
def RG:TS:=fun _ _ _=>False
theorem jA:PS X st RG:=fun _ _ _ _ _ _ h=>h.elim
end
abbrev TG:=V->St->Hp->(St->Hp->Prop)->Prop
abbrev Ro:=List V->St->Hp->(St->Hp->Prop)->Prop
def PG (X:Cx) (target:Expr) (t:TG):Prop:=
 ∀(pins:List (Addr×Obj)) (s:Shared) (σ:St) (H:Hp) (v:V) (u:Value) (Q:St->Hp->Prop),Inv X pins σ H s->RelV v u->t v σ H Q ->
  wpAny (model X.prog X.w) X.A (assign target X.env u) (fun _ s'=>∃σ' H',Inv X pins σ' H' s'/\Q σ' H') X.xe s
def X5 (X:Cx) (ts:List Expr) (t:Ro):Prop:=
 ∀(pins:List (Addr×Obj)) (s:Shared) (σ:St) (H:Hp) (vs:List V) (us:List Value) (Q:St->Hp->Prop),Inv X pins σ H s->Vals vs us->t vs σ H Q ->
  wpAny (model X.prog X.w) X.A (assignInOrder ((assignEach ts X.env).map (·.2)) us) (fun _ s'=>∃σ' H',Inv X pins σ' H' s'/\Q σ' H') X.xe s
abbrev M4:=V->V->V->Hp->(Hp->Prop)->Prop
def Uy (X:Cx) (t:M4):Prop:=
 ∀(pins:List (Addr×Obj)) (s:Shared) (σ:St) (H:Hp) (o i v:V) (ov iv u:Value) (Q:Hp->Prop),Inv X pins σ H s->RelV o ov->RelV i iv->RelV v u->t o i v H Q ->
  wpAny (model X.prog X.w) X.A (setItem ov iv u) (fun _ s'=>∃H',Inv X pins σ H' s'/\Q H') X.xe s
abbrev Z7:=V->V->Hp->VK->Prop
def PIp (X:Cx) (op:Operator) (t:Z7):Prop:=
 ∀(pins:List (Addr×Obj)) (s:Shared) (σ:St) (H:Hp) (x y:V) (v u:Value) (Q:VK),Inv X pins σ H s->RelV x v->RelV y u->t x y H Q ->
  wpAny (model X.prog X.w) X.A (inplaceOp op v u) (EP X pins σ Q) X.xe s
section
variable {X:Cx} {pos:Pos}
def mK (i:Nat):TG:=fun v σ H Q=>Q (σ.set i (some v)) H
theorem bh {i:Nat} {x:Str} (hN:X.N.Nodup) (hi:X.N[i]? = some x) (hx:Loc X.env.scope x) (hf:X.fn x=true\/X.env.scope.names.lookup x=some .local:=by first |exact .inl rfl|exact .inr rfl|assumption):PG X (.Name x pos) (mK i):=by
 intro pins s σ H v u Q I r h;exact wpAny_assign_Name (zG I hN hi hx r (fun s' I'=>⟨_,H,I',h⟩) hf)
def WM:Ro:=fun vs σ H Q=>vs=[]/\Q σ H
def Lx (t:TG) (u:Ro):Ro:=fun vs σ H Q=>∃v r,vs=v::r/\t v σ H fun σ' H'=>u r σ' H' Q
theorem yp:X5 X [] WM:=by
 intro pins s σ H vs us Q I r h;obtain ⟨e,h⟩:=h;subst e;cases r;exact assignInOrder_nil ⟨σ,H,I,h⟩
theorem jY {e:Expr} {es:List Expr} {t:TG} {u:Ro} (h1:PG X e t) (h2:X5 X es u)
 (hs:(assignEach (e::es) X.env).map (·.2)=assign e X.env::(assignEach es X.env).map (·.2):=by rfl):X5 X (e::es) (Lx t u):=by
 intro pins s σ H vs us Q I r h;obtain ⟨v,vr,e1,h⟩:=h;subst e1;cases r with
 | cons r rr=>
   rw [hs];refine assignInOrder_cons (cF (h1 pins s σ H _ _ _ I r h) fun _ s1 ⟨σ1,H1,I1,q1⟩=> ?_);exact h2 pins s1 σ1 H1 _ _ Q I1 rr q1
def Ug (K:PySem.W.Frag) (n:Nat) (t:Ro):TG:=fun v σ H Q=>∃a xs,v = .ref a/\bL K H a xs/\xs.length=n/\t xs σ H Q
theorem S_ {es:List Expr} {k:Nat} {t:Ro} {n:Nat} (hc:X.calm=true) (h:X5 X es t)
 (hn:(assignEach es X.env).length=n:=by rfl) (hst:(assignEach es X.env).findIdx? (·.1)=none:=by rfl):PG X (.Tuple es k pos) (Ug X.K n t):=by
 intro pins s σ H v u Q I r hw;obtain ⟨a,xs,e1,hq,hl,hw⟩:=hw;subst e1;cases r;obtain ⟨its,rv,ht,hz⟩:=I.tuple hq;refine assign_Tuple_tuple (I.ok.hd hc) ht (by simp [hn,←hl,rv.length]) hst fun h' hx=> ?_;have I1:Inv X pins σ H {s with heap:=h'}:=I.kept (t':=s.toks) fun b o e=>hx b o (Nat.ne_of_lt (Heap.lt_size e)) e;exact h pins _ σ H xs _ Q I1 (by simpa using rv) hw
def aeM (to ti:TE) (t:M4):TG:=fun v σ H Q=>to σ H fun o H1=>ti σ H1 fun i H2=>t o i v H2 fun H3=>Q σ H3
theorem nW {o i:Expr} {to ti:TE} {t:M4} (ho:PE X o to) (hi:PE X i ti) (hs:Uy X t)
 (ha:∀v,assign (.Subscript o i pos) X.env v=(do
   let ov ←holding [v] (eval o X.env)
   let iv ←holding [v,ov] (eval i X.env)
   standAt pos
   holding [v,ov,iv] (setItem ov iv v)
   release [v,ov,iv] []):=by intro _;rfl):PG X (.Subscript o i pos) (aeM to ti t):=by
 intro pins s σ H v u Q I r h;rw [ha];refine wpAny_bind (wpAny_holding (cF (ho pins s σ H _ I h) fun ov s1 ⟨x,H1,I1,r1,q1⟩=> ?_));refine wpAny_bind (wpAny_holding (cF (hi pins s1 σ H1 _ I1 q1) fun iv s2 ⟨y,H2,I2,r2,q2⟩=> ?_));refine wpAny_bind (wpAny_standAt (wpAny_bind (wpAny_holding (cF (hs pins s2 σ H2 x y v ov iv u _ I2 r1 r2 r q2) fun _ s3 ⟨H3,I3,q3⟩=> ?_))));exact wpAny_release ⟨σ,H3,I3,q3⟩
def RQ (te:TE) (g:TG):TS:=fun D σ H=>te σ H fun x H1=>g x σ H1 D.nx
theorem nU {tg e:Expr} {te:TE} {g:TG} (he:PE X e te) (hg:PG X tg g) (hs:swapsWithSole [tg] e pos.line X.env=pure false:=by rfl) (hw:swappedStores [tg] e X.env=pure none:=by rfl)
 (h1:(assignEach [tg] X.env).map (·.2)=[assign tg X.env]:=by rfl):PS X (.Assign [tg] e pos) (RQ te g):=by
 intro pins s σ H D I h;refine wpAny_Assign_stores (cF (he pins s σ H _ I h) fun v s1 ⟨x,H1,I1,r1,q1⟩=> ?_) hs hw;rw [h1];exact cF (hg pins s1 σ H1 x v _ I1 r1 q1) fun _ s2 q=>q
theorem aO {i:Nat} {x:Str} {e:Expr} {te:TE} {pos':Pos} (hN:X.N.Nodup) (hi:X.N[i]? = some x) (hx:Loc X.env.scope x) (he:PE X e te) (hs:swapsWith e (some (.Name x pos')) pos.line X.env=pure false:=by rfl) (hf:X.fn x=true\/X.env.scope.names.lookup x=some .local:=by first |exact .inl rfl|exact .inr rfl|assumption):
 PS X (.Assign [.Name x pos'] e pos) (RQ te (mK i)):=by
 intro pins s σ H D I h;refine wpAny_Assign_Name (cF (he pins s σ H _ I h) fun v s1 ⟨y,H1,I1,r1,q1⟩=> ?_) hs;exact zG I1 hN hi hx r1 (fun s2 I2=>⟨_,H1,I2,q1⟩) hf
def Vq (to ti te:TE) (Nv:V->V->Hp->VK->Prop) (Yl:Z7) (Nq:M4):TS:=fun D σ H=>to σ H fun o H1=>ti σ H1 fun i H2=>Nv o i H2 fun x H3=>te σ H3 fun y H4=>Yl x y H4 fun z H5=>Nq o i z H5 fun H6=>D.nx σ H6
def X6 (X:Cx) (t:V->V->Hp->VK->Prop):Prop:=
 ∀(pins:List (Addr×Obj)) (s:Shared) (σ:St) (H:Hp) (o i:V) (ov iv:Value) (Q:VK),Inv X pins σ H s->RelV o ov->RelV i iv->t o i H Q ->
  wpAny (model X.prog X.w) X.A (getItem ov iv) (EP X pins σ Q) X.xe s
theorem Fe {o i e:Expr} {to ti te:TE} {Nv:V->V->Hp->VK->Prop} {Yl:Z7} {Nq:M4} {op:Operator} {tpos:Pos} (ho:PE X o to) (hi:PE X i ti) (hg:X6 X Nv) (he:PE X e te) (hp:PIp X op Yl) (hs:Uy X Nq)
 (ha:∀ov iv new,augStore i ov iv new=(do holding [new,ov,iv] (setItem ov iv new);release [new,ov,iv] [];pure .next):=by intros;rfl):PS X (.AugAssign (.Subscript o i tpos) op e pos) (Vq to ti te Nv Yl Nq):=by
 intro pins s σ H D I h;refine wpAny_AugAssign_SubscriptAny (cF (ho pins s σ H _ I h) fun ov s1 ⟨x1,H1,I1,r1,q1⟩=> ?_) ha;refine cF (hi pins s1 σ H1 _ I1 q1) fun iv s2 ⟨x2,H2,I2,r2,q2⟩=> ?_;refine cF (hg pins s2 σ H2 x1 x2 ov iv _ I2 r1 r2 q2) fun old s3 ⟨x3,H3,I3,r3,q3⟩=> ?_;refine cF (he pins s3 σ H3 _ I3 q3) fun v s4 ⟨x4,H4,I4,r4,q4⟩=> ?_;refine cF (hp pins s4 σ H4 x3 x4 old v _ I4 r3 r4 q4) fun new s5 ⟨x5,H5,I5,r5,q5⟩=> ?_;exact cF (hs pins s5 σ H5 x1 x2 x5 ov iv new _ I5 r1 r2 r5 q5) fun _ s6 ⟨H6,I6,q6⟩=>⟨σ,H6,I6,q6⟩
def ipI (f:Int->Int->Int):Z7:=fun x y H Q=>∃i j,x = .int i/\y = .int j/\Q (.int (f i j)) H
theorem Lh:PIp X .Add (ipI fun i j=>i+j):=by
 intro pins s σ H x y v u Q I r1 r2 h;obtain ⟨i,j,e1,e2,q⟩:=h;subst e1;subst e2;obtain ⟨t,rfl⟩:=r1;obtain ⟨t',rfl⟩:=r2;exact iadd_int ⟨.int _,H,I.tok _,⟨_,rfl⟩,q⟩
end
section
variable {X:Cx} {pos:Pos}
def Rz (c:TT) (tb:TS):TS:=fun D σ H=>∃W:Nat->St->Hp->Prop,(∃m,W m σ H) /\ ∀m σ H,W m σ H ->
 c σ H fun b H1=>if b=true then ∃N:St->Hp->Prop,(∀σ' H',N σ' H' -> ∃m',m'<m/\W m' σ' H')/\tb {D with nx:=N,ct:=N,bk:=D.nx} σ H1 else D.nx σ H1
theorem tQ {c:Expr} {body:List Stmt} {tc:TT} {tb:TS} (hp:PassesOwn (model X.prog X.w) X.A X.env X.xe) (hc:PT X c tc) (hb:IW X body tb):PS X (.While c body [] pos) (Rz tc tb):=by
 intro pins s σ H D I h;obtain ⟨W,⟨m0,w0⟩,turn⟩:=h;refine wpAny_While (codeAny_whileLoop (fun n s'=>∃σ' H',Inv X pins σ' H' s'/\W n σ' H') ?_ m0 ⟨σ,H,I,w0⟩);rintro n s1 ⟨σ1,H1,I1,w1⟩;refine wpAny_passesOwn hp (cF (hc pins s1 σ1 H1 _ I1 (turn n σ1 H1 w1)) fun b s2 ⟨H2,I2,q2⟩=> ?_);cases b with
 | true=>
   obtain ⟨N,hN,q2⟩:=q2;rw [if_pos rfl];refine wpAny_passesOwn hp (cF (hb pins s2 σ1 H2 _ I2 q2) fun f s3 q3=> ?_);cases f with
   | next=>
     obtain ⟨σ3,H3,I3,n3⟩:=q3;obtain ⟨m',hm,w3⟩:=hN σ3 H3 n3;exact ⟨m',hm,σ3,H3,I3,w3⟩
   | cont=>
     obtain ⟨σ3,H3,I3,n3⟩:=q3;obtain ⟨m',hm,w3⟩:=hN σ3 H3 n3;exact ⟨m',hm,σ3,H3,I3,w3⟩
   | brk=>exact q3
   | ret v=>exact q3
 | false=>
   rw [if_neg Bool.false_ne_true];exact wpAny_execs_nil ⟨σ1,H2,I2,q2⟩
end
structure It where
 go:Nat->Hp->Prop
 Nk:Nat->Hp->V->Hp->Prop
 stop:Nat->Hp->Prop
def nG (X:Cx) (pins:List (Addr×Obj)) (H:Hp) (b:Addr):Prop:=
 H b=none/\b≠X.env.locals/\b∉X.fs/\(b∈X.ex\/X.s₀.heap.objs.size<=b)/\(∀x c,X.env.cells.lookup x=some c->c≠b) /\ ∀p∈X.pn++pins,p.1≠b
theorem Inv.uy {X:Cx} {pins:List (Addr×Obj)} {σ:St} {H H':Hp} {s:Shared} {b:Addr} (I:Inv X pins σ H s) (hb:s.heap.objs.size<=b) (hn:H' b=none):nG X pins H' b:=by
 refine ⟨hn,Nat.ne_of_gt (Nat.lt_of_lt_of_le I.lt hb),I.ac2 hb,.inr (Nat.le_trans I.sz hb),fun x c e z=> ?_,fun p hp z=> ?_⟩
 ·obtain ⟨v,q⟩:=I.cell x c e
  exact absurd (Nat.lt_of_lt_of_le q.lt (by rw [z];exact hb)) (Nat.lt_irrefl _)
 ·exact absurd (Nat.lt_of_lt_of_le (Heap.lt_size (I.pin p hp).1) (by rw [z];exact hb)) (Nat.lt_irrefl _)
structure Turn (P:Program) (w:World) (K:PySem.W.Frag) (tg:Expr) (J:It) (fp:List Addr) (it:Addr) (tn:Nat->Heap->Prop):Prop where
 mem:it∈fp
 obj:∀i h,tn i h -> ∀b∈fp,∃o,h.get? b=some o /\ ∀v,o.data ≠ .cell v
 keep:∀i h h',tn i h->(∀b∈fp,∀o,h.get? b=some o->h'.get? b=some o)->tn i h'
 item:∀(X:Cx),X.prog=P->X.w=w->X.K=K->X.calm=true -> ∀(i:Nat) (pins:List (Addr×Obj)) (s:Shared) (σ:St) (H:Hp) (E:Value->Shared->Prop),Inv X pins σ H s->(∀b∈fp,nG X pins H b)->tn i s.heap->J.go i H ->
  wpAny (model P w) X.A (pyNext (.ref it)) (fun r s1=>∃u,r=some u /\
   wpAny (model P w) X.A (letOwnedTupleGo tg (.ref it) u) (fun _ s2=>∃x H',Inv X pins σ H' s2/\RelV x u/\J.Nk i H x H'/\tn (i+1) s2.heap /\ ∀b∈fp,H' b=none) E s1) E s
 done:∀(X:Cx),X.prog=P->X.w=w->X.K=K->X.calm=true -> ∀(i:Nat) (pins:List (Addr×Obj)) (s:Shared) (σ:St) (H:Hp) (E:Value->Shared->Prop),Inv X pins σ H s->(∀b∈fp,nG X pins H b)->tn i s.heap->J.stop i H ->
  wpAny (model P w) X.A (pyNext (.ref it)) (fun r s1=>r=none/\Inv X pins σ H s1) E s
 self:∀(A:Around) (i:Nat) (s:Shared) (Q:Value->Shared->Prop) (E:Value->Shared->Prop),tn i s.heap->Q (.ref it) s->wpAny (model P w) A (pyIter (.ref it)) Q E s
abbrev TI:=St->Hp->(It->Hp->Prop)->Prop
def PIE (X:Cx) (pins:List (Addr×Obj)) (σ:St) (tg:Expr) (R:It->Hp->Prop) (itv:Value) (s2:Shared):Prop:=
 ∃(it:Addr) (fp:List Addr) (tn:Nat->Heap->Prop) (J:It) (H':Hp),itv = .ref it/\Inv X pins σ H' s2/\Turn X.prog X.w X.K tg J fp it tn/\tn 0 s2.heap/\(∀b∈fp,nG X pins H' b)/\R J H'
def PI (X:Cx) (tg iter:Expr) (wi:TI):Prop:=
 ∀(pins:List (Addr×Obj)) (s:Shared) (σ:St) (H:Hp) (R:It->Hp->Prop),Inv X pins σ H s->wi σ H R ->
  wpAny (model X.prog X.w) X.A (eval iter X.env) (fun v s1=>wpAny (model X.prog X.w) X.A (pyIter v) (PIE X pins σ tg R) X.xe s1) X.xe s
theorem wM {M:Model} {A:Around} {E:Value->Shared->Prop} {s:Shared} {tg:Expr} {it:Addr} {u:Value} {o:Obj} {n:String} {vs:Array Value} {Q:Unit->Shared->Prop} (ho:s.heap.get? it=some o) (hc:o.cls = .type n) (hd:o.data = .fields vs)
 (hn:["enumerate","zip","dict_itemiterator","dict_reverseitemiterator","odict_iterator","itertools.zip_longest","itertools.pairwise"].contains n=false) (hQ:Q () s):wpAny M A (letOwnedTupleGo tg (.ref it) u) Q E s:=by
 unfold letOwnedTupleGo
 cases tg<;>first
  | exact wpAny_pure hQ
  | (cases u<;>first
      | exact wpAny_pure hQ
      | (refine wpAny_bind (wpAny_load ho ?_)
         rw [hc,hd];show wpAny M A (if (["enumerate","zip","dict_itemiterator","dict_reverseitemiterator","odict_iterator","itertools.zip_longest","itertools.pairwise"].contains n&&vs[0]? == some (rawInt _))=true then _ else _) Q E s;rw [if_neg (by intro h;rw [hn,Bool.false_and] at h;cases h)];exact wpAny_pure hQ))
def Rt (K:PySem.W.Frag) (a:Addr):It:=
 ⟨fun i H=>∃xs x,aZ K H a xs/\xs[i]? = some x,fun i H x H'=>H'=H /\ ∀xs,aZ K H a xs->xs[i]? = some x,fun i H=>∃xs,aZ K H a xs/\xs.length<=i⟩
def Itt (K:PySem.W.Frag) (a:Addr):It:=
 ⟨fun i H=>∃xs x,bL K H a xs/\xs[i]? = some x,fun i H x H'=>H'=H /\ ∀xs,bL K H a xs->xs[i]? = some x,fun i H=>∃xs,bL K H a xs/\xs.length<=i⟩
def Rr (lo:Int) (n:Nat):It:=⟨fun i _=>i<n,fun i H x H'=>H'=H/\x = .int (lo+i),fun i _=>n<=i⟩
theorem Gu {P:Program} {w:World} {K:PySem.W.Frag} {tg:Expr} (a it:Addr):Turn P w K tg (Rt K a) [it] it (fun i h=>h.IsListIter it a i) where
 mem:=by simp
 obj:=fun i h st b hb=>by
  have e:b=it:=by simpa using hb
  subst e;obtain ⟨o,e,c,d⟩:=st;exact ⟨o,e,fun v z=>by rw [d] at z;cases z⟩
 keep:=fun i h h' st k=>st.at fun o e=>k it (by simp) o e
 item:=by
  intro X hP hw hK hc i pins s σ H E I hf st hg;subst hP hw hK;obtain ⟨xs,x,hq,hx⟩:=hg;obtain ⟨its,rv,p,hz⟩:=I.list hq;obtain ⟨u,hu,ru⟩:=rv.get hx;obtain ⟨f0,f1,f2,f3,f4,f5⟩:=hf it (by simp);refine wpAny_pyNext_list_item st p.isList (x:=u) (by simpa using hu) fun h' st' sb=> ?_;have I1:Inv X pins σ H {s with heap:=h'}:=I.turned (t':=s.toks) (fun b o hb e=>(sb.2 b hb).trans e) f0 f1 f3 f4 f5;obtain ⟨o,e,c,d⟩:=id st';exact ⟨u,rfl,wM (s:={s with heap:=h'}) e c d (by decide) ⟨x,H,I1,ru,⟨rfl,fun ys hy=>by rw [I.pC hy hq];exact hx⟩,st',fun b hb=>(hf b hb).1⟩⟩
 done:=by
  intro X hP hw hK hc i pins s σ H E I hf st hg;subst hP hw hK;obtain ⟨xs,hq,hx⟩:=hg;obtain ⟨its,rv,p,hz⟩:=I.list hq;obtain ⟨f0,f1,f2,f3,f4,f5⟩:=hf it (by simp);have hl:=rv.length;exact wpAny_pyNext_list_end (I.ok.hd hc) st p.isList (by simp;omega) fun h' eb=>⟨rfl,I.turned (t':=s.toks) (fun b o hb e=>eb b o hb e) f0 f1 f3 f4 f5⟩
 self:=fun _ _ _ _ _ st h=>wpAny_pyIter_listiter st h
theorem Cd {P:Program} {w:World} {K:PySem.W.Frag} {tg:Expr} (a it:Addr):Turn P w K tg (Itt K a) [it] it (fun i h=>h.IsTupleIter it a i) where
 mem:=by simp
 obj:=fun i h st b hb=>by
  have e:b=it:=by simpa using hb
  subst e;obtain ⟨o,e,c,d⟩:=st;exact ⟨o,e,fun v z=>by rw [d] at z;cases z⟩
 keep:=fun i h h' st k=>st.at fun o e=>k it (by simp) o e
 item:=by
  intro X hP hw hK hc i pins s σ H E I hf st hg;subst hP hw hK;obtain ⟨xs,x,hq,hx⟩:=hg;obtain ⟨its,rv,p,hz⟩:=I.tuple hq;obtain ⟨u,hu,ru⟩:=rv.get hx;obtain ⟨f0,f1,f2,f3,f4,f5⟩:=hf it (by simp);refine wpAny_pyNext_tuple_item st (show s.heap.IsTuple a its.toArray from p) (x:=u) (by simpa using hu) fun h' st' sb=> ?_;have I1:Inv X pins σ H {s with heap:=h'}:=I.turned (t':=s.toks) (fun b o hb e=>(sb.2 b hb).trans e) f0 f1 f3 f4 f5;obtain ⟨o,e,c,d⟩:=id st';exact ⟨u,rfl,wM (s:={s with heap:=h'}) e c d (by decide) ⟨x,H,I1,ru,⟨rfl,fun ys hy=>by rw [I.Gz hy hq];exact hx⟩,st',fun b hb=>(hf b hb).1⟩⟩
 done:=by
  intro X hP hw hK hc i pins s σ H E I hf st hg;subst hP hw hK;obtain ⟨xs,hq,hx⟩:=hg;obtain ⟨its,rv,p,hz⟩:=I.tuple hq;obtain ⟨f0,f1,f2,f3,f4,f5⟩:=hf it (by simp);have hl:=rv.length;exact wpAny_pyNext_tuple_end (I.ok.hd hc) st (show s.heap.IsTuple a its.toArray from p) (by simp;omega) fun h' eb=>⟨rfl,I.turned (t':=s.toks) (fun b o hb e=>eb b o hb e) f0 f1 f3 f4 f5⟩
 self:=fun _ _ _ _ _ st h=>wpAny_pyIter_tupleiter st h
theorem Ce {P:Program} {w:World} {K:PySem.W.Frag} {tg:Expr} (it:Addr) (lo:Int) (n:Nat):Turn P w K tg (Rr lo n) [it] it (fun i h=>IsRangeIter h it (lo+(i:Nat)*1) ((n:Int) - (i:Nat)) 1) where
 mem:=by simp
 obj:=fun i h st b hb=>by
  have e:b=it:=by simpa using hb
  subst e
  exact ⟨_,st,fun v z=>by
   have z':Data.fields _=Data.cell v:=z;cases z'⟩
 keep:=fun i h h' st k=>k it (by simp) _ st
 item:=by
  intro X hP hw hK hc i pins s σ H E I hf st hg;subst hP hw hK;obtain ⟨f0,f1,f2,f3,f4,f5⟩:=hf it (by simp);have W:=Walks.range (prog:=X.prog) (w:=X.w) (I.ok.hd hc) it lo 1 n;refine W.item i s _ _ hg st fun v h' tk hv st' kk=> ?_;obtain ⟨t,rfl⟩:=hv;have I1:Inv X pins σ H {s with heap:=h',toks:=tk}:=I.turned (fun b o hb e=>kk b o (by simpa using hb) e) f0 f1 f3 f4 f5;refine ⟨_,rfl,wM (s:={s with heap:=h',toks:=tk}) (n:= "range_iterator") st' rfl rfl (by decide) ⟨.int (lo+i),H,I1,⟨t, ?_⟩,⟨rfl,rfl⟩,st',fun b hb=>(hf b hb).1⟩⟩;rw [Int.mul_one]
 done:=by
  intro X hP hw hK hc i pins s σ H E I hf st hg;subst hP hw hK;obtain ⟨f0,f1,f2,f3,f4,f5⟩:=hf it (by simp);exact wpAny_pyNext_range_end (I.ok.hd hc) st (by have:n<=i:=hg;omega) fun h' eb=>⟨rfl,I.turned (t':=s.toks) (fun b o hb e=>eb b o hb e) f0 f1 f3 f4 f5⟩
 self:=fun _ _ _ _ _ st h=>wpAny_pyIter_rangeiter st h
end L2
namespace L2
open PySem PySem.Spec PyProof.Rows
section
variable {X:Cx} {tg:Expr}
def Rb (K:PySem.W.Frag) (tl:TE):TI:=fun σ H R=>tl σ H fun x H1=>∃a,x = .ref a/\(∃xs,aZ K H1 a xs)/\R (Rt K a) H1
def Wh (K:PySem.W.Frag) (tl:TE):TI:=fun σ H R=>tl σ H fun x H1=>∃a,x = .ref a/\(∃xs,bL K H1 a xs)/\R (Itt K a) H1
theorem Oj {l:Expr} {tl:TE} (hl:PE X l tl):PI X tg l (Rb X.K tl):=by
 intro pins s σ H R I h;refine cF (hl pins s σ H _ I h) fun v s1 ⟨x,H1,I1,r1,q1⟩=> ?_;obtain ⟨a,e,⟨xs,hq⟩,q⟩:=q1;subst e;cases r1;obtain ⟨its,rv,p,hz⟩:=I1.list hq;refine wpAny_pyIter_list p.isList ?_;refine ⟨s1.heap.objs.size,[s1.heap.objs.size],_,_,H1,rfl,I1.kept (t':=s1.toks) fun b o e=>Heap.get?_push_of_some _ e,Gu a _,⟨_,Heap.get?_push_size _ rfl,rfl,rfl⟩,fun b hb=> ?_,q⟩;have e:b=s1.heap.objs.size:=by simpa using hb
 subst e;exact I1.uy (Nat.le_refl _) (I1.hok.fresh (Nat.le_refl _))
theorem SX {l:Expr} {tl:TE} (hl:PE X l tl):PI X tg l (Wh X.K tl):=by
 intro pins s σ H R I h;refine cF (hl pins s σ H _ I h) fun v s1 ⟨x,H1,I1,r1,q1⟩=> ?_;obtain ⟨a,e,⟨xs,hq⟩,q⟩:=q1;subst e;cases r1;obtain ⟨its,rv,p,hz⟩:=I1.tuple hq;refine wpAny_pyIter_tuple (show s1.heap.IsTuple a its.toArray from p) ?_;refine ⟨s1.heap.objs.size,[s1.heap.objs.size],_,_,H1,rfl,I1.kept (t':=s1.toks) fun b o e=>Heap.get?_push_of_some _ e,Cd a _,⟨_,Heap.get?_push_size _ rfl,rfl,rfl⟩,fun b hb=> ?_,q⟩;have e:b=s1.heap.objs.size:=by simpa using hb
 subst e;exact I1.uy (Nat.le_refl _) (I1.hok.fresh (Nat.le_refl _))
theorem JX {pins:List (Addr×Obj)} {σ:St} {H:Hp} {s:Shared} {R:It->Hp->Prop} {E:Value->Shared->Prop} {lo hi:Int} {t u v:Tok} {tk:Nat} (I:Inv X pins σ H s) (h1: -(2 ^ 62)<=lo) (h2:lo<2 ^ 62) (h3: -(2 ^ 62)<=hi) (h4:hi<2 ^ 62)
 (q:R (Rr lo (hi - lo).toNat) H):wpAny (model X.prog X.w) X.A (pyIter (.ref s.heap.objs.size)) (PIE X pins σ tg R) E {s with heap:=s.heap.push {cls:= .type "range",data:= .fields #[.int lo t,.int hi u,.int 1 v]},toks:=tk}:=by
 refine wpAny_pyIter_range (IsRange.new ..) (small_one h1 h2 h3 h4) ?_;have I1:Inv X pins σ H {s with heap:=s.heap.push {cls:= .type "range",data:= .fields #[.int lo t,.int hi u,.int 1 v]},toks:=tk}:=I.kept fun b o e=>Heap.get?_push_of_some _ e
 refine ⟨(s.heap.push {cls:= .type "range",data:= .fields #[.int lo t,.int hi u,.int 1 v]}).objs.size,[(s.heap.push {cls:= .type "range",data:= .fields #[.int lo t,.int hi u,.int 1 v]}).objs.size],_,_,H,rfl,
  I1.kept (t':=tk) fun b o e=>Heap.get?_push_of_some _ e,Ce _ lo (hi - lo).toNat, ?_,fun b hb=> ?_,q⟩
 ·have e1:lo+((0:Nat):Int)*1=lo:=by simp
  have e2:(((hi - lo).toNat:Nat):Int) - ((0:Nat):Int)=Builtin.Range.rangeSize lo hi 1:=by rw [rangeSize_one];split<;>omega
  show IsRangeIter _ _ (lo+((0:Nat):Int)*1) ((((hi - lo).toNat:Nat):Int) - ((0:Nat):Int)) 1;rw [e1,e2];exact Heap.get?_push_size _ rfl
 ·have e:b=(s.heap.push {cls:= .type "range",data:= .fields #[.int lo t,.int hi u,.int 1 v]}).objs.size:=by simpa using hb
  subst e;exact I1.uy (Nat.le_refl _) (I1.hok.fresh (Nat.le_refl _))
def Wj (ta:TA):TI:=fun σ H R=>ta σ H fun vs H1=>∃j:Int,vs=[.int j] /\ -(2 ^ 62)<=j/\j<2 ^ 62/\R (Rr 0 j.toNat) H1
theorem fO {a:Expr} {ta:TA} {p pos:Pos} (hg:Gl X "range") (hm:X.mg "range" = none) (ha:PA X [a] ta) (hs:starEach [a] X.env=[(false,eval a X.env)]:=by rfl):PI X tg (.Call (.Name "range" p) [a] [] pos) (Wj ta):=by
 intro pins s σ H R I h;refine Call_ (oh I hg hm boot_range (PyProof.Rows.callWith_type1 (cF (ha pos pins s σ H _ I h) fun us s1 ⟨vs,H1,I1,r1,q1⟩=> ?_) hs rfl));obtain ⟨j,e,q1,q2,q⟩:=q1;subst e;cases r1 with
 | cons r rr=>
   cases rr;obtain ⟨t,rfl⟩:=r;exact call_range_1 (JX I1 (by omega) (by omega) q1 q2 (by simpa using q))
def aar (wi:TI) (g:TG) (tb:TS):TS:=fun D σ H=>wi σ H fun J H1=>∃W:Nat->Nat->St->Hp->Prop,(∃m,W 0 m σ H1) /\ ∀i m σ H,W i m σ H ->
 (J.stop i H/\D.nx σ H)\/(J.go i H /\ ∃N:St->Hp->Prop,(∀σ' H',N σ' H' -> ∃m',m'<m/\W (i+1) m' σ' H') /\ ∀x H',J.Nk i H x H'->g x σ H' fun σ2 H2=>tb {D with nx:=N,ct:=N,bk:=D.nx} σ2 H2)
def tR (fp:List Addr) (h:Heap):List (Addr×Obj):=fp.filterMap fun b=>(h.get? b).map fun o=>(b,o)
theorem lB {fp:List Addr} {h:Heap} {b:Addr} {o:Obj} (hb:b∈fp) (e:h.get? b=some o):(b,o)∈tR fp h:=List.mem_filterMap.mpr ⟨b,hb,by rw [e];rfl⟩
theorem Hr {fp:List Addr} {h:Heap} {p:Addr×Obj} (hp:p∈tR fp h):p.1∈fp/\h.get? p.1=some p.2:=by
 obtain ⟨b,hb,e⟩:=List.mem_filterMap.mp hp;cases q:h.get? b with
 | none=>rw [q] at e;cases e
 | some o=>
   rw [q] at e;have e':(b,o)=p:=Option.some.inj e;subst e';exact ⟨hb,q⟩
theorem Inv.pinned {pins:List (Addr×Obj)} {σ:St} {H:Hp} {s:Shared} {fp:List Addr} (I:Inv X pins σ H s) (hf:∀b∈fp,nG X pins H b) (ho:∀b∈fp,∃o,s.heap.get? b=some o /\ ∀v,o.data ≠ .cell v):Inv X (pins++tR fp s.heap) σ H s:=
 I.Fg fun p hp=>(List.mem_append.mp hp).elim (fun z=>I.pin p (List.mem_append_right _ z)) fun z=>by
  obtain ⟨hb,e⟩:=Hr z;obtain ⟨f0,f1,f2,_⟩:=hf p.1 hb;obtain ⟨o,e',d⟩:=ho p.1 hb;rw [e] at e';cases e';exact ⟨e,f0,f1,f2,d⟩
theorem Inv.oG {pins pl:List (Addr×Obj)} {σ:St} {H:Hp} {s:Shared} (I:Inv X (pins++pl) σ H s):Inv X pins σ H s:=I.Fg fun p hp=>I.pin p (List.mem_append_right _ (List.mem_append_left _ hp))
theorem gP {iter:Expr} {body:List Stmt} {wi:TI} {g:TG} {tb:TS} {pos:Pos} (hp:PassesOwn (model X.prog X.w) X.A X.env X.xe) (hc:X.calm=true) (hi:PI X tg iter wi) (hg:PG X tg g) (hb:IW X body tb)
 (hs:∀x,foldedSetIterable iter X.env x=pure x:=by intro _;rfl):PS X (.For tg iter body [] pos) (aar wi g tb):=by
 intro pins s σ H D I h;refine wpAny_For (cF (hi pins s σ H _ I h) fun v s1 h1=>cF h1 fun itv s2 h2=> ?_) hs;obtain ⟨it,fp,tn,J,H2,e,I2,T,st2,f2,W,⟨m0,w0⟩,turn⟩:=h2;subst e;have stat:∀{H':Hp},(∀b∈fp,H' b=none) -> ∀b∈fp,nG X pins H' b:=fun hn b hb=>⟨hn b hb,(f2 b hb).2⟩;refine codeAny_forLoop_any (fun n s'=>∃i σ' H',Inv X pins σ' H' s'/\tn i s'.heap/\(∀b∈fp,H' b=none)/\W i n σ' H') ?_ m0 ⟨0,σ,H2,I2,st2,fun b hb=>(f2 b hb).1,w0⟩;rintro n s3 ⟨i,σ3,H3,I3,st3,WR,w3⟩;rcases turn i n σ3 H3 w3 with ⟨stop,qn⟩|⟨go,N,hN,step⟩
 ·refine wpAny_passesOwn hp (cF (T.done X rfl rfl rfl hc i pins s3 σ3 H3 X.xe I3 (stat WR) st3 stop) fun r s4 ⟨hr,I4⟩=> ?_)
  subst hr;exact wpAny_execs_nil ⟨σ3,H3,I4,qn⟩
 ·refine wpAny_passesOwn hp (cF (T.item X rfl rfl rfl hc i pins s3 σ3 H3 X.xe I3 (stat WR) st3 go) fun r s4 ⟨u,hr,h4⟩=> ?_)
  subst hr;refine wpAny_passesOwn hp (cF h4 fun _ s5 ⟨x,H5,I5,r5,y5,zf,fr5⟩=> ?_);have I5':=I5.pinned (stat fr5) (T.obj _ _ zf);refine wpAny_passesOwn hp (cF (hg _ s5 σ3 H5 x u _ I5' r5 (step x H5 y5)) fun _ s6 ⟨σ6,H6,I6,q6⟩=> ?_);refine wpAny_passesOwn hp (cF (hb _ s6 σ6 H6 _ I6 q6) fun f s7 q7=> ?_)
  have again:∀{σ7:St} {H7:Hp},Inv X (pins++tR fp s5.heap) σ7 H7 s7->N σ7 H7 -> ∃m,m<n /\ ∃i σ' H',Inv X pins σ' H' s7/\tn i s7.heap/\(∀b∈fp,H' b=none)/\W i m σ' H':=fun {σ7 H7} I7 n7=>by
   obtain ⟨m',hm,w7⟩:=hN σ7 H7 n7;refine ⟨m',hm,i+1,σ7,H7,I7.oG,T.keep _ _ _ zf fun b hb o e=>(I7.pin (b,o) (List.mem_append_right _ (List.mem_append_right _ (lB hb e)))).1,fun b hb=> ?_,w7⟩;obtain ⟨o,e,d⟩:=T.obj _ _ zf b hb;exact (I7.pin (b,o) (List.mem_append_right _ (List.mem_append_right _ (lB hb e)))).2.1
  cases f with
  | next=>obtain ⟨σ7,H7,I7,n7⟩:=q7;exact again I7 n7
  | cont=>obtain ⟨σ7,H7,I7,n7⟩:=q7;exact again I7 n7
  | brk=>obtain ⟨σ7,H7,I7,q7⟩:=q7;exact ⟨σ7,H7,I7.oG,q7⟩
  | ret v=>obtain ⟨x7,σ7,H7,I7,r7,q7⟩:=q7;exact ⟨x7,σ7,H7,I7.oG,r7,q7⟩
end
theorem jD {K:PySem.W.Frag} {a:Addr} {xs:List V} {g:TG} {tb:TS} {D:Ends} {σ:St} {H:Hp} (Pv:Nat->St->Hp->Prop) (h0:Pv 0 σ H) (hl:∀i σ H,i<=xs.length->Pv i σ H->aZ K H a xs)
 (hs:∀i x σ H,xs[i]? = some x->Pv i σ H->g x σ H fun σ2 H2=>tb {D with nx:=Pv (i+1),ct:=Pv (i+1),bk:=D.nx} σ2 H2) (hd:∀σ H,Pv xs.length σ H->D.nx σ H):
 ∃W:Nat->Nat->St->Hp->Prop,(∃m,W 0 m σ H) /\ ∀i m σ H,W i m σ H ->
  ((Rt K a).stop i H/\D.nx σ H)\/((Rt K a).go i H /\ ∃N:St->Hp->Prop,(∀σ' H',N σ' H' -> ∃m',m'<m/\W (i+1) m' σ' H') /\ ∀x H',(Rt K a).Nk i H x H'->g x σ H' fun σ2 H2=>tb {D with nx:=N,ct:=N,bk:=D.nx} σ2 H2):=by
 refine ⟨fun i m σ H=>m=xs.length - i/\i<=xs.length/\Pv i σ H,⟨xs.length,by simp,Nat.zero_le _,h0⟩, ?_⟩;rintro i m σ H ⟨rfl,hi,p⟩;have q:=hl i σ H hi p
 by_cases hlt:i<xs.length
 ·refine .inr ⟨⟨xs,xs[i],q,by simp [hlt]⟩,Pv (i+1),fun σ' H' p'=>⟨xs.length - (i+1),by omega,rfl,hlt,p'⟩,fun x H' y=> ?_⟩
  obtain ⟨e,y⟩:=y;subst e;exact hs i x σ _ (y xs q) p
 ·have e:i=xs.length:=by omega
  subst e;exact .inl ⟨⟨xs,q,Nat.le_refl _⟩,hd σ H p⟩
theorem qG {lo:Int} {n:Nat} {g:TG} {tb:TS} {D:Ends} {σ:St} {H:Hp} (Pv:Nat->St->Hp->Prop) (h0:Pv 0 σ H)
 (hs:∀i σ H,i<n->Pv i σ H->g (.int (lo+i)) σ H fun σ2 H2=>tb {D with nx:=Pv (i+1),ct:=Pv (i+1),bk:=D.nx} σ2 H2) (hd:∀σ H,Pv n σ H->D.nx σ H):
 ∃W:Nat->Nat->St->Hp->Prop,(∃m,W 0 m σ H) /\ ∀i m σ H,W i m σ H ->
  ((Rr lo n).stop i H/\D.nx σ H)\/((Rr lo n).go i H /\ ∃N:St->Hp->Prop,(∀σ' H',N σ' H' -> ∃m',m'<m/\W (i+1) m' σ' H') /\ ∀x H',(Rr lo n).Nk i H x H'->g x σ H' fun σ2 H2=>tb {D with nx:=N,ct:=N,bk:=D.nx} σ2 H2):=by
 refine ⟨fun i m σ H=>m=n - i/\i<=n/\Pv i σ H,⟨n,by simp,Nat.zero_le _,h0⟩, ?_⟩;rintro i m σ H ⟨rfl,hi,p⟩
 by_cases hlt:i<n
 ·refine .inr ⟨hlt,Pv (i+1),fun σ' H' p'=>⟨n - (i+1),by omega,rfl,hlt,p'⟩,fun x H' y=> ?_⟩
  obtain ⟨e,y⟩:=y;subst e y;exact hs i σ _ hlt p
 ·have e:i=n:=by omega
  subst e;exact .inl ⟨Nat.le_refl _,hd σ H p⟩
end L2
namespace L2
open PySem PySem.Spec PyProof.Rows
abbrev R2:=V->V->Hp->VK->Prop
def lR (X:Cx) (f:Value->Value->Sem Value) (r:R2):Prop:=
 ∀(pins:List (Addr×Obj)) (s:Shared) (σ:St) (H:Hp) (x y:V) (v u:Value) (Q:VK),Inv X pins σ H s->RelV x v->RelV y u->r x y H Q ->
  wpAny (model X.prog X.w) X.A (f v u) (EP X pins σ Q) X.xe s
def UnR (X:Cx) (f:Value->Sem Value) (r:V->Hp->VK->Prop):Prop:=
 ∀(pins:List (Addr×Obj)) (s:Shared) (σ:St) (H:Hp) (x:V) (v:Value) (Q:VK),Inv X pins σ H s->RelV x v->r x H Q ->
  wpAny (model X.prog X.w) X.A (f v) (EP X pins σ Q) X.xe s
def ig (X:Cx) (f:Value) (r:List V->Hp->VK->Prop):Prop:=
 ∀(pins:List (Addr×Obj)) (s:Shared) (σ:St) (H:Hp) (xs:List V) (us:List Value) (Q:VK),Inv X pins σ H s->Vals xs us->r xs H Q ->
  wpAny (model X.prog X.w) X.A (call f us) (EP X pins σ Q) X.xe s
def ag6 (X:Cx) (r:V->Hp->(Bool->Hp->Prop)->Prop):Prop:=
 ∀(pins:List (Addr×Obj)) (s:Shared) (σ:St) (H:Hp) (x:V) (v:Value) (Q:Bool->Hp->Prop),Inv X pins σ H s->RelV x v->r x H Q ->
  wpAny (model X.prog X.w) X.A (truthy v) (TP X pins σ Q) X.xe s
def El (r:R2) (ta tb:TE):TE:=fun σ H Q=>ta σ H fun x H1=>tb σ H1 fun y H2=>r x y H2 Q
def tUn (r:V->Hp->VK->Prop) (ta:TE):TE:=fun σ H Q=>ta σ H fun x H1=>r x H1 Q
def rI (C:Int->Int->Prop) (g:Int->Int->V):R2:=fun x y H Q=>∃i j,x = .int i/\y = .int j/\C i j/\Q (g i j) H
def QT (g:Int->Int->V):R2:=fun x y H Q=>∃i j,x = .int i/\y = .int j/\Q (g i j) H
def rU (g:Int->V):V->Hp->VK->Prop:=fun x H Q=>∃i,x = .int i/\Q (g i) H
section
variable {X:Cx} {a b c:Expr} {ta tb tc:TE} {pos:Pos}
theorem Uu (ha:PE X a ta) (hb:PE X b tb) {pins:List (Addr×Obj)} {s:Shared} {σ:St} {H:Hp} {R:V->V->Hp->Prop} (I:Inv X pins σ H s)
 (h:ta σ H fun x H1=>tb σ H1 fun y H2=>R x y H2) {Q:Value->Shared->Prop} {f:Value->Value->Sem Value}
 (hf:∀v u s2 x y H2,Inv X pins σ H2 s2->RelV x v->RelV y u->R x y H2->wpAny (model X.prog X.w) X.A (f v u) Q X.xe s2):
 wpAny (model X.prog X.w) X.A (eval a X.env) (fun v s₁=>wpAny (model X.prog X.w) X.A (eval b X.env) (fun u s₂=>wpAny (model X.prog X.w) X.A (f v u) Q X.xe s₂) X.xe s₁) X.xe s:=by
 refine cF (ha pins s σ H _ I h) fun v s1 ⟨x,H1,I1,r1,q1⟩=> ?_;refine cF (hb pins s1 σ H1 _ I1 q1) fun u s2 ⟨y,H2,I2,r2,q2⟩=> ?_;exact hf v u s2 x y H2 I2 r1 r2 q2
theorem bG {op:Operator} {r:R2} (ho:lR X (binaryOp op) r) (ha:PE X a ta) (hb:PE X b tb):PE X (.BinOp a op b pos) (El r ta tb):=by
 intro pins s σ H Q I h;exact wpAny_BinOp (Uu ha hb I h fun v u s2 x y H2 I2 rx ry q=>ho pins s2 σ H2 x y v u Q I2 rx ry q)
theorem QX {op:UnaryOp} {r:V->Hp->VK->Prop} (ho:UnR X (unaryOp op) r) (ha:PE X a ta):PE X (.UnaryOp op a pos) (tUn r ta):=by
 intro pins s σ H Q I h;exact UnaryOp_ (cF (ha pins s σ H _ I h) fun v s1 ⟨x,H1,I1,r1,q1⟩=>ho pins s1 σ H1 x v Q I1 r1 q1)
theorem V1 {f:Value->Value->Sem Value} {C:Int->Int->Prop} {g:Int->Int->Int}
 (rule:∀(i j:Int) (t u:Tok) (s:Shared) (Q:Value->Shared->Prop) (E:Value->Shared->Prop),C i j->Q (.int (g i j) s.toks) {s with toks:=s.toks+1}->wpAny (model X.prog X.w) X.A (f (.int i t) (.int j u)) Q E s):
 lR X f (rI C fun i j=> .int (g i j)):=by
 intro pins s σ H x y v u Q I rx ry h;obtain ⟨i,j,rfl,rfl,hc,q⟩:=h;obtain ⟨t,rfl⟩:=rx;obtain ⟨t',rfl⟩:=ry;exact rule i j t t' s _ _ hc ⟨.int (g i j),H,I.tok _,⟨_,rfl⟩,q⟩
theorem V0 {f:Value->Value->Sem Value} {g:Int->Int->Int}
 (rule:∀(i j:Int) (t u:Tok) (s:Shared) (Q:Value->Shared->Prop) (E:Value->Shared->Prop),Q (.int (g i j) s.toks) {s with toks:=s.toks+1}->wpAny (model X.prog X.w) X.A (f (.int i t) (.int j u)) Q E s):
 lR X f (QT fun i j=> .int (g i j)):=by
 intro pins s σ H x y v u Q I rx ry h;obtain ⟨i,j,rfl,rfl,q⟩:=h;obtain ⟨t,rfl⟩:=rx;obtain ⟨t',rfl⟩:=ry;exact rule i j t t' s _ _ ⟨.int (g i j),H,I.tok _,⟨_,rfl⟩,q⟩
theorem Oz {f:Value->Value->Sem Value} {g:Int->Int->Bool}
 (rule:∀(i j:Int) (t u:Tok) (s:Shared) (Q:Value->Shared->Prop) (E:Value->Shared->Prop),Q (.bool (g i j)) s->wpAny (model X.prog X.w) X.A (f (.int i t) (.int j u)) Q E s):
 lR X f (QT fun i j=> .bl (g i j)):=by
 intro pins s σ H x y v u Q I rx ry h;obtain ⟨i,j,rfl,rfl,q⟩:=h;obtain ⟨t,rfl⟩:=rx;obtain ⟨t',rfl⟩:=ry;exact rule i j t t' s _ _ ⟨.bl (g i j),H,I,rfl,q⟩
def U3 (i j:Int):Prop:=0<j/\j<1073741824
def UW (i j:Int):Prop:=0<=j/\j<=1000000/\i.natAbs<2 ^ 64
def U0 (i j:Int):Prop:=(-(2 ^ 64)<i/\i<2 ^ 64)\/(-(2 ^ 64)<j/\j<2 ^ 64)
theorem U0.ok {i j:Int} (h:U0 i j):IntMulOk i j:=by
 rcases h with ⟨h1,h2⟩|⟨h1,h2⟩
 ·exact .of_left (intBits_le_64 h1 h2)
 ·exact .of_right (intBits_le_64 h1 h2)
theorem dY:lR X (binaryOp .Add) (QT fun i j=> .int (i+j)):=V0 fun _ _ _ _ _ _ _ q=>add_int q
theorem CN:lR X (binaryOp .Sub) (QT fun i j=> .int (i - j)):=V0 fun _ _ _ _ _ _ _ q=>sub_int q
theorem mG:lR X (binaryOp .Mult) (rI U0 fun i j=> .int (i*j)):=V1 fun _ _ _ _ _ _ _ hc q=>mul_int q hc.ok
theorem Fo:lR X (binaryOp .FloorDiv) (rI U3 fun i j=> .int (i / j)):=V1 fun i j _ _ _ _ _ hc q=>by
 have h1:(0:Int)<j:=hc.1;have h2:j<1073741824:=hc.2;exact floordiv_int (by omega) (by rw [Int.fdiv_eq_ediv_of_nonneg i (by omega)];exact q) (.inl (PyProof.noPylong_small (by omega)))
theorem jC:lR X (binaryOp .Mod) (rI (fun _ j=>0<j) fun i j=> .int (i % j)):=V1 fun i j _ _ _ _ _ hc q=>by
 have h1:(0:Int)<j:=hc;exact mod_int' (by omega) (by rw [Int.fmod_eq_emod_of_nonneg i (by omega)];exact q)
theorem Kh:lR X (binaryOp .Pow) (rI UW fun i j=> .int (i ^ j.toNat)):=V1 fun _ _ _ _ _ _ _ hc q=>pow_int_small hc.1 hc.2.1 hc.2.2 q
theorem unI {f:Value->Sem Value} {g:Int->Int}
 (rule:∀(i:Int) (t:Tok) (s:Shared) (Q:Value->Shared->Prop) (E:Value->Shared->Prop),Q (.int (g i) s.toks) {s with toks:=s.toks+1}->wpAny (model X.prog X.w) X.A (f (.int i t)) Q E s):
 UnR X f (rU fun i=> .int (g i)):=by
 intro pins s σ H x v Q I rx h;obtain ⟨i,rfl,q⟩:=h;obtain ⟨t,rfl⟩:=rx;exact rule i t s _ _ ⟨.int (g i),H,I.tok _,⟨_,rfl⟩,q⟩
theorem Jt:UnR X (unaryOp .USub) (rU fun i=> .int (-i)):=unI fun _ _ _ _ _ q=>neg_int q
end
def Vs:V->V->Bool
 | .non,.non=>true | .non,.int _=>true | .int _,.non=>true | .non,.bl _=>true | .bl _,.non=>true | .non,.str _=>true | .str _,.non=>true
 | .int _,.int _=>true | .bl _,.bl _=>true | .str _,.str _=>true | .Gf _,.Gf _=>true
 | .int _,.str _=>true | .str _,.int _=>true | .bl _,.str _=>true | .str _,.bl _=>true
 | _,_=>false
def rEq:R2:=fun x y H Q=>Vs x y=true/\Q (.bl (decide (x=y))) H
def Yt:R2:=fun x y H Q=>Vs x y=true/\Q (.bl (!decide (x=y))) H
theorem Ga {i j:Int}:decide (V.int i=V.int j)=(i==j):=by
 rw [Bool.eq_iff_iff];simp
theorem Ma {i j:Bool}:decide (V.bl i=V.bl j)=(i==j):=by
 rw [Bool.eq_iff_iff];simp
theorem FZ {i j:Str}:decide (V.str i=V.str j)=(i==j):=by
 rw [Bool.eq_iff_iff];simp
theorem Gb {i j:Array UInt8}:decide (V.Gf i=V.Gf j)=(i.toList==j.toList):=by
 rw [Bool.eq_iff_iff];cases i;cases j;simp
section
variable {X:Cx} {a b c:Expr} {ta tb tc:TE} {pos:Pos}
theorem bK {pins:List (Addr×Obj)} {σ:St} {H:Hp} {s:Shared} {Q:VK} {k k':Bool} (I:Inv X pins σ H s) (q:Q (.bl k) H) (e:k=k'):EP X pins σ Q (.bool k') s:=by
 subst e;exact ⟨.bl k,H,I,rfl,q⟩
theorem mH:lR X (compareOp .Eq) rEq:=by
 intro pins s σ H x y v u Q I rx ry h;obtain ⟨hs,q⟩:=h;cases x with
 | non=>
   cases rx;cases y with
   | non=>cases ry;exact PySem.EqNone.eq_none_none (bK I q (by simp))
   | bl j=>cases ry;exact PySem.EqNone.eq_none_bool (bK I q (by simp))
   | int j=>obtain ⟨t',rfl⟩:=ry;exact PySem.EqNone.eq_none_int (bK I q (by simp))
   | str j=>obtain ⟨t',rfl⟩:=ry;exact PySem.EqNone.eq_none_str (bK I q (by simp))
   | _=>exact absurd (show false=true from hs) Bool.false_ne_true
 | bl i=>
   cases rx;cases y with
   | non=>cases ry;exact PySem.EqNone.eq_bool_none (bK I q (by simp))
   | bl j=>cases ry;exact eq_bool (bK I q Ma)
   | str j=>obtain ⟨t',rfl⟩:=ry;exact PySem.EqMixed.eq_bool_str (bK I q (by simp))
   | _=>exact absurd (show false=true from hs) Bool.false_ne_true
 | int i=>
   obtain ⟨t,rfl⟩:=rx;cases y with
   | non=>cases ry;exact PySem.EqNone.eq_int_none (bK I q (by simp))
   | int j=>obtain ⟨t',rfl⟩:=ry;exact eq_int (bK I q Ga)
   | str j=>obtain ⟨t',rfl⟩:=ry;exact PySem.EqMixed.eq_int_str (bK I q (by simp))
   | _=>exact absurd (show false=true from hs) Bool.false_ne_true
 | str i=>
   obtain ⟨t,rfl⟩:=rx;cases y with
   | non=>cases ry;exact PySem.EqNone.eq_str_none (bK I q (by simp))
   | bl j=>cases ry;exact PySem.EqMixed.eq_str_bool (bK I q (by simp))
   | int j=>obtain ⟨t',rfl⟩:=ry;exact PySem.EqMixed.eq_str_int (bK I q (by simp))
   | str j=>obtain ⟨t',rfl⟩:=ry;exact eq_str (bK I q FZ)
   | _=>exact absurd (show false=true from hs) Bool.false_ne_true
 | Gf i=>
   obtain ⟨t,rfl⟩:=rx;cases y with
   | Gf j=>obtain ⟨t',rfl⟩:=ry;exact PySem.W.eq_bytes (bK I q Gb)
   | _=>exact absurd (show false=true from hs) Bool.false_ne_true
 | _=>cases y<;>exact absurd (show false=true from hs) Bool.false_ne_true
theorem o_:lR X (compareOp .NotEq) Yt:=by
 intro pins s σ H x y v u Q I rx ry h;obtain ⟨hs,q⟩:=h;cases x with
 | non=>
   cases rx;cases y with
   | non=>cases ry;exact PySem.EqNone.ne_none_none (bK I q (by simp))
   | bl j=>cases ry;exact PySem.EqNone.ne_none_bool (bK I q (by simp))
   | int j=>obtain ⟨t',rfl⟩:=ry;exact PySem.EqNone.ne_none_int (bK I q (by simp))
   | str j=>obtain ⟨t',rfl⟩:=ry;exact PySem.EqNone.ne_none_str (bK I q (by simp))
   | _=>exact absurd (show false=true from hs) Bool.false_ne_true
 | bl i=>
   cases rx;cases y with
   | non=>cases ry;exact PySem.EqNone.ne_bool_none (bK I q (by simp))
   | bl j=>cases ry;exact ne_bool (bK I q (congrArg not Ma))
   | str j=>obtain ⟨t',rfl⟩:=ry;exact PySem.EqMixed.ne_bool_str (bK I q (by simp))
   | _=>exact absurd (show false=true from hs) Bool.false_ne_true
 | int i=>
   obtain ⟨t,rfl⟩:=rx;cases y with
   | non=>cases ry;exact PySem.EqNone.ne_int_none (bK I q (by simp))
   | int j=>obtain ⟨t',rfl⟩:=ry;exact ne_int (bK I q (congrArg not Ga))
   | str j=>obtain ⟨t',rfl⟩:=ry;exact PySem.EqMixed.ne_int_str (bK I q (by simp))
   | _=>exact absurd (show false=true from hs) Bool.false_ne_true
 | str i=>
   obtain ⟨t,rfl⟩:=rx;cases y with
   | non=>cases ry;exact PySem.EqNone.ne_str_none (bK I q (by simp))
   | bl j=>cases ry;exact PySem.EqMixed.ne_str_bool (bK I q (by simp))
   | int j=>obtain ⟨t',rfl⟩:=ry;exact PySem.EqMixed.ne_str_int (bK I q (by simp))
   | str j=>obtain ⟨t',rfl⟩:=ry;exact ne_str (bK I q (congrArg not FZ))
   | _=>exact absurd (show false=true from hs) Bool.false_ne_true
 | Gf i=>
   obtain ⟨t,rfl⟩:=rx;cases y with
   | Gf j=>obtain ⟨t',rfl⟩:=ry;exact PySem.W.ne_bytes (bK I q (congrArg not Gb))
   | _=>exact absurd (show false=true from hs) Bool.false_ne_true
 | _=>cases y<;>exact absurd (show false=true from hs) Bool.false_ne_true
theorem pA:lR X (compareOp .Lt) (QT fun i j=> .bl (decide (i<j))):=Oz fun _ _ _ _ _ _ _ q=>lt_int q
theorem tW:lR X (compareOp .LtE) (QT fun i j=> .bl (decide (i<=j))):=Oz fun _ _ _ _ _ _ _ q=>le_int q
theorem Kl:lR X (compareOp .Gt) (QT fun i j=> .bl (decide (j<i))):=Oz fun _ _ _ _ _ _ _ q=>gt_int q
theorem Q0:lR X (compareOp .GtE) (QT fun i j=> .bl (decide (j<=i))):=Oz fun _ _ _ _ _ _ _ q=>ge_int q
theorem CQ:lR X (compareOp .Is) (fun x y H Q=>y = .non/\Q (.bl (decide (x = .non))) H):=by
 intro pins s σ H x y v u Q I rx ry h;obtain ⟨rfl,q⟩:=h;cases ry;refine is_none_gen (bK I q ?_)
 cases x<;>first
  | (cases rx;rfl)
  | (obtain ⟨t,rfl⟩:=rx;rfl)
theorem o9:lR X (compareOp .IsNot) (fun x y H Q=>y = .non/\Q (.bl (!decide (x = .non))) H):=by
 intro pins s σ H x y v u Q I rx ry h;obtain ⟨rfl,q⟩:=h;cases ry;refine isnot_none_gen (bK I q ?_)
 cases x<;>first
  | (cases rx;rfl)
  | (obtain ⟨t,rfl⟩:=rx;rfl)
def isObj:HO->Bool
 | .lst _=>true
 | .ins _ _ _=>true
 | _=>false
theorem aY (b:Expr) {op:CmpOp} (h:op ≠ .In:=by decide) (h2:op ≠ .NotIn:=by decide):behindInMarks op b=false:=by
 have e1:(op==CmpOp.In)=false:=by cases op<;>first |rfl|exact absurd rfl h
 have e2:(op==CmpOp.NotIn)=false:=by cases op<;>first |rfl|exact absurd rfl h2
 cases b<;>simp [behindInMarks,e1,e2]
theorem cI {op:CmpOp} {r:R2} (ho:lR X (compareOp op) r) (ha:PE X a ta) (hb:PE X b tb) (hm:behindInMarks op b=false):PE X (.Compare a [op] [b] pos) (El r ta tb):=by
 intro pins s σ H Q I h;exact wpAny_Compare1 (Uu ha hb I h fun v u s2 x y H2 I2 rx ry q=>ho pins s2 σ H2 x y v u Q I2 rx ry q) hm
def Ek (t:TE):TT:=fun σ H Q=>t σ H fun x H'=>∃k,x = .bl k/\Q k H'
theorem bf {op:CmpOp} {r:R2} (ho:lR X (compareOp op) r) (ha:PE X a ta) (hb:PE X b tb) (hm:behindInMarks op b=false):PT X (.Compare a [op] [b] pos) (Ek (El r ta tb)):=by
 intro pins s σ H Q I h
 refine wpAny_isTrue_Compare1 (cF (ha pins s σ H _ I h) fun v s1 ⟨x,H1,I1,r1,q1⟩=>cF (hb pins s1 σ H1 _ I1 q1) fun u s2 ⟨y,H2,I2,r2,q2⟩=>
  cF (ho pins s2 σ H2 x y v u _ I2 r1 r2 q2) fun c s3 ⟨z,H3,I3,r3,k,e,q3⟩=> ?_) hm
 subst e;cases r3;exact wpAny_truthy_bool ⟨H3,I3,q3⟩
def JC (r r':R2) (ta tb tc:TE):TE:=fun σ H Q=>ta σ H fun x H1=>tb σ H1 fun y H2=>r x y H2 fun z H3=>∃k,z = .bl k /\
 (if k=true then tc σ H3 fun w' H4=>r' y w' H4 Q else Q (.bl false) H3)
theorem Kf {op op':CmpOp} {r r':R2} (ho:lR X (compareOp op) r) (ho':lR X (compareOp op') r') (ha:PE X a ta) (hb:PE X b tb) (hc:PE X c tc)
 (hm:lastMarks [op,op'] [b,c]=false:=by with_unfolding_all rfl):PE X (.Compare a [op,op'] [b,c] pos) (JC r r' ta tb tc):=by
 intro pins s σ H Q I h
 refine Compare_chain (cF (ha pins s σ H _ I h) fun v s1 ⟨x,H1,I1,r1,q1⟩=>chain_link (cF (hb pins s1 σ H1 _ I1 q1) fun u s2 ⟨y,H2,I2,r2,q2⟩=>
  cF (ho pins s2 σ H2 x y v u _ I2 r1 r2 q2) fun d s3 ⟨z,H3,I3,r3,k,e,q3⟩=> ?_)) hm
 subst e;cases r3;refine wpAny_truthy_bool ?_;cases k with
 | false=>exact ite_ff ⟨.bl false,H3,I3,rfl,q3⟩
 | true=>exact ite_tt (chain_last (cF (hc pins s3 σ H3 _ I3 q3) fun w' s4 ⟨z',H4,I4,r4,q4⟩=>ho' pins s4 σ H4 y z' u w' Q I4 r2 r4 q4))
theorem J5 {op op':CmpOp} {r r':R2} (ho:lR X (compareOp op) r) (ho':lR X (compareOp op') r') (ha:PE X a ta) (hb:PE X b tb) (hc:PE X c tc)
 (hm:lastMarks [op,op'] [b,c]=false:=by with_unfolding_all rfl):PT X (.Compare a [op,op'] [b,c] pos) (Ek (JC r r' ta tb tc)):=by
 intro pins s σ H Q I h
 refine isTrue_chain (cF (ha pins s σ H _ I h) fun v s1 ⟨x,H1,I1,r1,q1⟩=>test_link (cF (hb pins s1 σ H1 _ I1 q1) fun u s2 ⟨y,H2,I2,r2,q2⟩=>
  cF (ho pins s2 σ H2 x y v u _ I2 r1 r2 q2) fun d s3 ⟨z,H3,I3,r3,k,e,q3⟩=> ?_)) hm
 subst e;cases r3;refine wpAny_truthy_bool ?_;cases k with
 | false=>
   obtain ⟨k',e',q'⟩:=q3;cases e';exact ite_ff ⟨H3,I3,q'⟩
 | true=>
   refine ite_tt (test_last (cF (hc pins s3 σ H3 _ I3 q3) fun w' s4 ⟨z',H4,I4,r4,q4⟩=>cF (ho' pins s4 σ H4 y z' u w' _ I4 r2 r4 q4) fun d' s5 ⟨z2,H5,I5,r5,k2,e2,q5⟩=> ?_));subst e2;cases r5;exact wpAny_truthy_bool ⟨H5,I5,q5⟩
def Qt (K:PySem.W.Frag) (x:V) (H:Hp) (k:Bool):Prop:=
 match x with
 | .non=>k=false
 | .bl b=>k=b
 | .int i=>k=(i != 0)
 | .str y=>y.length<=sizeLine/\k=((y.length:Int) != 0)
 | .Gf y=>y.size<=sizeLine/\k=((y.size:Int) != 0)
 | .ref p=>(∃xs,aZ K H p xs/\k = !xs.isEmpty)\/(∃xs,bL K H p xs/\k = !xs.isEmpty) \/ ∃kvs,H p=some (.dK kvs)/\k = !kvs.isEmpty
 | _=>False
theorem Dj {κ:Type} {kvs:List (κ×V)} {vs:List (κ×Value)} (r:KV kvs vs):(!vs.isEmpty) = !kvs.isEmpty:=by
 cases r<;>rfl
theorem um {xs:List V} {its:List Value} (r:Vals xs its):(!its.toArray.isEmpty) = !xs.isEmpty:=by
 cases r<;>simp
theorem mJ:(sizeLine:Nat)<2 ^ 63:=by rw [sizeLine_eq];decide
theorem Jx:ag6 X (fun x H Q=>∃k,Qt X.K x H k/\Q k H):=by
 intro pins s σ H x v Q I rx h;obtain ⟨k,e,q⟩:=h;have hl:=mJ;have hs:sizeLine=16777216:=sizeLine_eq;cases x with
 | non=>
   cases rx;have e':k=false:=e;subst e';exact truthy_none ⟨H,I,q⟩
 | bl b=>
   cases rx;have e':k=b:=e;subst e';exact wpAny_truthy_bool ⟨H,I,q⟩
 | int i=>
   obtain ⟨t,rfl⟩:=rx;have e':k=(i != 0):=e;subst e';exact PySem.P.truthy_int ⟨H,I,q⟩
 | str y=>
   obtain ⟨t,rfl⟩:=rx;obtain ⟨hy,e'⟩:y.length<=sizeLine/\k=((y.length:Int) != 0):=e;subst e';exact PySem.P.truthy_str (by omega) ⟨H,I.tok _,q⟩
 | Gf y=>
   obtain ⟨t,rfl⟩:=rx;obtain ⟨hy,e'⟩:y.size<=sizeLine/\k=((y.size:Int) != 0):=e;subst e';exact PySem.W.truthy_bytes (by omega) ⟨H,I.tok _,q⟩
 | ref p=>
   cases rx;have e':(∃xs,aZ X.K H p xs/\k = !xs.isEmpty)\/(∃xs,bL X.K H p xs/\k = !xs.isEmpty) \/ ∃kvs,H p=some (.dK kvs)/\k = !kvs.isEmpty:=e;rcases e' with ⟨xs,hx,e'⟩|⟨xs,hx,e'⟩|⟨kvs,hx,e'⟩
   ·subst e'
    obtain ⟨its,r,pl,hz⟩:=I.list hx;have hlen:=r.length;exact wpAny_truthy_list pl.isList (by simp only [List.size_toArray];omega) ⟨H,I.tok _,by rw [um r];exact q⟩
   ·subst e'
    obtain ⟨its,r,pl,hz⟩:=I.tuple hx;have hlen:=r.length;exact truthy_tuple pl (by simp only [List.size_toArray];omega) ⟨H,I.tok _,by rw [um r];exact q⟩
   ·subst e'
    obtain ⟨hz,hS,vs,r,m⟩:kvs.length<=sizeLine/\(p==sysModules)=false /\ ∃vs,KV kvs vs/\s.heap.DictOf (bD X.prog X.w) p vs:=I.hok p _ hx;have hlen:kvs.length=vs.length:=Paired.length r;exact wpAny_truthy_dict hS m (by omega) ⟨H,I.tok _,by rw [Dj r];exact q⟩
 | _=>exact (show False from e).elim
theorem J3 (ha:PE X a ta) (he:∀whole,isTrue a X.env whole=(do let v ←whole;standAt a.pos;holding [v] (truthy v))):
 PT X a (fun σ H Q=>ta σ H fun x H'=>∃k,Qt X.K x H' k/\Q k H'):=by
 intro pins s σ H Q I h;exact isTrue_plain (cF (ha pins s σ H _ I h) fun v s1 ⟨x,H1,I1,r1,q1⟩=>Jx pins s1 σ H1 x v Q I1 r1 q1) (he _)
theorem vals1 {x:V} {us:List Value} (r:Vals [x] us):∃u,us=[u]/\RelV x u:=by
 cases r with
 | cons r1 r2=>cases r2;exact ⟨_,rfl,r1⟩
theorem vals2 {x y:V} {us:List Value} (r:Vals [x,y] us):∃u w',us=[u,w']/\RelV x u/\RelV y w':=by
 cases r with
 | cons r1 r2=>
   cases r2 with
   | cons r3 r4=>cases r4;exact ⟨_,_,rfl,r1,r3⟩
theorem wX (hc:X.calm=true):ig X (.builtin "max") (fun xs H Q=>∃i j,xs=[.int i,.int j]/\Q (.int (if j>i then j else i)) H):=by
 intro pins s σ H xs us Q I r h;obtain ⟨i,j,rfl,q⟩:=h;obtain ⟨u,w',rfl,⟨t,rfl⟩,⟨t',rfl⟩⟩:=vals2 r;refine max_two_ints (I.ok.hd hc) fun h' tk k=>⟨_,H,I.kept k, ?_,q⟩
 by_cases hj:j>i
 ·rw [if_pos hj,if_pos hj];exact ⟨_,rfl⟩
 ·rw [if_neg hj,if_neg hj];exact ⟨_,rfl⟩
theorem Ir (hc:X.calm=true):ig X (.builtin "min") (fun xs H Q=>∃i j,xs=[.int i,.int j]/\Q (.int (if j<i then j else i)) H):=by
 intro pins s σ H xs us Q I r h;obtain ⟨i,j,rfl,q⟩:=h;obtain ⟨u,w',rfl,⟨t,rfl⟩,⟨t',rfl⟩⟩:=vals2 r;refine min_two_ints (I.ok.hd hc) fun h' tk k=>⟨_,H,I.kept k, ?_,q⟩
 by_cases hj:j<i
 ·rw [if_pos hj,if_pos hj];exact ⟨_,rfl⟩
 ·rw [if_neg hj,if_neg hj];exact ⟨_,rfl⟩
theorem Iu:ig X (.type "int") (fun xs H Q=>(∃i,xs=[.int i]/\Q (.int i) H) \/ ∃k,xs=[.bl k]/\Q (.int (if k then 1 else 0)) H):=by
 intro pins s σ H xs us Q I r h;rcases h with ⟨i,rfl,q⟩|⟨k,rfl,q⟩
 ·obtain ⟨u,rfl,t,rfl⟩:=vals1 r
  exact call_int_int ⟨.int i,H,I,⟨_,rfl⟩,q⟩
 ·obtain ⟨u,rfl,r1⟩:=vals1 r
  cases r1;exact call_int_bool ⟨.int (if k then 1 else 0),H,I.tok _,⟨_,rfl⟩,q⟩
end
end L2
namespace L2
open PySem PySem.Spec PyProof.Rows
structure Uz (h:Heap) (x dx C:Addr) (mA:Str->Option Value):Prop where
 obj:h.get? x=some (PySem.W.instObj C dx)
 ns:h.Ns1 dx mA
 ne:dx≠x
theorem Hv {h:Heap} {dx:Addr} {mA:Str->Option Value} (n:h.Ns1 dx mA):∃od,h.get? dx=some od /\ ∀name,PySem.W.lookIn name od=some (mA name):=by
 obtain ⟨o,es,ep,ho,hd,hk,_,hm⟩:=n;refine ⟨o,ho,fun name=> ?_⟩;have e:=hm name;unfold nsFind findBy at e;rw [←Array.find?_toList] at e;unfold PySem.W.lookIn;rw [hd];dsimp only;split
 ·rename_i y q
  rw [q] at e;exact congrArg some e
 ·rename_i q
  rw [q] at e
  have a:es.toList.any (·.refKey)=false:=by
   rw [List.any_eq_false];intro y hy;obtain ⟨z,t,hkey⟩:=hk y (Array.mem_toList_iff.mp hy);simp [DictEntry.refKey,hkey]
  have a':¬es.toList.any (·.refKey)=true:=by rw [a];exact Bool.false_ne_true
  rw [if_neg a'];exact congrArg some e
theorem Uz.look {h:Heap} {x dx C:Addr} {mA:Str->Option Value} (I:Uz h x dx C mA):∃od,PySem.W.InstAt h x (PySem.W.instObj C dx) C (some od) /\ ∀name,PySem.W.lookIn name od=some (mA name):=
 let ⟨od,ho,hl⟩:=Hv I.ns
 ⟨od,⟨I.obj,rfl,rfl,ho⟩,hl⟩
section
variable {prog:Program} {w:World} {A:Around} {E:Value->Shared->Prop} {s:Shared} {K:PySem.W.Frag} {x dx C f:Addr} {mA:Str->Option Value} {name:Str} {v:Value}
end
theorem oE.some_of {v:V} {o:Option Value} (r:oE (some v) o):∃u,o=some u/\RelV v u:=by
 cases o with
 | none=>exact (show False from r).elim
 | some u=>exact ⟨u,rfl,r⟩
section
variable {P:Program} {w:World} {H H':Hp} {h h':Heap} {a C dx:Addr} {fs fs':List (Str×V)}
theorem PJ (hok:nP P w H h) (e:H a=some (.ins C dx fs)):∃mA,Uz h a dx C mA/\(∀f,oE (fs.lookup f) (mA f))/\PySem.Within mA (fs.map (·.1))/\fs.length<=1000/\H dx=some (.own a):=by
 obtain ⟨d,z,ne,ob,mA,n,r,q⟩:=(show bY P w H h a (.ins C dx fs) from hok a _ e);exact ⟨mA,⟨ob,n,ne⟩,r,q,z,d⟩
end
structure Cls (K:PySem.W.Frag) (C:Addr):Prop where
 pg:PySem.W.plainGet K C Str.empty=true
 hd:PySem.W.hasDictIn K C=true
 po:PySem.W.plainOver K C=true
 sa:PySem.W.findIn K (.ref C) "__setattr__" = some (some (.builtin "object.__setattr__"))
theorem Cls.get {K:PySem.W.Frag} {C:Addr} (c:Cls K C) (f:Str):PySem.W.plainGet K C f=true:=c.pg
section
variable {X:Cx} {pins:List (Addr×Obj)} {σ:St} {H:Hp} {s:Shared} {a C dx:Addr} {fs:List (Str×V)} {f:Str} {v:V} {A:Around} {E:Value->Shared->Prop}
end
section
variable {X:Cx} {o e value:Expr} {f:Str} {pos pos' tpos:Pos} {ta tv:TE}
end
section
variable {X:Cx} {pins:List (Addr×Obj)} {σ:St} {H:Hp} {s:Shared} {A:Around} {E:Value->Shared->Prop} {Q:Value->Shared->Prop} {c:Value} {b:Bool}
inductive pR (K:PySem.W.Frag) (H:Hp):V->Value->Prop where
 | non:pR K H .non (.type "NoneType")
 | bl (x:Bool):pR K H (.bl x) (.type "bool")
 | int (i:Int):pR K H (.int i) (.type "int")
 | str (x:Str):pR K H (.str x) (.type "str")
 | flt (x:UInt64):pR K H (.flt x) (.type "float")
 | lst {a:Addr} {xs:List V} (e:H a=some (.lst xs)):pR K H (.ref a) (.type "list")
 | iV {a:Addr} {o:Obj} {xs:List V} (e:H a=some (.iV o (.lst xs))):pR K H (.ref a) (.type "list")
 | tup {a:Addr} {xs:List V} (e:H a=some (.tup xs)):pR K H (.ref a) (.type "tuple")
 | dK {a:Addr} {kvs:List (Key×V)} (e:H a=some (.dK kvs)):pR K H (.ref a) (.type "dict")
 | dT {a:Addr} {kvs:List (List Key×V)} (e:H a=some (.dT kvs)):pR K H (.ref a) (.type "dict")
 | ins {a C dx:Addr} {fs:List (Str×V)} (e:H a=some (.ins C dx fs)) (cl:Cls K C) (ha:PySem.W.findIn K (.ref C) "__class__" = some (some (.builtin "object.__class__")))
    (hn:PySem.W.specialIn K (.builtin "object.__class__") "__get__" = some (some (.builtin "getset_descriptor.__get__"))) (htk:PySem.W.takesIn K (.builtin "object.__class__")=some true)
    (hm:PySem.W.mroIn K C (.type "object")=some true):pR K H (.ref a) (.ref C)
theorem HJ {x:V} {u t:Value} (I:Inv X pins σ H s) (rx:RelV x u) (ty:pR X.K H x t) (e:PySem.W.kitOne X.K t c=some b) (h:∀tk,Q (.bool b) {s with toks:=tk}):
 wpAny (model X.prog X.w) A (call (.builtin "isinstance") [u,c]) Q E s:=by
 cases ty with
 | non=>cases (show u=Value.none from rx);exact PySem.W.kia_one PySem.W.kitx_none I.Aj True.intro e (fun z=>nomatch z) h
 | bl y=>cases (show u=Value.bool y from rx);exact PySem.W.kia_one PySem.W.kitx_bool I.Aj True.intro e (fun z=>nomatch z) h
 | int i=>obtain ⟨t,q⟩:=(show ∃t,u=Value.int i t from rx);cases q;exact PySem.W.kia_one PySem.W.kitx_int I.Aj True.intro e (fun z=>nomatch z) h
 | str y=>obtain ⟨t,q⟩:=(show ∃t,u=Value.str y t from rx);cases q;exact PySem.W.kia_one PySem.W.kitx_str I.Aj True.intro e (fun z=>nomatch z) h
 | flt y=>obtain ⟨t,q⟩:=(show ∃t,u=Value.float y t from rx);cases q;exact PySem.W.kia_one PySem.W.kitx_float I.Aj True.intro e (fun z=>nomatch z) h
 | @lst a xs ea=>
   cases (show u=Value.ref a from rx);obtain ⟨_,_,n,_,h1⟩:=(show bY X.prog X.w H s.heap a (.lst xs) from I.hok a _ ea);exact PySem.W.kia_one PySem.W.kitx_list I.Aj ⟨_,h1,rfl⟩ e (fun z=>nomatch z) h
 | @iV a ob xs ea=>
   cases (show u=Value.ref a from rx);obtain ⟨_,_,_,n,_,h1⟩:=(show bY X.prog X.w H s.heap a (.iV ob (.lst xs)) from I.hok a _ ea);exact PySem.W.kia_one PySem.W.kitx_list I.Aj ⟨_,h1,rfl⟩ e (fun z=>nomatch z) h
 | @tup a xs ea=>
   cases (show u=Value.ref a from rx);obtain ⟨_,_,_,p⟩:=(show bY X.prog X.w H s.heap a (.tup xs) from I.hok a _ ea);obtain ⟨o,h1,h2,_⟩:=p;exact PySem.W.kia_one PySem.W.kitx_tuple I.Aj ⟨o,h1,h2⟩ e (fun z=>nomatch z) h
 | @dK a kvs ea=>
   cases (show u=Value.ref a from rx);obtain ⟨_,_,vs,_,p⟩:=(show bY X.prog X.w H s.heap a (.dK kvs) from I.hok a _ ea);obtain ⟨o,es,ep,h1,h2,_⟩:=p;exact PySem.W.kia_one PySem.W.kitx_dict I.Aj ⟨o,h1,h2.1⟩ e (fun z=>nomatch z) h
 | @dT a kvs ea=>
   cases (show u=Value.ref a from rx);obtain ⟨_,_,xs,_,o,es,ep,h1,h2,_⟩:=(show bY X.prog X.w H s.heap a (.dT kvs) from I.hok a _ ea);exact PySem.W.kia_one PySem.W.kitx_dict I.Aj ⟨o,h1,h2.1⟩ e (fun z=>nomatch z) h
 | @ins a C dx fs ea cl ha hn htk hm=>
   cases (show u=Value.ref a from rx);obtain ⟨mA,O,_⟩:=PJ I.hok ea;obtain ⟨od,J,_⟩:=O.look;exact PySem.W.kia_one (PySem.W.kitx_own (cl.get _) cl.hd ha hn htk hm) I.Aj J e (fun z=>nomatch z) h
end
end L2
namespace L2
open PySem PySem.Spec PyProof.Rows
structure jV (k:Nat) (A:Around):Prop where
 hd:A.handled=none
 dp:A.depth+3*k+5<recursionLimit
 un:A.units+16*k+200<cLine
theorem jV.mono {j k:Nat} {A:Around} (r:jV k A) (h:j<=k):jV j A:=⟨r.hd,by have:=r.dp;omega,by have:=r.un;omega⟩
theorem jV.deeper {k:Nat} {A:Around} (r:jV (k+1) A) (env:Env):jV k (A.deeper env):=
 ⟨r.hd,by have:=r.dp;show A.depth+1+3*k+5<_;omega,by have:=r.un;show A.units+3+16*k+200<_;omega⟩
theorem jV.depth {k:Nat} {A:Around} (r:jV k A):A.depth<recursionLimit:=by have:=r.dp;omega
theorem jV.units {k:Nat} {A:Around} (r:jV k A):A.units+64<cLine:=by have:=r.un;omega
def aap:TA:=fun _ H Q=>Q [] H
def Vp (ta:TE) (tr:TA):TA:=fun σ H Q=>ta σ H fun x H1=>tr σ H1 fun xs H2=>Q (x::xs) H2
section
variable {X:Cx} {e:Expr} {es:List Expr} {te:TE} {t:TA} {pos:Pos}
theorem aA:PA X [] aap:=fun _ _ _ _ H Q I h=>Calls.spliced_nil ⟨[],H,I,.nil,h⟩
theorem aj (ha:PE X e te) (hr:PA X es t) (hs:starEach (e::es) X.env=(false,eval e X.env)::starEach es X.env:=by rfl):PA X (e::es) (Vp te t):=by
 intro pos pins s σ H Q I h;rw [hs];show wpAny _ _ (spliced ((false,eval e X.env)::backTo pos (starEach es X.env))) _ _ s;refine Calls.spliced_cons (cF (ha pins s σ H _ I h) fun u s1 ⟨x,H1,I1,r1,q1⟩=> ?_);exact cF (hr pos pins s1 σ H1 _ I1 q1) fun us s2 ⟨xs,H2,I2,r2,q2⟩=>⟨x::xs,H2,I2,.cons r1 r2,q2⟩
def aam (t:TA):TE:=fun σ H Q=>t σ H fun xs H1=>xs.length<=sizeLine /\ ∀p,H1 p=none->Q (.ref p) (upd H1 p (.tup xs))
def aaq (t:TA):TE:=fun σ H Q=>t σ H fun xs H1=>xs.length<=sizeLine /\ ∀p,H1 p=none->Q (.ref p) (upd H1 p (.lst xs))
theorem jP {x1} (h:PA X es t):PE X (.Tuple es x1 pos) (aam t):=by
 intro pins s σ H Q I hq;refine wpAny_Tuple_spliced (cF (h pos pins s σ H _ I hq) fun us s1 ⟨xs,H1,I1,r,z,q⟩=>⟨by rw [←r.length];exact z, ?_⟩);have hf:H1 s1.heap.objs.size=none:=I1.hok.fresh (Nat.le_refl _);refine ⟨.ref s1.heap.objs.size,upd H1 s1.heap.objs.size (.tup xs),I1.laid (t':=s1.toks) (fun b u e=>Heap.get?_push_of_some _ e) (Nat.le_refl _) ?_,rfl,q _ hf⟩;exact ⟨z,us,r,⟨_,Heap.get?_push_size _ rfl,rfl,_,rfl⟩⟩
theorem dX (h:PA X es t):PE X (.List es pos) (aaq t):=by
 intro pins s σ H Q I hq;refine wpAny_List_spliced (cF (h pos pins s σ H _ I hq) fun us s1 ⟨xs,H1,I1,r,z,q⟩=>⟨by rw [←r.length];exact z, ?_⟩);have hf:H1 s1.heap.objs.size=none:=I1.hok.fresh (Nat.le_refl _);refine ⟨.ref s1.heap.objs.size,upd H1 s1.heap.objs.size (.lst xs),I1.laid (t':=s1.toks) (fun b u e=>Heap.get?_push_of_some _ e) (Nat.le_refl _) ?_,rfl,q _ hf⟩;exact ⟨z,us,0,r,Heap.get?_push_size _ rfl⟩
end
abbrev Sp:=List V->Hp->VK->XK->Prop
abbrev Nb:=List Env->Hp->Shared->XK->Value->Shared->Prop
structure QG (P:Program) (w:World) (K:PySem.W.Frag) (mg:Str->Option Value) (base:Heap) (A:Around) (outer:List Env) (s:Shared) (H:Hp):Prop where
 frames:A.frames=some outer
 mod:Mod K mg base
 bs:∀b o,base.get? b=some o->s.heap.get? b=some o/\H b=none
 Rj:base.objs.size<=s.heap.objs.size
 uw:s.heap.FunFrames base outer
 U_:∀b∈frs outer,H b=none
 hok:nP P w H s.heap
 bare:AllBare s.gens
def CE (outer:List Env) (P:Program) (w:World) (H:Hp) (s:Shared) (Q:VK) (u:Value) (s':Shared):Prop:=
 ∃v H',s'.os=s.os/\AllBare s'.gens/\Un (frs outer) [] H H' s.heap s'.heap/\nP P w H' s'.heap/\RelV v u/\Q v H'
def CR (CX:Nb) (outer:List Env) (P:Program) (w:World) (H:Hp) (s:Shared) (Q:VK) (E:XK) (r:Result) (s':Shared):Prop:=
 match r with
 | .ok (.ret u)=>CE outer P w H s Q u s'
 | .ok _=>False
 | .error e=>CX outer H s E e s'
structure cH (P:Program) (w:World) (K:PySem.W.Frag) (mg:Str->Option Value) (base:Heap) (CX:Nb) (k:Nat) (f:Addr) (fd:FuncData) (ps:List Str) (sp:Sp):Prop where
 len:∀vs H Q E,sp vs H Q E->vs.length=ps.length
 run:∀(A:Around) (outer:List Env) (s:Shared) (H:Hp) (args:Args) (us:List Value) (vs:List V) (Q:VK) (E:XK),jV k A->QG P w K mg base A outer s H->BindsTo s fd args (ps.zip us)->Vals vs us->sp vs H Q E ->
  codeAny (model P w) A (.call (.ref f) args) (CR CX outer P w H s Q E) s
section
variable {X:Cx} {pins:List (Addr×Obj)} {σ:St} {H:Hp} {s s':Shared}
theorem Inv.env0 (I:Inv X pins σ H s):QG X.prog X.w X.K X.mg X.base X.A X.stack s H:=
 ⟨I.ok.frames,I.ok.mod,I.bs,Nat.le_trans I.ok.Rj I.sz,I.stack,I.En,I.hok,I.bare⟩
theorem Inv.after {Q:VK} {u:Value} (I:Inv X pins σ H s) (h:CE X.stack X.prog X.w H s Q u s'):EP X pins σ Q u s':=by
 obtain ⟨v,H',os,bare,un,hok,r,q⟩:=h;obtain ⟨hh,g,d,t,os'⟩:=s';obtain rfl:os'=s.os:=os;exact ⟨v,H',I.call (h':=hh) (g':=g) (d':=d) (t':=t) (ch:=[]) un hok bare (fun b z=>absurd z (by simp)),r,q⟩
end
def QL (sp:Sp) (LQ:List V) (E:XK) (t:TA):TE:=fun σ H Q=>t σ H fun vs H1=>sp (vs++LQ) H1 Q E
def Binds (K:PySem.W.Frag) (fd:FuncData) (ps:List Str) (ds:List Value):Prop:=
 ∀(s:Shared) (us:List Value),K.In s.heap->(us++ds).length=ps.length->BindsTo s fd ⟨us,[]⟩ (ps.zip (us++ds))
theorem Binds.all {K:PySem.W.Frag} {fd:FuncData} {ps:List Str} (h:∀us:List Value,us.length=ps.length->bindArgs fd ⟨us,[]⟩=pure (ps.zip us)):Binds K fd ps []:=fun s us _ hl=>by
 rw [List.append_nil] at hl ⊢;exact .of_eq (h us hl)
def Passes (CX:Nb) (X:Cx) (E:XK):Prop:=∀(pins:List (Addr×Obj)) (σ:St) (H:Hp) (s:Shared) (e:Value) (s':Shared),Inv X pins σ H s->CX X.stack H s E e s'->X.xe e s'
section
variable {X:Cx} {CX:Nb} {k:Nat} {f C:Addr} {fd:FuncData} {ps:List Str} {sp:Sp} {LQ:List V} {ds:List Value} {E:XK} {x m:Str} {p pos apos:Pos} {e o:Expr} {es:List Expr} {ta:TE} {t:TA}
theorem Sv {pins:List (Addr×Obj)} {σ:St} {H:Hp} {s:Shared} {Q:VK} {us:List Value} {vs:List V} (F:cH X.prog X.w X.K X.mg X.base CX k f fd ps sp) (hr:jV k X.A) (hb:Binds X.K fd ps ds) (hd:Vals LQ ds) (hx:Passes CX X E)
 (I:Inv X pins σ H s) (r:Vals vs us) (h:sp (vs++LQ) H Q E):wpAny (model X.prog X.w) X.A (call (.ref f) us) (EP X pins σ Q) X.xe s:=by
 have r2:Vals (vs++LQ) (us++ds):=r.append hd;have hl:(us++ds).length=ps.length:=by rw [←r2.length];exact F.len _ _ _ _ h
 refine wpAny_call (codeAny_mono (F.run X.A X.stack s H ⟨us,[]⟩ (us++ds) (vs++LQ) Q E hr I.env0 (hb s us I.Aj hl) r2 h) fun r s' hq=> ?_);cases r with
 | error e=>exact hx pins σ H s e s' I hq
 | ok fl=>
   cases fl with
   | ret u=>exact I.after hq
   | next=>exact False.elim hq
   | brk=>exact False.elim hq
   | cont=>exact False.elim hq
theorem Ot (F:cH X.prog X.w X.K X.mg X.base CX k f fd ps sp) (hr:jV k X.A) (hg:Gl X x) (hm:X.mg x=some (.ref f)) (hk:PySem.W.keepIn X.K (.ref f)=true) (hb:Binds X.K fd ps ds) (hd:Vals LQ ds) (hx:Passes CX X E)
 (ha:PA X (e::es) t) (hdb:(x==("__debug__" :Str))=false:=by decide) (he:starEach (e::es) X.env=(false,eval e X.env)::starEach es X.env:=by rfl) (hpl:(backTo pos (starEach es X.env)).any (·.1)=false:=by rfl):
 PE X (.Call (.Name x p) (e::es) [] pos) (QL sp LQ E t):=by
 intro pins s σ H Q I h;refine wpAny_Call_Name_kw (Fx I hg hm ?_ hdb);refine PySem.W.callWith_K (h₀:=X.base) I.ok.mod.kin hk (cF (ha pos pins s σ H _ I h) fun us s1 ⟨vs,H1,I1,r,q⟩=>⟨I1.Aj, ?_⟩) he hpl;exact Sv F hr hb hd hx I1 r q
end
section
variable {X:Cx} {CX:Nb} {k:Nat} {f C:Addr} {fd:FuncData} {ps ks:List Str} {sp:Sp} {E:XK} {x m:Str} {p pos apos kpos:Pos} {e o:Expr} {es:List Expr} {kws:List Keyword} {te ta:TE} {t tk:TA} {nm:Option Str}
variable {g:List Value->List Value->List Value} {gV:List V->List V->List V}
end
structure aX (N P:List Str) (sc:Scope):Prop where
 kind:sc.kind = .function
 co:sc.isCoroutine=false
 gen:sc.isGenerator=false
 nd:N.Nodup
 pre:N.take P.length=P
 par:∀x∈P,sc.names.lookup x=some .local\/sc.names.lookup x=some .cell
 Tr:∀y∈sc.names,y.2 ≠ .free
theorem wY {kindOf:Str->Option NameKind} {x:Str}:∀{binds:List (Str×Value)} {m:Str->Option Value},(∀v,(x,v)∉binds)->bindL kindOf binds m x=m x
 | [],_,_=>rfl
 | (n,v)::r,m,h=>by
   unfold bindL;rw [wY fun w hw=>h w (List.mem_cons_of_mem _ hw)];split
   ·have:x≠n:=by rintro rfl;exact h v List.mem_cons_self
    simp [this]
   ·rfl
theorem w5 {kindOf:Str->Option NameKind} {x:Str}:∀{binds:List (Str×Value)} {m:Str->Option Value},(∀v,(x,v)∉binds)->bindC kindOf binds m x=m x
 | [],_,_=>rfl
 | (n,v)::r,m,h=>by
   unfold bindC;rw [w5 fun w hw=>h w (List.mem_cons_of_mem _ hw)];split
   ·rfl
   ·have:x≠n:=by rintro rfl;exact h v List.mem_cons_self
    simp [this]
theorem wZ {kindOf:Str->Option NameKind} {x:Str} {v:Value}:∀{P:List Str} {vs:List Value} {i:Nat} {m:Str->Option Value},P.Nodup->P[i]? = some x->vs[i]? = some v->kindOf x=some .local ->
 bindL kindOf (P.zip vs) m x=some v
 | [],_,_,_,_,h,_,_=>by simp at h
 | _::_,[],_,_,_,_,h,_=>by simp at h
 | p::P,w::vs,0,m,nd,h1,h2,hk=>by
   simp at h1 h2;subst h1;subst h2;show bindL kindOf ((p,w)::P.zip vs) m p=_;unfold bindL;rw [wY fun v hv=>(List.nodup_cons.mp nd).1 (List.of_mem_zip hv).1,if_pos hk];simp
 | p::P,w::vs,i+1,m,nd,h1,h2,hk=>by
   show bindL kindOf ((p,w)::P.zip vs) m x=_;unfold bindL;exact wZ (i:=i) (List.nodup_cons.mp nd).2 (by simpa using h1) (by simpa using h2) hk
theorem w6 {kindOf:Str->Option NameKind} {x:Str} {v:Value}:∀{P:List Str} {vs:List Value} {i:Nat} {m:Str->Option Value},P.Nodup->P[i]? = some x->vs[i]? = some v->kindOf x≠some .local ->
 bindC kindOf (P.zip vs) m x=some v
 | [],_,_,_,_,h,_,_=>by simp at h
 | _::_,[],_,_,_,_,h,_=>by simp at h
 | p::P,w::vs,0,m,nd,h1,h2,hk=>by
   simp at h1 h2;subst h1;subst h2;show bindC kindOf ((p,w)::P.zip vs) m p=_;unfold bindC;rw [w5 fun v hv=>(List.nodup_cons.mp nd).1 (List.of_mem_zip hv).1,if_neg hk];simp
 | p::P,w::vs,i+1,m,nd,h1,h2,hk=>by
   show bindC kindOf ((p,w)::P.zip vs) m x=_;unfold bindC;exact w6 (i:=i) (List.nodup_cons.mp nd).2 (by simpa using h1) (by simpa using h2) hk
def start (N:List Str) (vs:List V):St:=vs.map some++List.replicate (N.length - vs.length) none
def Il (CX:Nb) (P:Program) (w:World) (K:PySem.W.Frag) (mg:Str->Option Value) (base:Heap) (N:List Str) (qual:Str) (scope:Scope) (f:Addr) (cd:Value) (A:Around) (outer:List Env) (s:Shared) (H:Hp) (E:XK):Cx where
 prog:=P
 w:=w
 K:=K
 mg:=mg
 base:=base
 A:=A.deeper (envOfC qual scope s.heap.objs.size f cd)
 N:=N
 s₀:=s
 H₀:=H
 env:=envOfC qual scope s.heap.objs.size f cd
 outer:=outer
 stack:=envOfC qual scope s.heap.objs.size f cd::outer
 ex:=[]
 calm:=true
 fn:=fun _=>true
 pn:=[]
 xe:=fun e s'=>wpAny (model P w) (A.deeper (envOfC qual scope s.heap.objs.size f cd)) (leaving (envOfC qual scope s.heap.objs.size f cd) e) (fun _ s''=>CX outer H s E e s'') (fun e' s''=>CX outer H s E e' s'') s'
theorem Bc {sc:Scope} {n:Nat} {x:Str} (h:sc.names.lookup x=some .cell):∃c,(cellsFrom n sc.names []).lookup x=some c:=by
 have q:=PySem.W.cellsFrom_some sc.names n [] (.inl h);exact Option.isSome_iff_exists.mp q
theorem HS {CX:Nb} {P:Program} {w:World} {K:PySem.W.Frag} {mg:Str->Option Value} {base:Heap} {N ps:List Str} {qual:Str} {scope:Scope} {f:Addr} {cd:Value} {A:Around} {outer:List Env} {s s1:Shared} {H:Hp} {E:XK} {us:List Value} {vs:List V}
 (S:aX N ps scope) (hd:A.handled=none) (e0:QG P w K mg base A outer s H) (hl:vs.length=ps.length) (r:Vals vs us)
 (x:InCallC s s.heap.objs.size (bindL (envOfC qual scope s.heap.objs.size f cd).kindOf (ps.zip us) fun _=>none) (cellsFrom (s.heap.objs.size+1) scope.names []) (bindC (envOfC qual scope s.heap.objs.size f cd).kindOf (ps.zip us) fun _=>none) s1):
 Inv (Il CX P w K mg base N qual scope f cd A outer s H E) [] (start N vs) H s1:=by
 have hpl:ps.length<=N.length:=by have:=congrArg List.length S.pre;rw [List.length_take] at this;omega
 obtain ⟨h1,tk,rfl,hk⟩:=x.done;have V7:∀b:Addr,b∉(Il CX P w K mg base N qual scope f cd A outer s H E).ex:=fun b z=>absurd (show b∈([]:List Addr) from z) (by simp)
 refine ⟨⟨e0.mod,S.kind,rfl,rfl,Nat.le_refl _,fun y z c h1 h2=> ?_,fun y hy=> ?_,fun y c _ h=> ?_,fun _=>hd,Around.frames_deeper e0.frames,.inr ⟨rfl,rfl⟩,fun b z=>absurd z (V7 b),e0.bs,e0.Rj,fun b _ _=>V7 b,fun b z=>absurd z (V7 b),e0.uw,e0.U_⟩,
  rfl,e0.bare,Un.kept hk,⟨_,x.toInCall.ns,fun i y v h1 h2 h3=> ?_⟩,fun y c h=>⟨_,x.cell y c h⟩,e0.hok.fresh (Nat.le_refl _),fun y c h=> ?_,fun p hp=>absurd (show p∈([]:List (Addr×Obj)) from hp) (by simp),e0.hok.kept hk, ?_⟩
 ·exact name_of_addr x.apart (PySem.mem_of_lookup h1) (PySem.mem_of_lookup h2)
 ·have hy:scope.names.lookup y=some .cell\/scope.names.lookup y=some .free:=hy
  rcases hy with hy|hy
  ·exact Bc hy
  ·exact absurd rfl (S.Tr _ (PySem.mem_of_lookup hy))
 ·exact Nat.le_of_lt (x.above y c (PySem.mem_of_lookup h))
 ·have hi:i<vs.length:=by
   unfold start at h2
   by_cases hi:i<vs.length
   ·exact hi
   ·rw [List.getElem?_append_right (by simpa using hi)] at h2
    rw [List.getElem?_replicate] at h2;split at h2<;>cases h2
  have ha:vs[i]? = some v:=by
   unfold start at h2;rw [List.getElem?_append_left (by simpa using hi),List.getElem?_map] at h2;cases e:vs[i]? with
   | none=>rw [e] at h2;cases h2
   | some a=>rw [e] at h2;cases h2;rfl
  obtain ⟨u,hu,rv⟩:=r.get ha
  have hp:ps[i]? = some y:=by
   rw [←S.pre,List.getElem?_take_of_lt (by omega)];exact h1
  have ndP:ps.Nodup:=by rw [←S.pre];exact S.nd.sublist (List.take_sublist _ _)
  refine ⟨u,rv, ?_⟩;rcases S.par y (List.mem_of_getElem? hp) with k|k
  ·exact .inl ⟨k,wZ ndP hp hu k⟩
  ·obtain ⟨c,e⟩:=Bc (n:=s.heap.objs.size+1) k
   refine .inr ⟨.inl k,c,e, ?_⟩;have q:=x.cell y c e;rw [w6 ndP hp hu (by show scope.names.lookup y≠_;rw [k];decide)] at q;exact q
 ·exact e0.hok.fresh (Nat.le_of_lt (x.above y c (PySem.mem_of_lookup h)))
 ·unfold start
  show _=N.length;rw [List.length_append,List.length_map,List.length_replicate];omega
theorem WT {CX:Nb} {P:Program} {w:World} {K:PySem.W.Frag} {mg:Str->Option Value} {base:Heap} {k:Nat} {f:Addr} {name qual:Str} {params:Arguments} {body:List Stmt} {scope:Scope} {dV kV doc pm cdv ct oc:Value} {an od:Option Addr}
 {osl:Array (Option Value)} {N ps:List Str} {sp:Sp} (lk:K.lookup f=some ⟨oc,od,.func (PySem.W.fnOf name qual params body scope dV kV doc pm an cdv ct),osl⟩) (hcd:PySem.W.codeIn K cdv qual=true) (S:aX N ps scope)
 (len:∀vs H Q E,sp vs H Q E->vs.length=ps.length)
 (hbody:∀(A:Around) (outer:List Env) (s:Shared) (H:Hp) (vs:List V) (Q:VK) (E:XK),jV k (A.deeper (envOfC qual scope s.heap.objs.size f cdv))->sp vs H Q E ->
   ∃t,IW (Il CX P w K mg base N qual scope f cdv A outer s H E) body t/\t {nx:=fun _ H'=>Q .non H',rt:=Q} (start N vs) H):
 cH P w K mg base CX (k+1) f (PySem.W.fnOf name qual params body scope dV kV doc pm an cdv ct) ps sp:=by
 refine ⟨len,fun A outer s H args us vs Q E hr e0 hb r hsp=> ?_⟩;have hl:=len _ _ _ _ hsp;have KX:K.In s.heap:=e0.mod.kin.keeps fun b o e=>(e0.bs b o e).1;have lim:s.heap.NoLimit:=e0.mod.nolimit.keeps fun b o e=>(e0.bs b o e).1
 have hkind:∀y∈ps.zip us,scope.names.lookup y.1=some .local\/(scope.names.lookup y.1=some .cell/\((cellsFrom (s.heap.objs.size+1) scope.names []).lookup y.1).isSome=true):=fun ⟨n,v⟩ hy=>by
  rcases S.par n (List.of_mem_zip hy).1 with q|q
  ·exact .inl q
  ·exact .inr ⟨q,PySem.W.cellsFrom_some _ _ _ (.inl q)⟩
 refine codeAny_call_function hr.depth (KX _ _ lk) rfl S.co S.gen rfl (PySem.W.codeRec_of KX hcd) (hb _ _ _ _ ?_);refine wpAny_newFunctionEnv_cells S.kind hkind fun env he s1 x=> ?_;subst he;refine ⟨lim.keeps x.toInCall.keep,codeAny_func ?_⟩;obtain ⟨t,ht,hq⟩:=hbody A outer s H vs Q E (hr.deeper _) hsp;have I:Inv (Il CX P w K mg base N qual scope f cdv A outer s H E) [] (start N vs) H s1:=HS S hr.hd e0 hl r x;refine wpAny_mono (ht [] s1 (start N vs) H _ I hq) (fun fl s' hs=> ?_) fun e s' hs=>hs
 have fin:∀{σ':St} {H':Hp} {v:V} {u:Value},Inv (Il CX P w K mg base N qual scope f cdv A outer s H E) [] σ' H' s'->RelV v u->Q v H'->CE outer P w H s Q u s':=
  fun {σ' H' v u} J rv q=>⟨v,H',J.os,J.bare,J.base,J.hok,rv,q⟩
 cases fl with
 | ret u=>
   obtain ⟨v,σ',H',J,rv,q⟩:=hs;exact fin J rv q
 | next=>
   obtain ⟨σ',H',J,q⟩:=hs;exact fin (v:=V.non) (u:=Value.none) J rfl q
 | brk=>
   obtain ⟨_,_,_,q⟩:=hs;exact False.elim q
 | cont=>
   obtain ⟨_,_,_,q⟩:=hs;exact False.elim q
end L2
namespace L2
open PySem PySem.Spec PyProof.Rows
section
variable {X:Cx} {x:Str} {p pos:Pos} {e:Expr} {es:List Expr} {t:TA} {id T:String} {r:List V->Hp->VK->Prop}
def tCB (r:List V->Hp->VK->Prop) (t:TA):TE:=fun σ H Q=>t σ H fun vs H1=>r vs H1 Q
theorem aV (hc:ig X (.builtin id) r) (hg:Gl X x) (hm:X.mg x=none) (hv:bootBuiltins x=some (.builtin id)) (ha:PA X (e::es) t) (hn:x ≠ "__name__" :=by decide) (hdb:(x==("__debug__" :Str))=false:=by decide)
 (he:starEach (e::es) X.env=(false,eval e X.env)::starEach es X.env:=by rfl) (hpl:(backTo pos (starEach es X.env)).any (·.1)=false:=by rfl):PE X (.Call (.Name x p) (e::es) [] pos) (tCB r t):=by
 intro pins s σ H Q I h;refine wpAny_Call_Name_kw (oh I hg hm hv ?_ hn hdb);exact PyProof.Rows.callWith_builtin1 (cF (ha pos pins s σ H _ I h) fun us s1 ⟨vs,H1,I1,r1,q1⟩=>hc pins s1 σ H1 vs us Q I1 r1 q1) he hpl
theorem fP (hc:ig X (.type T) r) (hg:Gl X x) (hm:X.mg x=none) (hv:bootBuiltins x=some (.type T)) (ha:PA X (e::es) t) (hn:x ≠ "__name__" :=by decide) (hdb:(x==("__debug__" :Str))=false:=by decide)
 (he:starEach (e::es) X.env=(false,eval e X.env)::starEach es X.env:=by rfl) (hpl:(backTo pos (starEach es X.env)).any (·.1)=false:=by rfl):PE X (.Call (.Name x p) (e::es) [] pos) (tCB r t):=by
 intro pins s σ H Q I h;refine wpAny_Call_Name_kw (oh I hg hm hv ?_ hn hdb);exact PyProof.Rows.callWith_type1 (cF (ha pos pins s σ H _ I h) fun us s1 ⟨vs,H1,I1,r1,q1⟩=>hc pins s1 σ H1 vs us Q I1 r1 q1) he hpl
end
end L2
namespace HT
open PySem PyProof.Rows
section
open PySem.SeqAt
open PySem.AutoSeq1 (wpAny_loadPart')
open PySem.MeetsSeq PySem.MeetsSeq2 PySem.MeetsSeq3
end
section
variable {prog:Program} {w:World} {A:Around} {E:Value->Shared->Prop} {s:Shared}
theorem Qi {t b:Addr} {vs ws:List Value} {Q:Value->Shared->Prop} (ht:IsTup s.heap t vs.toArray) (hb:IsTup s.heap b ws.toArray) (hv:vs≠[])
 (h1:ws=[]->Q (.ref t) s) (h2:ws≠[]->Q (.ref s.heap.objs.size) {s with heap:=s.heap.push {cls:= .type "tuple",data:= .seq (vs++ws).toArray}})
 (hsz:vs.length+ws.length<=sizeLine):wpAny (model prog w) A (binaryOp .Add (.ref t) (.ref b)) Q E s:=by
 obtain ⟨⟨cls,dd,data,sl⟩,ho,hc,n,hd⟩:=id ht;obtain ⟨⟨cls2,dd2,data2,sl2⟩,ho2,hc2,n2,hd2⟩:=id hb;simp only at hc hd hc2 hd2;subst hc hd hc2 hd2;have e:vs.toArray++ws.toArray=(vs++ws).toArray:=by simp
 by_cases hw:ws=[]
 ·exact concat_meets ⟨_,ho,rfl⟩ ⟨_,ho2,rfl⟩ noFill_tuple_add seq_tuple_add PySem.F.slot_tuple_add PySem.F.entry_tuple_add (PySem.F.args_tuple_add_2 _ _)
   (tuple_addW1 t b vs.toArray ws.toArray n n2 dd dd2 sl sl2 (by simpa using hv) (by simp [hw])) ⟨ho,ho2,h1 hw⟩
 ·refine concat_meets ⟨_,ho,rfl⟩ ⟨_,ho2,rfl⟩ noFill_tuple_add seq_tuple_add PySem.F.slot_tuple_add PySem.F.entry_tuple_add (PySem.F.args_tuple_add_2 _ _)
   (tuple_addW2 t b vs.toArray ws.toArray n n2 dd dd2 sl sl2 (by simpa using hv) (by simpa using hw) (by rw [List.size_toArray,List.size_toArray];exact hsz)) ⟨ho,ho2, ?_⟩
  rw [e];exact h2 hw
def g_ (n d:Nat):Option Int->Nat
 | none=>d
 | some v=>if v<0 then (v+(n:Int)).toNat else min v.toNat n
theorem zO (n d:Nat):g_ n d none=d:=rfl
theorem Eu (n d k:Nat):g_ n d (some (k:Int))=min k n:=by
 show (if (k:Int)<0 then ((k:Int)+(n:Int)).toNat else min (k:Int).toNat n)=min k n;rw [if_neg (by omega),Int.toNat_natCast]
theorem Sq (n d:Nat) (hd:d<=n) (o:Option Int):g_ n d o<=n:=by
 cases o with
 | none=>exact hd
 | some v=>
   show (if v<0 then (v+(n:Int)).toNat else min v.toNat n)<=n
   by_cases hv:v<0
   ·rw [if_pos hv];omega
   ·rw [if_neg hv];exact Nat.min_le_right _ _
theorem Ge (v:Int) (n d:Nat):(if v<0 then max (v+(n:Int)) 0 else min v (n:Int))=((g_ n d (some v):Nat):Int):=by
 show (if v<0 then max (v+(n:Int)) 0 else min v (n:Int))=(((if v<0 then (v+(n:Int)).toNat else min v.toNat n):Nat):Int)
 by_cases hv:v<0
 ·simp only [if_pos hv];omega
 ·simp only [if_neg hv];omega
theorem D_ (lo hi:Option Int) (n:Nat):Builtin.Slice.sliceAdjust lo hi 1 (n:Int)=(((g_ n 0 lo:Nat):Int),((g_ n n hi:Nat):Int)):=by
 have h1:¬((1:Int)<0):=by omega
 unfold Builtin.Slice.sliceAdjust;simp only [h1,if_false];refine Prod.ext ?_ ?_
 ·cases lo with
  | none=>rfl
  | some v=>exact Ge v n 0
 ·cases hi with
  | none=>rfl
  | some v=>exact Ge v n n
theorem CK (i j:Nat):Builtin.Slice.slicePlaces (i:Int) (j:Int) 1=j - i:=by
 unfold Builtin.Slice.slicePlaces;have h1:(1:Int)>0:=by omega
 simp only [h1,if_true,Int.ediv_one];split<;>omega
theorem sZ {v:Value} {o:Option Int} {Q:Option Int->Shared->Prop} (p:IsPart v o) (h:Q o s):wpAny (model prog w) A (Builtin.Slice.slicePartIndex v) Q E s:=by
 cases p with
 | none=>exact slicePart_none h
 | int i t=>exact slicePart_int h
theorem p7 {sl:Addr} {vl vu:Value} {lo hi:Option Int} {n:Nat} {Q:Int×Int×Nat->Shared->Prop} (hs:s.heap.IsSliceOf sl vl vu .none) (pl:IsPart vl lo) (pu:IsPart vu hi)
 (h:Q (((g_ n 0 lo:Nat):Int),1,g_ n n hi - g_ n 0 lo) s):wpAny (model prog w) A (Builtin.Slice.sliceApplied (.ref sl) (pure (n:Int))) Q E s:=by
 obtain ⟨os,hos,hcs,hds⟩:=id hs;unfold Builtin.Slice.sliceApplied Builtin.Slice.sliceFields;refine wpAny_bind (wpAny_bind (wpAny_field hos hds (x:=vl) rfl (wpAny_bind (wpAny_field hos hds (x:=vu) rfl (wpAny_bind (wpAny_field hos hds (x:= .none) rfl (wpAny_pure ?_)))))));refine wpAny_bind (slicePart_none ?_);show wpAny _ _ (if ((1:Int)==0)=true then _ else _) _ _ s;rw [if_neg (by decide)];refine wpAny_bind (sZ pl (wpAny_bind (sZ pu (wpAny_bind (wpAny_pure ?_)))));show wpAny _ _ (match Builtin.Slice.sliceAdjust lo hi 1 (n:Int) with |(lo,hi)=>pure (lo,(1:Int),Builtin.Slice.slicePlaces lo hi 1)) _ _ s;rw [D_ lo hi n];show wpAny _ _ (pure (((g_ n 0 lo:Nat):Int),(1:Int),Builtin.Slice.slicePlaces ((g_ n 0 lo:Nat):Int) ((g_ n n hi:Nat):Int) 1)) _ _ s;rw [CK];exact wpAny_pure h
theorem J9 (xs:Array Value) (i k:Nat):((List.range k).filterMap fun (m:Nat)=>xs[((i:Int)+(m:Int)*1).toNat]?).toArray=((xs.toList.drop i).take k).toArray:=by
 have e:(fun (m:Nat)=>xs[((i:Int)+(m:Int)*1).toNat]?)=fun m=>xs[i+m]? :=by
  funext m;have:((i:Int)+(m:Int)*1).toNat=i+m:=by omega
  rw [this]
 rw [e];have:=pick_run xs i k;rw [List.filterMap_map] at this;have e2:((fun x=>xs[x]?)∘fun x=>i+x)=fun m=>xs[i+m]? :=rfl;rw [e2] at this;rw [this]
theorem pI {t sl:Addr} {items:Array Value} {vl vu:Value} {lo hi:Option Int} {Q:Value->Shared->Prop} (ht:IsTup s.heap t items) (hs:s.heap.IsSliceOf sl vl vu .none) (pl:IsPart vl lo) (pu:IsPart vu hi)
 (hw:¬(g_ items.size 0 lo=0/\g_ items.size items.size hi=items.size))
 (h:Q (.ref s.heap.objs.size) {s with heap:=s.heap.push {cls:= .type "tuple",data:= .seq ((items.toList.drop (g_ items.size 0 lo)).take (g_ items.size items.size hi - g_ items.size 0 lo)).toArray}})
 (hsz:items.size<=sizeLine):wpAny (model prog w) A (getItem (.ref t) (.ref sl)) Q E s:=by
 have FQ:sizeOk (.seq ((items.toList.drop (g_ items.size 0 lo)).take (g_ items.size items.size hi - g_ items.size 0 lo)).toArray):=by
  show ((items.toList.drop (g_ items.size 0 lo)).take (g_ items.size items.size hi - g_ items.size 0 lo)).toArray.size<=sizeLine;rw [List.size_toArray,List.length_take,List.length_drop,Array.length_toList];omega
 have hj:g_ items.size items.size hi<=items.size:=Sq _ _ (Nat.le_refl _) hi;obtain ⟨os,hos,hcs,hds⟩:=id hs;have hTs:s.TypeIs (.ref sl) "slice" :=⟨os,hos,hcs⟩;unfold getItem
 try with_reducible refine wpAny_holding ?_
 first |refine wpAny_bind (wpAny_pure ?_)|skip
 refine wpAny_bind (wpAny_sequenceKey ht.typeIs (by decide) ?_)
 refine wpAny_bind (wpAny_callSpecial?_slot (name:=Str.ofString "__getitem__") ht.typeIs PyProof.Rows.slot_tuple_getitem
  (wpAny_call_entry PyProof.Rows.slot_tuple_getitem ht.typeIs entry_tuple_getitem ?_ (args_tuple_getitem _ _)))
 show wpAny _ _ (Builtin.Tuple.tupleItemsOf (.ref t) >>= _) _ _ s;refine wpAny_bind (tupleItemsOf_ ht ?_);refine wpAny_bind (wpAny_typeOf hTs ?_);rw [if_pos (by decide)];refine wpAny_bind (p7 hs pl pu ?_)
 have hno:¬((((g_ items.size 0 lo:Nat):Int)==0&&(1:Int)==1&&(g_ items.size items.size hi - g_ items.size 0 lo)==items.size)=true):=by
  intro q;rw [Bool.and_eq_true,Bool.and_eq_true] at q;have q1:((g_ items.size 0 lo:Nat):Int)=0:=eq_of_beq q.1.1;have q2:g_ items.size items.size hi - g_ items.size 0 lo=items.size:=eq_of_beq q.2;exact hw ⟨by omega,by omega⟩
 show wpAny _ _ (if (((g_ items.size 0 lo:Nat):Int)==0&&(1:Int)==1&&(g_ items.size items.size hi - g_ items.size 0 lo)==items.size)=true then _ else _) _ _ s;rw [if_neg hno,J9]
 first
  | exact wpAny_bind (m:=Builtin.Tuple.tupleExact _) (wpAny_newObj_type (wpAny_pure ⟨_,rfl,wpAny_pure h⟩) FQ)
  | exact wpAny_bind (m:=Builtin.Tuple.tupleExact _) (wpAny_newObj_type (wpAny_bind (wpAny_pure (wpAny_pure ⟨_,rfl,wpAny_pure h⟩))) FQ)
  | exact wpAny_bind (wpAny_bind (m:=Builtin.Tuple.tupleExact _) (wpAny_newObj_type (wpAny_pure (wpAny_pure ⟨_,rfl,wpAny_pure h⟩)) FQ))
  | exact wpAny_bind (wpAny_bind (m:=Builtin.Tuple.tupleExact _) (wpAny_newObj_type (wpAny_pure ⟨_,rfl,wpAny_pure h⟩) FQ))
end
end HT
namespace L2
open PySem PySem.Spec PyProof.Rows
abbrev TO:=St->Hp->(Option Int->Hp->Prop)->Prop
def PO (X:Cx) (e:Option Expr) (t:TO):Prop:=
 ∀(pins:List (Addr×Obj)) (s:Shared) (σ:St) (H:Hp) (Q:Option Int->Hp->Prop),Inv X pins σ H s->t σ H Q ->
  wpAny (model X.prog X.w) X.A (evalPart e X.env) (fun u s'=>∃o H',Inv X pins σ H' s'/\IsPart u o/\Q o H') X.xe s
def Ny:TO:=fun _ H Q=>Q none H
def Vi (t:TE):TO:=fun σ H Q=>t σ H fun x H1=>∃i,x = .int i/\Q (some i) H1
section
variable {X:Cx} {e:Expr} {te:TE} {lo hi:Option Expr} {tl th:TO} {pos p2:Pos}
theorem dO:PO X none Ny:=by
 intro pins s σ H Q I h;rw [evalPart_none];exact wpAny_pure ⟨none,H,I,.none,h⟩
theorem dN (h:PE X e te):PO X (some e) (Vi te):=by
 intro pins s σ H Q I hw;rw [evalPart_some];refine cF (h pins s σ H _ I hw) fun u s1 ⟨x,H1,I1,r1,q1⟩=> ?_;obtain ⟨i,rfl,q⟩:=q1;obtain ⟨t,rfl⟩:=r1;exact ⟨some i,H1,I1,.int i t,q⟩
def X3 (X:Cx) (r:V->Option Int->Option Int->Hp->VK->Prop):Prop:=
 ∀(pins:List (Addr×Obj)) (s:Shared) (σ:St) (H:Hp) (x:V) (v vl vu:Value) (lo hi:Option Int) (sl:Addr) (Q:VK),Inv X pins σ H s->RelV x v->s.heap.IsSliceOf sl vl vu .none->IsPart vl lo->IsPart vu hi->r x lo hi H Q ->
  ∃T id,typeLookup (.type T) "__getitem__" = pure (some (.builtin id))/\s.TypeIs v T/\wpAny (model X.prog X.w) X.A (getItem v (.ref sl)) (EP X pins σ Q) X.xe s
def tSl (r:V->Option Int->Option Int->Hp->VK->Prop) (te:TE) (tl th:TO):TE:=fun σ H Q=>te σ H fun x H1=>tl σ H1 fun l H2=>th σ H2 fun u H3=>r x l u H3 Q
theorem cM {r:V->Option Int->Option Int->Hp->VK->Prop} (hr:X3 X r) (he:PE X e te) (hl:PO X lo tl) (hu:PO X hi th):PE X (.Subscript e (.Slice lo hi none p2) pos) (tSl r te tl th):=by
 intro pins s σ H Q I h;refine Subscript_ (cF (he pins s σ H _ I h) fun v s1 ⟨x,H1,I1,r1,q1⟩=> ?_);refine wpAny_Slice (cF (hl pins s1 σ H1 _ I1 q1) fun vl s2 ⟨l,H2,I2,pl,q2⟩=>cF (hu pins s2 σ H2 _ I2 q2) fun vu s3 ⟨u,H3,I3,pu,q3⟩=> ?_);rw [evalPart_none];refine wpAny_pure ?_;have I4:Inv X pins σ H3 {s3 with heap:=s3.heap.push {cls:= .type "slice",data:= .fields #[vl,vu,.none]}}:=I3.kept (t':=s3.toks) fun b ob q=>Heap.get?_push_of_some _ q;obtain ⟨T,id,hT,ht,hg⟩:=hr pins {s3 with heap:=s3.heap.push {cls:= .type "slice",data:= .fields #[vl,vu,.none]}} σ H3 x v vl vu l u s3.heap.objs.size Q I4 r1 (Heap.IsSliceOf.new ..) pl pu q3;show wpAny (model X.prog X.w) X.A (subscriptTail e (.Slice lo hi none p2) v (.ref s3.heap.objs.size)) (EP X pins σ Q) X.xe {s3 with heap:=s3.heap.push {cls:= .type "slice",data:= .fields #[vl,vu,.none]}};exact tail_any (ops:=[.ref s3.heap.objs.size,v]) ht hT hg (by with_unfolding_all rfl)
def iQ (xs:List V) (lo hi:Option Int):List V:=(xs.drop (HT.g_ xs.length 0 lo)).take (HT.g_ xs.length xs.length hi - HT.g_ xs.length 0 lo)
theorem qZ (xs:List V) (lo hi:Option Int):(iQ xs lo hi).length<=xs.length:=by
 unfold iQ;rw [List.length_take,List.length_drop];omega
def Vy (K:PySem.W.Frag):V->Option Int->Option Int->Hp->VK->Prop:=fun x lo hi H Q=>∃a xs,x = .ref a/\bL K H a xs /\
 ¬(HT.g_ xs.length 0 lo=0/\HT.g_ xs.length xs.length hi=xs.length) /\ ∀p,H p=none->Q (.ref p) (upd H p (.tup (iQ xs lo hi)))
theorem Sd:X3 X (Vy X.K):=by
 intro pins s σ H x v vl vu lo hi sl Q I rx hs pl pu h;obtain ⟨a,xs,rfl,hx,hw,q⟩:=h;cases rx;obtain ⟨its,r,ht,hz⟩:=I.tuple hx;have hlen:its.toArray.size=xs.length:=by rw [List.size_toArray];exact r.length.symm
 refine ⟨"tuple",_,PyProof.Rows.slot_tuple_getitem.lookup,ht.typeIs, ?_⟩;refine HT.pI ht hs pl pu (by rw [hlen];exact hw) ?_ (by rw [hlen];exact hz);rw [hlen];refine ⟨.ref s.heap.objs.size,_,I.laid (t':=s.toks) (o:= .tup (iQ xs lo hi)) (fun b ob q=>Heap.get?_push_of_some _ q) (Nat.le_refl _) ?_,rfl,q _ (I.hok.fresh (Nat.le_refl _))⟩;exact ⟨Nat.le_trans (qZ xs lo hi) hz,_,(r.drop (HT.g_ xs.length 0 lo)).take (HT.g_ xs.length xs.length hi - HT.g_ xs.length 0 lo),IsTup.new _ _⟩
def QV (K:PySem.W.Frag):R2:=fun x y H Q=>∃a b xs ys,x = .ref a/\y = .ref b/\bL K H a xs/\bL K H b ys/\xs≠[]/\xs.length+ys.length<=sizeLine /\
 (ys=[]->Q (.ref a) H)/\(ys≠[] -> ∀p,H p=none->Q (.ref p) (upd H p (.tup (xs++ys))))
theorem Vals.yw {xs:List V} {us:List Value} (r:Vals xs us):us=[]↔xs=[]:=by
 cases r with
 | nil=>simp
 | cons _ _=>simp
theorem Ox:lR X (binaryOp .Add) (QV X.K):=by
 intro pins s σ H x y v u Q I rx ry h;obtain ⟨a,b,xs,ys,rfl,rfl,ha,hb,hx,hz,q1,q2⟩:=h;cases rx;cases ry;obtain ⟨its,r1,p1,_⟩:=I.tuple ha;obtain ⟨its2,r2,p2,_⟩:=I.tuple hb;refine HT.Qi p1 p2 (fun z=>hx (r1.yw.mp z)) (fun z=>⟨.ref a,H,I,rfl,q1 (r2.yw.mp z)⟩) (fun z=> ?_) (by rw [←r1.length,←r2.length];exact hz);refine ⟨.ref s.heap.objs.size,_,I.laid (t':=s.toks) (o:= .tup (xs++ys)) (fun b ob q=>Heap.get?_push_of_some _ q) (Nat.le_refl _) ?_,rfl,q2 (fun w=>z (r2.yw.mpr w)) _ (I.hok.fresh (Nat.le_refl _))⟩;exact ⟨by rw [List.length_append];exact hz,_,r1.append r2,IsTup.new _ _⟩
end
end L2
namespace L2
open PySem PySem.Spec PyProof.Rows
def PB (n:Nat) (i:Int):Option Nat:=if 0<=i then (if i<n then some i.toNat else none) else if -(n:Int)<=i then some (i+n).toNat else none
def Bp {α:Type} (xs:List α) (i:Int):Option α:=(PB xs.length i).bind fun j=>xs[j]?
theorem Fz {n:Nat} {i:Int} {j:Nat} (h:PB n i=some j):seqIndex? i n=some j/\j<n /\ -(n:Int)<=i/\i<n:=by
 unfold PB at h
 by_cases h0:0<=i
 ·rw [if_pos h0] at h
  by_cases h1:i<n
  ·rw [if_pos h1] at h
   have e:i.toNat=j:=Option.some.inj h;exact ⟨by rw [seqIndex_of h0 h1,e],by omega,by omega,h1⟩
  ·rw [if_neg h1] at h;cases h
 ·rw [if_neg h0] at h
  by_cases h1: -(n:Int)<=i
  ·rw [if_pos h1] at h
   have e:(i+n).toNat=j:=Option.some.inj h;exact ⟨by rw [seqIndex_neg (by omega) h1,e],by omega,h1,by omega⟩
  ·rw [if_neg h1] at h;cases h
theorem yU {α:Type} {xs:List α} {i:Int} {v:α} (h:Bp xs i=some v):∃j,seqIndex? i xs.length=some j/\xs[j]? = some v/\j<xs.length /\ -(xs.length:Int)<=i/\i<xs.length:=by
 unfold Bp at h;cases e:PB xs.length i with
 | none=>rw [e] at h;cases h
 | some j=>
   rw [e] at h;obtain ⟨h1,h2,h3,h4⟩:=Fz e;exact ⟨j,h1,h,h2,h3,h4⟩
theorem dR {α:Type} {xs:List α} {j:Nat} {v:α} (h:xs[j]? = some v):Bp xs (j:Int)=some v:=by
 have hj:j<xs.length:=(List.getElem?_eq_some_iff.mp h).1
 have e:PB xs.length (j:Int)=some j:=by
  unfold PB;rw [if_pos (by omega),if_pos (by omega)];simp
 unfold Bp;rw [e];exact h
def Qw (b:Expr):Prop:=∀o i,subscripted b false o i=operate [o,i] (getItem o i)
def Jg (X:Cx) (r:R2):Prop:=
 ∀(value slice:Expr) (pins:List (Addr×Obj)) (s:Shared) (σ:St) (H:Hp) (x y:V) (v u:Value) (Q:VK),Inv X pins σ H s->RelV x v->RelV y u->r x y H Q ->
  subscripted slice false v u=operate [v,u] (getItem v u)->wpAny (model X.prog X.w) X.A (subscriptTail value slice v u) (EP X pins σ Q) X.xe s
def Z_ (X:Cx) (id:String) (r:V->List V->Hp->VK->Prop):Prop:=
 ∀(pins:List (Addr×Obj)) (s:Shared) (σ:St) (H:Hp) (x:V) (xs:List V) (v:Value) (us:List Value) (Q:VK),Inv X pins σ H s->RelV x v->Vals xs us->r x xs H Q ->
  wpAny (model X.prog X.w) X.A (call (.builtin id) (v::us)) (EP X pins σ Q) X.xe s
section
variable {X:Cx} {a b:Expr} {ta tb:TE} {pos:Pos}
theorem Jg.or {r r':R2} (h:Jg X r) (h':Jg X r'):Jg X (fun x y H Q=>r x y H Q\/r' x y H Q):=by
 intro value slice pins s σ H x y v u Q I rx ry q hs;rcases q with q|q
 ·exact h value slice pins s σ H x y v u Q I rx ry q hs
 ·exact h' value slice pins s σ H x y v u Q I rx ry q hs
theorem aK {r:R2} (hr:Jg X r) (ha:PE X a ta) (hb:PE X b tb) (hs:Qw b):PE X (.Subscript a b pos) (El r ta tb):=by
 intro pins s σ H Q I h;exact Subscript_ (Uu ha hb I h fun v u s2 x y H2 I2 rx ry q=>hr a b pins s2 σ H2 x y v u Q I2 rx ry q (hs _ _))
def SJ (K:PySem.W.Frag):R2:=fun x y H Q=>∃p xs i v,x = .ref p/\y = .int i/\aZ K H p xs/\Bp xs i=some v/\Q v H
def yh (K:PySem.W.Frag):R2:=fun x y H Q=>∃p xs i v,x = .ref p/\y = .int i/\bL K H p xs/\Bp xs i=some v/\Q v H
def VG:R2:=fun x y H Q=>∃z i c,x = .str z/\y = .int i/\z.length<=sizeLine/\Bp z.cps.toList i=some c/\Q (.str ⟨#[c]⟩) H
theorem Fy:Jg X (SJ X.K):=by
 intro value slice pins s σ H x y v u Q I rx ry h hs;obtain ⟨p,xs,i,z,rfl,rfl,hq,he,q⟩:=h;cases rx;obtain ⟨t,rfl⟩:=ry;obtain ⟨its,r,pl,hz⟩:=I.list hq;obtain ⟨j,h1,h2,h3,h4,h5⟩:=yU he;obtain ⟨w,ew,rw'⟩:=r.get h2;have hl:=r.length;have hn:=mJ;have fin:EP X pins σ Q w s:=⟨z,H,I,rw',q⟩
 by_cases h0:0<=i
 ·have hj:i.toNat=j:=by
   rw [seqIndex_of h0 h5] at h1;exact Option.some.inj h1
  exact item_listR pl.isList h0 (by omega) (by rw [hj];simpa using ew) fin hs
 ·have hj:(i+(its.toArray.size:Int)).toNat=j:=by
   rw [seqIndex_neg (by omega) h4] at h1;rw [List.size_toArray,←hl];exact Option.some.inj h1
  exact subscriptTail_builtinR (x:=w) pl.isList.typeIs slot_list_getitem.lookup
   (wpAny_getItem_list_neg (Q:=fun r s'=>r=w/\EP X pins σ Q r s') pl.isList (by omega) (by rw [List.size_toArray]<;>omega) (by omega) (by rw [hj];simpa using ew) ⟨rfl,fin⟩) hs
theorem Lg:Jg X (yh X.K):=by
 intro value slice pins s σ H x y v u Q I rx ry h hs;obtain ⟨p,xs,i,z,rfl,rfl,hq,he,q⟩:=h;cases rx;obtain ⟨t,rfl⟩:=ry;obtain ⟨its,r,pl,hz⟩:=I.tuple hq;obtain ⟨j,h1,h2,h3,h4,h5⟩:=yU he;obtain ⟨w,ew,rw'⟩:=r.get h2;have hl:=r.length;have hn:=mJ;have fin:EP X pins σ Q w s:=⟨z,H,I,rw',q⟩
 exact subscriptTail_builtinR (x:=w) pl.typeIs slot_tuple_getitem.lookup
  (getItem_tuple (j:=j) (Q:=fun r s'=>r=w/\EP X pins σ Q r s') pl (by omega) (by omega) (by rw [List.size_toArray,←hl];exact h1) (by simpa using ew) ⟨rfl,fin⟩) hs
theorem T9:Jg X VG:=by
 intro value slice pins s σ H x y v u Q I rx ry h hs;obtain ⟨z,i,c,rfl,rfl,hz,he,q⟩:=h;obtain ⟨t,rfl⟩:=rx;obtain ⟨t',rfl⟩:=ry;obtain ⟨j,h1,h2,h3,h4,h5⟩:=yU he;have hl:z.cps.toList.length=z.length:=by simp [Str.length]
 rw [hl] at h1 h4 h5;have hn:=mJ
 exact tail_any (typeIs_str s z t) slot_str_getitem.lookup (getItem_str (c:=c) (by
  have e1:decide (i < -(2 ^ 63:Int))=false:=decide_eq_false (by omega);have e2:decide (i≥2 ^ 63)=false:=decide_eq_false (by omega);rw [e1,e2,Bool.or_false]) (by rw [h1];simpa using h2) ⟨.str ⟨#[c]⟩,H,I.tok _,⟨_,rfl⟩,q⟩) hs
def rIx (K:PySem.W.Frag):R2:=fun x y H Q=>SJ K x y H Q\/yh K x y H Q\/VG x y H Q
theorem T_:Jg X (rIx X.K):=Fy.or (Lg.or T9)
theorem Dg (its:List Value) (n j:Nat) (u:Value):Obj.mapSeq (·.setIfInBounds j u) {cls:= .type "list",data:= .seq its.toArray n}={cls:= .type "list",data:= .seq (its.set j u).toArray n}:=by
 simp [Obj.mapSeq]
theorem Inv.lst {pins:List (Addr×Obj)} {σ:St} {H:Hp} {s:Shared} {p:Addr} {xs:List V} (I:Inv X pins σ H s) (h:H p=some (.lst xs)):
 ∃(its:List Value) (n:Nat),Vals xs its/\s.heap.get? p=some {cls:= .type "list",data:= .seq its.toArray n}/\xs.length<=sizeLine:=by
 obtain ⟨z,its,n,r,e⟩:=I.hok p _ h;exact ⟨its,n,r,e,z⟩
theorem Inv.TJ {pins:List (Addr×Obj)} {σ:St} {H:Hp} {s:Shared} {p:Addr} {xs ys:List V} {its its':List Value} {n n':Nat} {f:Obj->Obj} (I:Inv X pins σ H s) (h:H p=some (.lst xs))
 (ho:s.heap.get? p=some {cls:= .type "list",data:= .seq its.toArray n}) (hf:f {cls:= .type "list",data:= .seq its.toArray n}={cls:= .type "list",data:= .seq its'.toArray n'}) (r:Vals ys its') (hz:ys.length<=sizeLine) (t:Nat):
 Inv X pins σ (upd H p (.lst ys)) {s with heap:=s.heap.update p f,toks:=t}:=by
 have e:(s.heap.update p f).get? p=some {cls:= .type "list",data:= .seq its'.toArray n'}:=by
  rw [Heap.get?_update_self f ho (by rw [hf]<;>rfl),hf]
 refine I.write (x:=p) (e:=p) (by rw [h];trivial) (.inl rfl) (fun b u hb q=>(Heap.get?_update_other _ _ (Ne.symm hb)).trans q) ⟨_,e⟩ ?_;exact ⟨hz,its',n',r,e⟩
def VB:V->V->V->Hp->(Hp->Prop)->Prop:=fun o i v H Q=>∃p xs k j,o = .ref p/\i = .int k/\H p=some (.lst xs)/\PB xs.length k=some j/\Q (upd H p (.lst (xs.set j v)))
theorem set_list:Uy X VB:=by
 intro pins s σ H o i v ov iv u Q I ro ri rv h;obtain ⟨p,xs,k,j,rfl,rfl,hp,hj,q⟩:=h;cases ro;obtain ⟨t,rfl⟩:=ri;obtain ⟨its,n,r,ho,hz⟩:=I.lst hp;obtain ⟨h1,h2,h3,h4⟩:=Fz hj;have hl:=r.length;have hn:=mJ
 have I':Inv X pins σ (upd H p (.lst (xs.set j v))) {s with heap:=s.heap.update p (Obj.mapSeq (·.setIfInBounds j u))}:=
  I.TJ hp ho (Dg its n j u) (r.set rv j) (by rw [List.length_set];exact hz) s.toks
 by_cases h0:0<=k
 ·have hk:k.toNat=j:=by
   rw [seqIndex_of h0 h4] at h1;exact Option.some.inj h1
  exact PySem.W.ki_setAt ho h0 (by omega) (by rw [List.size_toArray,←hl];exact h4) (by rw [hk];exact ⟨_,I',q⟩)
 ·have hk:(k+(its.toArray.size:Int)).toNat=j:=by
   rw [seqIndex_neg (by omega) h3] at h1;rw [List.size_toArray,←hl];exact Option.some.inj h1
  exact PySem.W.ki_setBack ho (by omega) (by rw [List.size_toArray,←hl];exact h3) (by omega) (by rw [hk];exact ⟨_,I',q⟩)
theorem yc (lo hi:Option Int) (n:Nat):(sliceBounds lo hi none n).1=((HT.g_ n 0 lo:Nat):Int)/\(sliceBounds lo hi none n).2.1=((HT.g_ n n hi:Nat):Int)/\(sliceBounds lo hi none n).2.2=1:=by
 refine ⟨?_, ?_,rfl⟩
 ·cases lo with
  | none=>simp [sliceBounds,HT.g_]
  | some i=>
    simp only [sliceBounds,HT.g_,Option.getD_none,show (1:Int)>0 by decide,if_true]
    by_cases h:i<0
    ·simp only [h,if_true]<;>omega
    ·simp only [h,if_false]<;>omega
 ·cases hi with
  | none=>simp [sliceBounds,HT.g_]
  | some i=>
    simp only [sliceBounds,HT.g_,Option.getD_none,show (1:Int)>0 by decide,if_true]
    by_cases h:i<0
    ·simp only [h,if_true]<;>omega
    ·simp only [h,if_false]<;>omega
theorem vC (its:List Value) (lo hi:Option Int):slicePick its.toArray lo hi none=((its.drop (HT.g_ its.length 0 lo)).take (HT.g_ its.length its.length hi - HT.g_ its.length 0 lo)).toArray:=by
 obtain ⟨h1,h2,h3⟩:=yc lo hi its.toArray.size;unfold slicePick;rw [h1,h2,h3];simp only [sliceRange_one,pick_run,List.size_toArray]<;>rfl
def Vz (K:PySem.W.Frag):V->Option Int->Option Int->Hp->VK->Prop:=fun x lo hi H Q=>∃a xs,x = .ref a/\aZ K H a xs /\ ∀p,H p=none->Q (.ref p) (upd H p (.lst (iQ xs lo hi)))
theorem NZ:X3 X (Vz X.K):=by
 intro pins s σ H x v vl vu lo hi sl Q I rx hs pl pu h;obtain ⟨a,xs,rfl,hx,q⟩:=h;cases rx;obtain ⟨its,r,ht,hz⟩:=I.list hx;have hlen:=r.length;refine ⟨"list",_,slot_list_getitem.lookup,ht.isList.typeIs, ?_⟩;refine wpAny_getItem_list_slice ht.isList hs pl pu .none (by simp) ?_ (by rw [List.size_toArray]<;>omega);rw [vC,←hlen];refine ⟨.ref s.heap.objs.size,_,I.laid (t':=s.toks) (o:= .lst (iQ xs lo hi)) (fun b ob q=>Heap.get?_push_of_some _ q) (Nat.le_refl _) ?_,rfl,q _ (I.hok.fresh (Nat.le_refl _))⟩;exact ⟨Nat.le_trans (qZ xs lo hi) hz,_,0,(r.drop (HT.g_ xs.length 0 lo)).take (HT.g_ xs.length xs.length hi - HT.g_ xs.length 0 lo),Heap.get?_push_size _ rfl⟩
theorem yM:ig X (.builtin "len") (fun xs H Q=>∃p ys,xs=[.ref p]/\(aZ X.K H p ys\/bL X.K H p ys)/\Q (.int ys.length) H):=by
 intro pins s σ H xs us Q I r h;obtain ⟨p,ys,rfl,hq,q⟩:=h;obtain ⟨u,rfl,rx⟩:=vals1 r;cases rx;have hn:=mJ;rcases hq with hq|hq
 ·obtain ⟨its,r',pl,hz⟩:=I.list hq
  have hlen:=r'.length;exact Calls.call_len_list pl.isList (by simp only [List.size_toArray]<;>omega) ⟨.int ys.length,H,I.tok _,⟨s.toks+1,by rw [List.size_toArray,hlen]⟩,q⟩
 ·obtain ⟨its,r',pl,hz⟩:=I.tuple hq
  have hlen:=r'.length;exact len_tuple pl (by simp only [List.size_toArray]<;>omega) ⟨.int ys.length,H,I.tok _,⟨s.toks+1,by rw [List.size_toArray,hlen]⟩,q⟩
theorem yL:ig X (.type "list") (fun xs H Q=>∃p ys,xs=[.ref p]/\(aZ X.K H p ys\/bL X.K H p ys) /\ ∀l,H l=none->Q (.ref l) (upd H l (.lst ys))):=by
 intro pins s σ H xs us Q I r h;obtain ⟨p,ys,rfl,hq,q⟩:=h;obtain ⟨u,rfl,rx⟩:=vals1 r;cases rx
 have fin:∀(its:List Value),Vals ys its->ys.length<=sizeLine -> ∀(h':Heap) (c':Nat),(∀b o',s.heap.get? b=some o'->h'.get? b=some o') ->
  h'.get? s.heap.objs.size=some {cls:= .type "list",dict:=none,data:= .seq its.toArray c',slots:= #[]}->EP X pins σ Q (.ref s.heap.objs.size) {s with heap:=h'}:=fun its r' hz h' c' kp e=>
  ⟨.ref s.heap.objs.size,_,I.laid (t':=s.toks) kp (Nat.le_refl _) (show bY X.prog X.w _ h' _ (.lst ys) from ⟨hz,its,c',r',e⟩),rfl,q _ (I.hok.fresh (Nat.le_refl _))⟩
 rcases hq with hq|hq
 ·obtain ⟨its,r',pl,hz⟩:=I.list hq
  have hlen:=r'.length;obtain ⟨o,ho,hc,n,hd⟩:=pl.isList;exact call_list_seq p (.inl rfl) ho hc hd (fun h' c' kp e=>fin its r' hz h' c' kp e) (by simp only [List.size_toArray]<;>omega)
 ·obtain ⟨its,r',pl,hz⟩:=I.tuple hq
  have hlen:=r'.length;obtain ⟨o,ho,hc,n,hd⟩:=pl;exact call_list_seq p (.inr rfl) ho hc hd (fun h' c' kp e=>fin its r' hz h' c' kp e) (by simp only [List.size_toArray]<;>omega)
def tyV (K:PySem.W.Frag) (T:String) (x:V) (H:Hp):Prop:=match x with
 | .str _=>T = "str"
 | .int _=>T = "int"
 | .ref p=>(T = "list" /\ ∃xs,aZ K H p xs)\/(T = "tuple" /\ ∃o,K.lookup p=some o/\o.cls = .type "tuple" /\ o.dict=none) \/
    (T = "dict" /\ ((∃kvs,H p=some (.dK kvs)) \/ ∃kvs,H p=some (.dT kvs)))\/(T = "set" /\ ∃S n,H p=some (.set S n))
 | _=>False
theorem Rx {pins:List (Addr×Obj)} {σ:St} {H:Hp} {s:Shared} {T:String} {x:V} {v:Value} (I:Inv X pins σ H s) (r:RelV x v) (ty:tyV X.K T x H):
 s.TypeIs v T /\ ∀a,v = .ref a -> ∃ob,s.heap.get? a=some ob/\ob.dict=none:=by
 cases x with
 | str z=>
   obtain ⟨t,rfl⟩:=r;cases (show T = "str" from ty);exact ⟨typeIs_str s z t,fun _ e=>nomatch e⟩
 | int i=>
   obtain ⟨t,rfl⟩:=r;cases (show T = "int" from ty);exact ⟨typeIs_int s i t,fun _ e=>nomatch e⟩
 | ref p=>
   cases r;rcases ty with ⟨rfl,xs,hq⟩|⟨rfl,o,hk,hc,hd⟩|⟨rfl,hk⟩|⟨rfl,S,n,hk⟩
   ·obtain ⟨its,_,pl,_⟩:=I.list hq
    refine ⟨pl.isList.typeIs,fun a e=> ?_⟩;cases e;obtain ⟨o,n,e,c,hd,_⟩:=pl;exact ⟨o,e,hd⟩
   ·refine ⟨⟨o,I.Aj p o hk,hc⟩,fun a e=> ?_⟩
    cases e;exact ⟨o,I.Aj _ o hk,hd⟩
   ·have z:∃o,s.heap.get? p=some o/\o.ExactDict:=by
     rcases hk with ⟨kvs,hk⟩|⟨kvs,hk⟩
     ·obtain ⟨_,_,_,_,o,_,_,e,ex,_⟩:=I.hok p _ hk
      exact ⟨o,e,ex⟩
     ·obtain ⟨_,_,_,_,o,_,_,e,ex,_⟩:=I.hok p _ hk
      exact ⟨o,e,ex⟩
    obtain ⟨o,e,ex⟩:=z;refine ⟨⟨o,e,ex.1⟩,fun a e2=> ?_⟩;cases e2;exact ⟨o,e,ex.2.1⟩
   ·obtain ⟨o,_,_,_,e,ex,_⟩:=I.hok p _ hk
    refine ⟨⟨o,e,ex.1⟩,fun a e2=> ?_⟩;cases e2;exact ⟨o,e,ex.2.1⟩
 | _=>exact False.elim ty
def Ym (K:PySem.W.Frag) (T:String) (r:V->List V->Hp->VK->Prop) (to:TE) (t:TA):TE:=fun σ H Q=>to σ H fun x H1=>tyV K T x H1/\t σ H1 fun xs H2=>r x xs H2 Q
variable {o e:Expr} {es:List Expr} {to:TE} {t:TA} {name:Str} {apos cpos:Pos} {T id:String} {r:V->List V->Hp->VK->Prop}
theorem QZ (pa:PlainAttrs T) (slot:Slot T name id) (hty:typeOf (.builtin id)=pure (.type "method_descriptor")) (hm:Z_ X id r) (ho:PE X o to) (ha:PA X (e::es) t)
 (hbase:attributeBase o name X.env (eval o X.env)=eval o X.env:=by rfl)
 (hfew:((backTo cpos (starEach (e::es) X.env)).all (fun x=> !x.1)&&(backToKw cpos (keywordEach [] X.env)).all (fun x=>x.1.isSome)
   && decide ((e::es).length+([]:List Keyword).length+(if ([]:List Keyword).isEmpty then 0 else 1)<30))=true:=by rfl)
 (hline:(apos.endLine==cpos.line)=true:=by rfl) (hs:starEach (e::es) X.env=(false,eval e X.env)::starEach es X.env:=by rfl) (hplain:(backTo cpos (starEach es X.env)).any (·.1)=false:=by rfl):
 PE X (.Call (.Attribute o name apos) (e::es) [] cpos) (Ym X.K T r to t):=by
 intro pins s σ H Q I h;refine wpAny_Call_method_late hbase hfew hline rfl (cF (ho pins s σ H _ I h) fun v s1 ⟨x,H1,I1,r1,ty,q1⟩=> ?_);obtain ⟨h1,h2⟩:=Rx I1 r1 ty;refine ⟨T,id,pa,slot,hty,h1,h2, ?_⟩;have hA:=ha cpos pins s1 σ H1 _ I1 q1;rw [hs] at hA ⊢;refine Calls.callWith_builtin (by show (false||(backTo cpos (starEach es X.env)).any (·.1))=false;rw [hplain]<;>rfl) (Calls.evalArgs_plain ?_);exact cF hA fun us s2 ⟨vs,H2,I2,r2,q2⟩=>hm pins s2 σ H2 x vs v us Q I2 r1 r2 q2
end
end L2
namespace L2
open PySem PySem.Spec PyProof.Rows
def X_ (X:Cx) (id:String) (r:V->List V->Hp->VK->Prop):Prop:=
 ∀(pins:List (Addr×Obj)) (s:Shared) (σ:St) (H:Hp) (x:V) (xs:List V) (v:Value) (us:List Value) (Q:VK),Inv X pins σ H s->RelV x v->Vals xs us->r x xs H Q ->
  wpAny (model X.prog X.w) X.A (call (.builtin id) (v::us)) (EP X pins σ Q) X.xe s
theorem Vals.one {x:V} {us:List Value} (h:Vals [x] us):∃u,us=[u]/\RelV x u:=by
 cases h with
 | cons r t=>cases t;exact ⟨_,rfl,r⟩
theorem Vals.two {x y:V} {us:List Value} (h:Vals [x,y] us):∃u v,us=[u,v]/\RelV x u/\RelV y v:=by
 cases h with
 | cons r t=>
   cases t with
   | cons q t=>cases t;exact ⟨_,_,rfl,r,q⟩
theorem Vals.eraseIdx:∀{xs:List V} {us:List Value} (i:Nat),Vals xs us->Vals (xs.eraseIdx i) (us.eraseIdx i)
 | _,_,_,.nil=> .nil
 | _,_,0,.cons _ t=>t
 | _,_,i+1,.cons r t=> .cons r (Vals.eraseIdx i t)
theorem qw {α:Type}:∀(l:List α) (i:Nat),(l.eraseIdx i).length<=l.length
 | [],_=>Nat.le_refl _
 | _::_,0=>Nat.le_succ _
 | _::r,i+1=>Nat.succ_le_succ (qw r i)
section
variable {X:Cx} {pins:List (Addr×Obj)} {σ:St} {H:Hp} {s:Shared} {l b:Addr} {xs ys zs:List V}
theorem Inv.K5 {its its':List Value} {n:Nat} {f:Array Value->Array Value} {t':Nat} (I:Inv X pins σ H s) (hH:H l=some (.lst xs))
 (e:s.heap.get? l=some {cls:= .type "list",data:= .seq its.toArray n}) (hf:f its.toArray=its'.toArray) (hv:Vals ys its') (hz:ys.length<=sizeLine):
 Inv X pins σ (upd H l (.lst ys)) {s with heap:=s.heap.update l (Obj.mapSeq f),toks:=t'}:=by
 have q:=PySem.IsL.update e f;rw [hf] at q;refine I.write (x:=l) (e:=l) (by rw [hH];exact trivial) (.inl rfl) (fun b' u hb hu=>(Heap.get?_update_other s.heap (Obj.mapSeq f) (Ne.symm hb)).trans hu) ⟨_,q⟩ ?_;exact ⟨hz,its',_,hv,q⟩
theorem Inv.ac7 {its:List Value} {t':Nat} (I:Inv X pins σ H s) (hv:Vals ys its) (hz:ys.length<=sizeLine):
 Inv X pins σ (upd H s.heap.objs.size (.lst ys)) {s with heap:=s.heap.push {cls:= .type "list",data:= .seq its.toArray},toks:=t'}:=
 I.laid (fun _ _ q=>Heap.get?_push_of_some _ q) (Nat.le_refl _) ⟨hz,its,0,hv,Heap.get?_push_size _ rfl⟩
theorem Inv.fresh (I:Inv X pins σ H s):H s.heap.objs.size=none:=I.hok.fresh (Nat.le_refl _)
theorem Inv.Ae (I:Inv X pins σ H s) (hH:H l=some (.lst xs)):xs.length<=sizeLine /\ ∃(its:List Value) (n:Nat),Vals xs its/\xs.length=its.length/\s.heap.get? l=some {cls:= .type "list",data:= .seq its.toArray n}:=by
 obtain ⟨z,its,n,r,e⟩:=I.hok l _ hH;exact ⟨z,its,n,r,r.length,e⟩
theorem KN {n:Nat} (h:n<=sizeLine):Builtin.List.listTooLong n=false:=by
 unfold Builtin.List.listTooLong;exact decide_eq_false (by omega)
end
section
variable {X:Cx}
def Fb:V->List V->Hp->VK->Prop:=fun x vs H Q=>∃l xs y,x = .ref l/\vs=[y]/\H l=some (.lst xs)/\xs.length<sizeLine/\Q .non (upd H l (.lst (xs++[y])))
theorem wG:X_ X "list.append" Fb:=by
 intro pins s σ H x vs v us Q I rx rv h;obtain ⟨l,xs,y,rfl,rfl,hH,hz,q⟩:=h;cases rx;obtain ⟨u,rfl,ru⟩:=rv.one;obtain ⟨z,its,n,r,hl,e⟩:=I.Ae hH;refine call_meets F.slot_list_append ⟨_,e,rfl⟩ F.entry_list_append (F.args_list_append_2 _ _) (PySem.list_append l its.toArray n u (by rw [List.size_toArray];omega)) ⟨e, ?_⟩;refine ⟨.non,_,I.K5 (its':=its++[u]) hH e (by simp) (r.append (.cons ru .nil)) ?_,rfl,q⟩;rw [List.length_append,List.length_singleton];omega
def Oa:V->List V->Hp->VK->Prop:=fun x vs H Q=>∃l b xs zs,x = .ref l/\vs=[.ref b]/\H l=some (.lst xs)/\H b=some (.lst zs)/\xs.length+zs.length<=sizeLine/\Q .non (upd H l (.lst (xs++zs)))
theorem Ht:X_ X "list.extend" Oa:=by
 intro pins s σ H x vs v us Q I rx rv h;obtain ⟨l,b,xs,zs,rfl,rfl,hH,hB,hz,q⟩:=h;cases rx;obtain ⟨u,rfl,ru⟩:=rv.one;cases ru;obtain ⟨z,its,n,r,hl,e⟩:=I.Ae hH;obtain ⟨z2,its2,n2,r2,hl2,e2⟩:=I.Ae hB;have hsz:its.toArray.size+its2.toArray.size<=sizeLine:=by rw [List.size_toArray,List.size_toArray];omega
 have Wy:¬(!its.toArray.isEmpty&&Builtin.List.listTooLong (its.toArray.size+its2.toArray.size))=true:=by
  rw [KN hsz,Bool.and_false];exact Bool.false_ne_true
 refine call_meets F.slot_list_extend ⟨_,e,rfl⟩ F.entry_list_extend (F.args_list_extend_2 _ _)
  (AutoSeq1.list_extend_list_list_0 l its.toArray n b its2.toArray n2 Wy (by rw [List.size_toArray];omega) (by omega)) ⟨e,e2, ?_⟩
 refine ⟨.non,_,I.K5 (its':=its++its2) hH e (by simp) (r.append r2) ?_,rfl,q⟩;rw [List.length_append];omega
def Sy:V->List V->Hp->VK->Prop:=fun x vs H Q=>∃l xs i k y,x = .ref l/\vs=[.int i]/\H l=some (.lst xs) /\ -(2 ^ 63)<=i/\i<2 ^ 63/\seqIndex? i xs.length=some k/\xs[k]? = some y/\Q y (upd H l (.lst (xs.eraseIdx k)))
theorem K1:X_ X "list.pop" Sy:=by
 intro pins s σ H x vs v us Q I rx rv h;obtain ⟨l,xs,i,k,y,rfl,rfl,hH,h1,h2,hk,hy,q⟩:=h;cases rx;obtain ⟨u,rfl,ru⟩:=rv.one;obtain ⟨t,rfl⟩:=ru;obtain ⟨z,its,n,r,hl,e⟩:=I.Ae hH;obtain ⟨w,hw,rw'⟩:=r.get hy
 refine call_meets F.slot_list_pop ⟨_,e,rfl⟩ F.entry_list_pop (F.args_list_pop_2 _ _)
  (MeetsSeq.list_pop_at l its.toArray n i t k w (fitsIndex_both h1 h2) (by rw [List.size_toArray,←hl];exact hk) (by rw [←Array.getElem?_toList];exact hw) (by rw [List.size_toArray];omega)) ⟨e, ?_⟩
 refine ⟨y,_,I.K5 (its':=its.eraseIdx k) hH e ?_ (r.eraseIdx k) ?_,rw',q⟩
 ·show its.toArray.eraseIdxIfInBounds k=(its.eraseIdx k).toArray
  rw [List.eraseIdxIfInBounds_toArray]
 ·have:=qw xs k
  omega
def aa7:R2:=fun x y H Q=>∃l b xs zs,x = .ref l/\y = .ref b/\H l=some (.lst xs)/\H b=some (.lst zs)/\xs.length+zs.length<=sizeLine /\ ∀p,H p=none->Q (.ref p) (upd H p (.lst (xs++zs)))
theorem Ko:lR X (binaryOp .Add) aa7:=by
 intro pins s σ H x y v u Q I rx ry h;obtain ⟨l,b,xs,zs,rfl,rfl,hH,hB,hz,q⟩:=h;cases rx;cases ry;obtain ⟨z,its,n,r,hl,e⟩:=I.Ae hH;obtain ⟨z2,its2,n2,r2,hl2,e2⟩:=I.Ae hB;refine PySem.P.add_list e e2 ?_ (by rw [List.size_toArray,List.size_toArray];omega);have ea:its.toArray++its2.toArray=(its++its2).toArray:=by simp
 rw [ea];exact ⟨.ref _,_,I.ac7 (t':=s.toks) (r.append r2) (by rw [List.length_append];omega),rfl,q _ I.fresh⟩
end
section
variable {prog:Program} {w:World} {A:Around} {E:Value->Shared->Prop} {s:Shared}
end
section
variable {X:Cx}
end
end L2
namespace L2
open PySem PySem.Spec PyProof.Rows
section
variable {κ:Type} [DecidableEq κ]
def cD (kvs:List (κ×V)) (k:κ):Option V:=(kvs.find? fun kv=>decide (kv.1=k)).map (·.2)
def putK (kvs:List (κ×V)) (k:κ) (v:V):List (κ×V):=
 if (kvs.any fun kv=>decide (kv.1=k))=true then kvs.map (fun kv=>if kv.1=k then (kv.1,v) else kv) else kvs++[(k,v)]
theorem dU {p:κ×V} {r:List (κ×V)} {k:κ} (e:p.1=k):cD (p::r) k=some p.2:=by simp [cD,List.find?_cons,e]
theorem dW {p:κ×V} {r:List (κ×V)} {k:κ} (e:¬p.1=k):cD (p::r) k=cD r k:=by simp [cD,List.find?_cons,e]
theorem jX (k:κ):∀kvs:List (κ×V),(kvs.any fun kv=>decide (kv.1=k))=(cD kvs k).isSome
 | []=>rfl
 | p::r=>by
   rw [List.any_cons]
   by_cases e:p.1=k
   ·simp only [dU e,decide_eq_true e,Bool.true_or,Option.isSome_some]
   ·rw [dW e,decide_eq_false e,Bool.false_or];exact jX k r
theorem zB (k j:κ) (y:V):∀kvs:List (κ×V),cD (kvs.map fun kv=>if kv.1=k then (kv.1,y) else kv) j=(cD kvs j).map fun x=>if j=k then y else x
 | []=>rfl
 | p::r=>by
   have ih:=zB k j y r;rw [List.map_cons]
   by_cases h:p.1=k
   ·rw [if_pos h]
    by_cases e:p.1=j
    ·rw [dU (p:=(p.1,y)) e,dU e,Option.map_some,if_pos (e.symm.trans h)]
    ·rw [dW (p:=(p.1,y)) e,dW e,ih]
   ·rw [if_neg h]
    by_cases e:p.1=j
    ·rw [dU (p:=p) e,dU e,Option.map_some,if_neg (fun z=>h (e.trans z))]
    ·rw [dW (p:=p) e,dW e,ih]
theorem wj (k j:κ) (y:V):∀kvs:List (κ×V),cD kvs k=none->cD (kvs++[(k,y)]) j=if j=k then some y else cD kvs j
 | [],_=>by
   by_cases e:k=j
   ·rw [if_pos e.symm];exact dU (p:=(k,y)) e
   ·rw [if_neg (fun z=>e z.symm)];exact dW (p:=(k,y)) e
 | p::r,hn=>by
   rw [List.cons_append];have hk:¬p.1=k:=fun z=>by rw [dU z] at hn;cases hn
   rw [dW hk] at hn;have ih:=wj k j y r hn
   by_cases e:p.1=j
   ·rw [dU e,dU e,if_neg (fun z=>hk (e.trans z))]
   ·rw [dW e,dW e,ih]
theorem ju (kvs:List (κ×V)) (k j:κ) (y:V):cD (putK kvs k y) j=if j=k then some y else cD kvs j:=by
 unfold putK
 by_cases a:(kvs.any fun kv=>decide (kv.1=k))=true
 ·rw [if_pos a,zB]
  rw [jX] at a
  by_cases e:j=k
  ·obtain ⟨x,hx⟩:=Option.isSome_iff_exists.mp a
   rw [if_pos e,e,hx,Option.map_some,if_pos rfl]
  ·rw [if_neg e]
   cases cD kvs j with
   | none=>rfl
   | some x=>rw [Option.map_some,if_neg e]
 ·rw [if_neg a]
  refine wj k j y kvs ?_;rw [jX] at a;cases q:cD kvs k with
  | none=>rfl
  | some x=>rw [q] at a;exact (a rfl).elim
theorem dG (kvs:List (κ×V)) (k:κ) (v:V):(putK kvs k v).length<=kvs.length+1:=by
 unfold putK;split
 ·rw [List.length_map];omega
 ·rw [List.length_append,List.length_cons,List.length_nil];omega
theorem oE.qx {o:Option V} {u:Option Value} (r:oE o u):o.isSome=u.isSome:=by
 cases o with
 | none=>cases u with
   | none=>rfl
   | some _=>exact (show False from r).elim
 | some _=>cases u with
   | none=>exact (show False from r).elim
   | some _=>rfl
theorem oE.getD {o:Option V} {u:Option Value} {d:V} {d':Value} (r:oE o u) (rd:RelV d d'):RelV (o.getD d) (u.getD d'):=by
 cases o with
 | none=>cases u with
   | none=>exact rd
   | some _=>exact (show False from r).elim
 | some _=>cases u with
   | none=>exact (show False from r).elim
   | some _=>exact r
theorem KV.val {kvs:List (κ×V)} {vs:List (κ×Value)} (r:KV kvs vs) (k:κ):oE (cD kvs k) (valueAt vs k):=by
 unfold KV at r
 induction r with
 | nil=>exact True.intro
 | @cons p q ps qs h t ih=>
   obtain ⟨h1,h2⟩:=h
   by_cases e:p.1=k
   ·have e':q.1=k:=h1.symm.trans e
    have b:valueAt (q::qs) k=some q.2:=by simp [valueAt,List.find?_cons,e']
    rw [dU e,b];exact h2
   ·have e':¬q.1=k:=fun z=>e (h1.trans z)
    have b:valueAt (q::qs) k=valueAt qs k:=by simp [valueAt,List.find?_cons,e']
    rw [dW e,b];exact ih
theorem KV.any {kvs:List (κ×V)} {vs:List (κ×Value)} (r:KV kvs vs) (k:κ):(kvs.any fun kv=>decide (kv.1=k))=vs.any fun kv=>decide (kv.1=k):=by
 unfold KV at r
 induction r with
 | nil=>rfl
 | cons h t ih=>rw [List.any_cons,List.any_cons,ih,h.1]
theorem KV.repl {kvs:List (κ×V)} {vs:List (κ×Value)} (r:KV kvs vs) (k:κ) {y:V} {u:Value} (ry:RelV y u):
 KV (kvs.map fun kv=>if kv.1=k then (kv.1,y) else kv) (vs.map fun kv=>if kv.1=k then (kv.1,u) else kv):=by
 unfold KV at r ⊢
 induction r with
 | nil=>exact .nil
 | @cons p q ps qs h t ih=>
   rw [List.map_cons,List.map_cons];refine .cons ?_ ih;obtain ⟨h1,h2⟩:=h
   by_cases e:p.1=k
   ·rw [if_pos e,if_pos (h1.symm.trans e)];exact ⟨h1,ry⟩
   ·rw [if_neg e,if_neg (fun z=>e (h1.trans z))];exact ⟨h1,h2⟩
theorem KV.put {kvs:List (κ×V)} {vs:List (κ×Value)} (r:KV kvs vs) (k:κ) {y:V} {u:Value} (ry:RelV y u):KV (putK kvs k y) (stored vs k u):=by
 unfold putK stored;rw [r.any k]
 by_cases e:(vs.any fun kv=>decide (kv.1=k))=true
 ·rw [if_pos e,if_pos e];exact r.repl k ry
 ·rw [if_neg e,if_neg e];exact Paired.snoc r ⟨rfl,ry⟩
theorem KV.length {kvs:List (κ×V)} {vs:List (κ×Value)} (r:KV kvs vs):kvs.length=vs.length:=Paired.length r
end
theorem qW {P:Program} {w:World} {k:Key} {u:Value} (r:RelV (kV k) u):(bD P w).is k u=true:=by
 cases k with
 | inl i=>obtain ⟨t,e⟩:=(show ∃t,u=Value.int i t from r);subst e;exact z_ P w i t
 | inr x=>obtain ⟨t,e⟩:=(show ∃t,u=Value.str x t from r);subst e;exact z9 P w x t
theorem wH {P:Program} {w:World}:∀{ks:List Key} {us:List Value},Vals (ks.map kV) us->ItemsAre (bD P w) ks us
 | [],_,r=>by rw [List.map_nil] at r;cases r;exact .nil
 | k::ks,_,r=>by
   rw [List.map_cons] at r;cases r with
   | cons h t=>exact .cons (qW h) (wH t)
abbrev KT (H:Hp):List (List Key×V)->List (List Key×Addr×Value)->Prop:=Paired fun p q=>p.1=q.1/\H q.2.1=some (.tup (p.1.map kV))/\RelV p.2 q.2.2
theorem KT.val {H:Hp} {kvs:List (List Key×V)} {xs:List (List Key×Addr×Value)} (r:KT H kvs xs) (k:List Key):oE (cD kvs k) ((atKey xs k).map (·.2)):=by
 induction r with
 | nil=>exact True.intro
 | @cons p q ps qs h t ih=>
   obtain ⟨h1,_,h2⟩:=h
   by_cases e:p.1=k
   ·have e':q.1=k:=h1.symm.trans e
    have b:atKey (q::qs) k=some q.2:=by simp [atKey,List.find?_cons,e']
    rw [dU e,b];exact h2
   ·have e':¬q.1=k:=fun z=>e (h1.trans z)
    have b:atKey (q::qs) k=atKey qs k:=by simp [atKey,List.find?_cons,e']
    rw [dW e,b];exact ih
theorem KT.repl {H:Hp} {kvs:List (List Key×V)} {xs:List (List Key×Addr×Value)} (r:KT H kvs xs) (k:List Key) {y:V} {u:Value} (ry:RelV y u):
 KT H (kvs.map fun kv=>if kv.1=k then (kv.1,y) else kv) (xs.map (putAt k u)):=by
 induction r with
 | nil=>exact .nil
 | @cons p q ps qs h t ih=>
   rw [List.map_cons,List.map_cons];refine .cons ?_ ih;obtain ⟨h1,h2,h3⟩:=h;unfold putAt
   by_cases e:p.1=k
   ·rw [if_pos e,if_pos (h1.symm.trans e)];exact ⟨h1,h2,ry⟩
   ·rw [if_neg e,if_neg (fun z=>e (h1.trans z))];exact ⟨h1,h2,h3⟩
theorem KT.put {H:Hp} {kvs:List (List Key×V)} {xs:List (List Key×Addr×Value)} (r:KT H kvs xs) (k:List Key) {b:Addr} {y:V} {u:Value} (hb:H b=some (.tup (k.map kV))) (ry:RelV y u):
 KT H (putK kvs k y) (storedH xs k b u):=by
 have e:(kvs.any fun kv=>decide (kv.1=k))=(atKey xs k).isSome:=by
  rw [jX,(r.val k).qx,Option.isSome_map]
 unfold putK storedH;rw [e]
 by_cases q:(atKey xs k).isSome=true
 ·rw [if_pos q,if_pos q];exact r.repl k ry
 ·rw [if_neg q,if_neg q];exact Paired.snoc r ⟨rfl,hb,ry⟩
theorem KT.keeps {H H':Hp} {kvs:List (List Key×V)} {xs:List (List Key×Addr×Value)} (r:KT H kvs xs) (ht:∀b ys,H b=some (.tup ys)->H' b=some (.tup ys)):KT H' kvs xs:=
 Paired.TF r fun _ _ z=>⟨z.1,ht _ _ z.2.1,z.2.2⟩
section
variable {P:Program} {w:World} {H:Hp} {h:Heap} {a:Addr}
theorem QS {u:HO} (ok:nP P w H h) (e:Rd H a u):bY P w H h a u:=e.ok ok
theorem uI {kvs:List (Key×V)} (ok:nP P w H h) (e:Rd H a (.dK kvs)):kvs.length<=sizeLine/\(a==sysModules)=false /\ ∃vs,KV kvs vs/\h.DictOf (bD P w) a vs:=
 show bY P w H h a (.dK kvs) from QS ok e
theorem FW {kvs:List (Key×V)} (ok:nP P w H h) (e:H a=some (.dK kvs)):kvs.length<=sizeLine/\(a==sysModules)=false /\ ∃vs,KV kvs vs/\h.DictOf (bD P w) a vs:=uI ok (.inl e)
theorem lD {ks:List Key} (ok:nP P w H h) (e:H a=some (.tup (ks.map kV))):(tupleKind (bD P w)).is h ks a:=by
 obtain ⟨_,its,r,o,h1,h2,n,h3⟩:=(show bY P w H h a (.tup (ks.map kV)) from ok a _ e);exact ⟨o,its.toArray,n,h1,h2,h3,by simpa using wH r⟩
theorem uG {kvs:List (List Key×V)} (ok:nP P w H h) (e:Rd H a (.dT kvs)):kvs.length<=sizeLine/\(a==sysModules)=false /\
 ∃xs,KT H kvs xs/\h.DictOfH (tupleKind (bD P w)) a xs:=by
 obtain ⟨z,y,xs,r,o,es,ep,h1,h2,h3,h4,h5⟩:=(show bY P w H h a (.dT kvs) from QS ok e);refine ⟨z,y,xs,r,o,es,ep,h1,h2,h3,h4,fun x hx=> ?_,h5⟩
 have all:∀{l:List (List Key×V)} {m:List (List Key×Addr×Value)},KT H l m -> ∀x∈m,(tupleKind (bD P w)).is h x.1 x.2.1:=by
  intro l m q
  induction q with
  | nil=>intro x hx;exact nomatch hx
  | @cons p q ps qs hq t ih=>
    intro x hx;rcases List.mem_cons.mp hx with e|hx
    ·subst e
     exact lD ok (by rw [←hq.1];exact hq.2.1)
    ·exact ih x hx
 exact all r x hx
theorem Ri {kvs:List (List Key×V)} (ok:nP P w H h) (e:H a=some (.dT kvs)):kvs.length<=sizeLine/\(a==sysModules)=false /\
 ∃xs,KT H kvs xs/\h.DictOfH (tupleKind (bD P w)) a xs:=uG ok (.inl e)
end
def h_ (H:Hp) (a:Addr) (y:V) (r:Option V):Prop:=
 (∃kvs k,Rd H a (.dK kvs)/\y=kV k/\r=cD kvs k) \/ ∃kvs k b,Rd H a (.dT kvs)/\y = .ref b/\H b=some (.tup (k.map kV))/\r=cD kvs k
def vm (H:Hp) (a:Addr) (y v:V) (H':Hp):Prop:=
 (∃kvs k,H a=some (.dK kvs)/\y=kV k/\kvs.length<sizeLine/\H'=upd H a (.dK (putK kvs k v))) \/
 ∃kvs k b,H a=some (.dT kvs)/\y = .ref b/\H b=some (.tup (k.map kV))/\kvs.length<sizeLine/\H'=upd H a (.dT (putK kvs k v))
theorem h_.k {H:Hp} {a:Addr} {kvs:List (Key×V)} {k:Key} (e:H a=some (.dK kvs)):h_ H a (kV k) (cD kvs k):= .inl ⟨kvs,k,.inl e,rfl,rfl⟩
theorem h_.t {H:Hp} {a b:Addr} {kvs:List (List Key×V)} {k:List Key} (e:H a=some (.dT kvs)) (eb:H b=some (.tup (k.map kV))):h_ H a (.ref b) (cD kvs k):= .inr ⟨kvs,k,b,.inl e,rfl,eb,rfl⟩
theorem vm.k {H:Hp} {a:Addr} {kvs:List (Key×V)} {k:Key} {v:V} (e:H a=some (.dK kvs)) (hl:kvs.length<sizeLine):vm H a (kV k) v (upd H a (.dK (putK kvs k v))):= .inl ⟨kvs,k,e,rfl,hl,rfl⟩
theorem vm.t {H:Hp} {a b:Addr} {kvs:List (List Key×V)} {k:List Key} {v:V} (e:H a=some (.dT kvs)) (eb:H b=some (.tup (k.map kV))) (hl:kvs.length<sizeLine):
 vm H a (.ref b) v (upd H a (.dT (putK kvs k v))):= .inr ⟨kvs,k,b,e,rfl,eb,hl,rfl⟩
section
variable {X:Cx} {pins:List (Addr×Obj)} {σ:St} {H:Hp} {s:Shared} {a:Addr} {y v:V} {u r:Value} {o:Option V} {A:Around} {E:Value->Shared->Prop}
theorem Inv.big (I:Inv X pins σ H s):sysModules<s.heap.objs.size:=by
 have h:mainGlobals<s.heap.objs.size:=(I.mod.glob.keeps I.bk).lt;exact Nat.lt_trans (by decide) h
theorem Ik {Q:Value->Shared->Prop} (hu:A.units+1<cLine) (I:Inv X pins σ H s) (g:h_ H a y (some v)) (ry:RelV y u) (h:∀w' s',Inv X pins σ H s'->RelV v w'->Q w' s'):
 wpAny (model X.prog X.w) A (getItem (.ref a) u) Q E s:=by
 rcases g with ⟨kvs,k,e,ey,l⟩|⟨kvs,k,b,e,ey,eb,l⟩
 ·subst ey
  obtain ⟨z,hd,vs,rel,dd⟩:=uI I.hok e;obtain ⟨w',hw,rw'⟩:=oE.some_of (v:=v) (o:=valueAt vs k) (by rw [l];exact rel.val k);exact wpAny_getItem_of (qW ry) dd.mapOf hw (h w' _ (I.tok _) rw')
 ·subst ey
  cases (show u=Value.ref b from ry);obtain ⟨z,hd,xs,rel,dd⟩:=uG I.hok e;obtain ⟨w',hw,rw'⟩:=oE.some_of (v:=v) (o:=(atKey xs k).map (·.2)) (by rw [l];exact rel.val k);obtain ⟨p,hp,hp2⟩:=Option.map_eq_some_iff.mp hw;refine wpAny_getItem_heap (tupleKind_room_in1 hu) (lD I.hok eb) dd hp ?_;rw [hp2];exact h w' _ (I.tok _) rw'
theorem Qd {Q:Value->Shared->Prop} (hu:A.units+1<cLine) (I:Inv X pins σ H s) (g:h_ H a y o) (ry:RelV y u) (h:∀s',Inv X pins σ H s'->Q (.bool (!o.isSome)) s'):
 wpAny (model X.prog X.w) A (compareOp .NotIn u (.ref a)) Q E s:=by
 rcases g with ⟨kvs,k,e,ey,l⟩|⟨kvs,k,b,e,ey,eb,l⟩
 ·subst ey
  obtain ⟨z,hd,vs,rel,dd⟩:=uI I.hok e;refine wpAny_notIn_of (qW ry) hd dd.mapOf ?_;rw [←(rel.val k).qx,←l];exact h _ (I.tok _)
 ·subst ey
  cases (show u=Value.ref b from ry);obtain ⟨z,hd,xs,rel,dd⟩:=uG I.hok e;refine wpAny_notIn_heap (tupleKind_room_in1 hu) (lD I.hok eb) hd dd ?_;have q:=(rel.val k).qx;rw [Option.isSome_map] at q;rw [←q,←l];exact h _ (I.tok _)
theorem pN {h':Heap} {t':Nat} {ob:HO} (I:Inv X pins σ H s) (mu:X8 (H a)) (hs:Heap.SameBut a s.heap h') (he:∃q,h'.get? a=some q) (new:bY X.prog X.w (upd H a ob) h' a ob):
 Inv X pins σ (upd H a ob) {s with heap:=h',toks:=t'}:=
 I.write (x:=a) (e:=a) mu (.inl rfl) (fun b q hb z=>(hs.2 b hb).trans z) he new
theorem L_ {P:Program} {w:World} {H':Hp} {h':Heap} {kvs:List (Key×V)} {vs:List (Key×Value)} (z:kvs.length<=sizeLine) (hd:(a==sysModules)=false) (rel:KV kvs vs) (dd:h'.DictOf (bD P w) a vs):
 bY P w H' h' a (.dK kvs):=⟨z,hd,vs,rel,dd⟩
theorem Ij {H':Hp} {Q:Unit->Shared->Prop} (hu:A.units+1<cLine) (I:Inv X pins σ H s) (g:vm H a y v H') (ry:RelV y u) (rv:RelV v r) (h:∀s',Inv X pins σ H' s'->Q () s'):
 wpAny (model X.prog X.w) A (setItem (.ref a) u r) Q E s:=by
 rcases g with ⟨kvs,k,e,ey,l,eH⟩|⟨kvs,k,b,e,ey,eb,l,eH⟩
 ·subst ey eH
  obtain ⟨z,hd,vs,rel,dd⟩:=FW I.hok e;have hz:vs.length<=sizeLine:=by rw [←rel.length];exact z
  have hl:(putK kvs k v).length<=sizeLine:=by have:=dG kvs k v;omega
  refine wpAny_setItem_pairs (hsz:=hz) (qW ry) dd fun h' Mf hs=>h _ ?_;have he:∃q,h'.get? a=some q:=let ⟨q,_,_,hq,_⟩:=Mf;⟨q,hq⟩
  exact pN I (by rw [e];exact True.intro) hs he (L_ hl hd (rel.put k rv) Mf)
 ·subst ey eH
  cases (show u=Value.ref b from ry);obtain ⟨z,hd,xs,rel,dd⟩:=Ri I.hok e;have hz:xs.length<=sizeLine:=by rw [←Paired.length rel];exact z
  have hl:(putK kvs k v).length<=sizeLine:=by have:=dG kvs k v;omega
  refine wpAny_setItem_heap (hsz:=hz) (tupleKind_room_in1 hu) (lD I.hok eb) dd fun h' Mf hs=>h _ ?_;obtain ⟨q,es,ep,hq,h2,h3,h4,_,h5⟩:=Mf;refine pN I (by rw [e];exact True.intro) hs ⟨q,hq⟩ ⟨hl,hd,_,(rel.put k eb rv).keeps fun c ys ec=> ?_,q,es,ep,hq,h2,h3,h4,h5⟩;rw [bA (iK ec e (fun z=>nomatch z))];exact ec
end
section
variable {X:Cx} {pins:List (Addr×Obj)} {σ:St} {H:Hp} {s:Shared} {a:Addr} {kvs:List (Key×V)} {k:Key} {u:Value} {A:Around} {E:Value->Shared->Prop}
end
def X7 (i:Expr):Prop:=∀ov iv,subscripted i false ov iv=operate [ov,iv] (getItem ov iv)
theorem NK {prog:Program} {w:World} {A:Around} {E:Value->Shared->Prop} {s:Shared} {env:Env} {value slice:Expr} {pos:Pos} {T id:String} {Q:Value->Shared->Prop}
 (hl:typeLookup (.type T) "__getitem__" = pure (some (.builtin id))) (hs:X7 slice)
 (h:wpAny (model prog w) A (eval value env) (fun o s₁=>wpAny (model prog w) A (eval slice env) (fun i s₂=>s₂.TypeIs o T/\wpAny (model prog w) A (getItem o i) Q E s₂) E s₁) E s):
 wpAny (model prog w) A (eval (.Subscript value slice pos) env) Q E s:=by
 refine Subscript_ (wpAny_mono h (fun o s₁ h₁=>wpAny_mono h₁ (fun i s₂ h₂=> ?_) fun _ _ x=>x) fun _ _ x=>x);obtain ⟨hT,h₂⟩:=h₂;unfold subscriptTail;refine wpAny_bind ?_;rw [getitemInPython_of_ne hT.not_modules];refine wpAny_bind (wpAny_specialOf hT hl ?_)
 have fin:wpAny (model prog w) A (subscripted slice false o i) (fun r s₃=>wpAny (model prog w) A (letTemporaryGo value o r >>= fun _=>pure r) Q E s₃) E s₂:=by
  rw [hs o i];exact wpAny_operating (wpAny_mono h₂ (fun r s₃ h₃=>wpAny_bind (wpAny_letTemporaryGo (wpAny_pure h₃))) fun _ _ x=>x)
 first
  | exact wpAny_pure (wpAny_bind fin)
  | exact wpAny_bind (wpAny_pure (wpAny_bind fin))
  | exact wpAny_bind fin
theorem Ay {X:Cx} {pins:List (Addr×Obj)} {σ:St} {H:Hp} {s:Shared} {a:Addr} {y:V} {o:Option V} (I:Inv X pins σ H s) (g:h_ H a y o):s.TypeIs (.ref a) "dict" :=by
 rcases g with ⟨kvs,k,e,_,_⟩|⟨kvs,k,b,e,_,_,_⟩
 ·obtain ⟨_,_,vs,_,dd⟩:=uI I.hok e
  exact dd.typeIs
 ·obtain ⟨_,_,xs,_,dd⟩:=uG I.hok e
  exact dd.typeIs
def Vo (td ty:TE):TE:=fun σ H Q=>td σ H fun x H1=>ty σ H1 fun y H2=>∃a v,x = .ref a/\h_ H2 a y (some v)/\Q v H2
def Nz (ty td:TE):TE:=fun σ H Q=>ty σ H fun y H1=>td σ H1 fun x H2=>∃a o,x = .ref a/\h_ H2 a y o/\Q (.bl (!o.isSome)) H2
def Vu (td ty tv:TE):TS:=fun D σ H=>tv σ H fun v H1=>td σ H1 fun x H2=>ty σ H2 fun y H3=>∃a H4,x = .ref a/\vm H3 a y v H4/\D.nx σ H4
section
variable {X:Cx} {o i e value:Expr} {pos pos' tpos:Pos} {td ty tv:TE}
theorem jH (hu:X.A.units+1<cLine) (ho:PE X o td) (hi:PE X i ty) (hs:X7 i):PE X (.Subscript o i pos) (Vo td ty):=by
 intro pins s σ H Q I h;refine NK PySem.F.slot_dict_getitem.lookup hs (cF (ho pins s σ H _ I h) fun u s1 ⟨x,H1,I1,rx,q1⟩=>cF (hi pins s1 σ H1 _ I1 q1) fun iv s2 ⟨y,H2,I2,ry,a,v,ex,g,q2⟩=> ?_);subst ex;obtain rfl:u=Value.ref a:=rx;exact ⟨Ay I2 g,Ik hu I2 g ry fun w' s3 I3 rw'=>⟨v,H2,I3,rw',q2⟩⟩
theorem Hg (hu:X.A.units+1<cLine) (hi:PE X i ty) (ho:PE X o td):PC X .NotIn i o (Nz ty td):=by
 intro pins s σ H Q I h;refine cF (hi pins s σ H _ I h) fun iv s1 ⟨y,H1,I1,ry,q1⟩=>cF (ho pins s1 σ H1 _ I1 q1) fun u s2 ⟨x,H2,I2,rx,a,ov,ex,g,q2⟩=> ?_;subst ex;obtain rfl:u=Value.ref a:=rx;exact Qd hu I2 g ry fun s3 I3=>⟨.bl (!ov.isSome),H2,I3,rfl,q2⟩
theorem oZ (hu:X.A.units+1<cLine) (ho:PE X o td) (hi:PE X i ty) (hv:PE X value tv) (hs:swapsWith value (some (.Subscript o i pos')) pos.line X.env=pure false):
 PS X (.Assign [.Subscript o i pos'] value pos) (Vu td ty tv):=by
 intro pins s σ H D I h;refine wpAny_Assign_Subscript (cF (hv pins s σ H _ I h) fun r s1 ⟨v,H1,I1,rv,q1⟩=>cF (ho pins s1 σ H1 _ I1 q1) fun u s2 ⟨x,H2,I2,rx,q2⟩=>cF (hi pins s2 σ H2 _ I2 q2) fun iv s3 ⟨y,H3,I3,ry,a,H4,ex,g,q3⟩=> ?_) hs;subst ex;obtain rfl:u=Value.ref a:=rx;exact Ij hu I3 g ry rv fun s4 I4=>⟨σ,H4,I4,q3⟩
end
theorem uJ {P:Program} {w:World} {H:Hp} (h:Heap) (hb:sysModules<h.objs.size):bY P w H (h.push {cls:= .type "dict",data:= .dict #[]}) h.objs.size (.dK []):=
 ⟨Nat.zero_le _,beq_eq_false_iff_ne.mpr (Ne.symm (Nat.ne_of_lt hb)),[],.nil,Heap.DictOf.new h⟩
theorem LR {P:Program} {w:World} {H:Hp} (h:Heap) (hb:sysModules<h.objs.size):bY P w H (h.push {cls:= .type "dict",data:= .dict #[]}) h.objs.size (.dT []):=
 ⟨Nat.zero_le _,beq_eq_false_iff_ne.mpr (Ne.symm (Nat.ne_of_lt hb)),[],.nil,_, #[],0,Heap.get?_push_size _ rfl,⟨rfl,rfl,rfl⟩,rfl,rfl,List.nodup_nil⟩
def RM:TE:=fun _ H Q=>∀p,H p=none->Q (.ref p) (upd H p (.dK []))
def RL:TE:=fun _ H Q=>∀p,H p=none->Q (.ref p) (upd H p (.dT []))
section
variable {X:Cx} {pos:Pos}
theorem o7:PE X (.Dict [] [] pos) RM:=fun pins s σ H Q I h=>
 wpAny_Dict_empty ⟨.ref s.heap.objs.size,_,I.laid (a:=s.heap.objs.size) (o:= .dK []) (t':=s.toks) (fun _ _ q=>Heap.get?_push_of_some _ q) (Nat.le_refl _) (uJ s.heap I.big),rfl,h _ (I.hok.fresh (Nat.le_refl _))⟩
theorem zR:PE X (.Dict [] [] pos) RL:=fun pins s σ H Q I h=>
 wpAny_Dict_empty ⟨.ref s.heap.objs.size,_,I.laid (a:=s.heap.objs.size) (o:= .dT []) (t':=s.toks) (fun _ _ q=>Heap.get?_push_of_some _ q) (Nat.le_refl _) (LR s.heap I.big),rfl,h _ (I.hok.fresh (Nat.le_refl _))⟩
end
def Cj:List (TE×TE)->St->Hp->(List (V×V)->Hp->Prop)->Prop
 | [],_,H,Q=>Q [] H
 | (tk,tv)::r,σ,H,Q=>tk σ H fun x H1=>tv σ H1 fun y H2=>Cj r σ H2 fun ps H3=>Q ((x,y)::ps) H3
abbrev VV:List (V×V)->List (Value×Value)->Prop:=Paired fun p q=>RelV p.1 q.1/\RelV p.2 q.2
def Z9 (X:Cx) (pos:Pos) (keys:List (Option Expr)) (values:List Expr) (Nr:List (TE×TE)):Prop:=
 ∀(pins:List (Addr×Obj)) (s:Shared) (σ:St) (H:Hp) (Q:List (V×V)->Hp->Prop),Inv X pins σ H s->Cj Nr σ H Q ->
  wpAny (model X.prog X.w) X.A (evalPairs (pairTrees keys values X.env pos)) (fun vs s'=>∃ps H',Inv X pins σ H' s'/\VV ps vs/\Q ps H') X.xe s
theorem Oh {X:Cx} {pos:Pos}:Z9 X pos [] [] []:=fun pins s σ H Q I h=>pairTrees_nil_walk ⟨[],H,I,.nil,h⟩
theorem J7 {X:Cx} {pos:Pos} {k v:Expr} {ks:List (Option Expr)} {vs:List Expr} {tk tv:TE} {Nr:List (TE×TE)} (hk:PE X k tk) (hv:PE X v tv) (hr:Z9 X pos ks vs Nr):
 Z9 X pos (some k::ks) (v::vs) ((tk,tv)::Nr):=fun pins s σ H Q I h=>
 pairTrees_cons_walk (cF (hk pins s σ H _ I h) fun u s1 ⟨x,H1,I1,rx,q1⟩=>cF (hv pins s1 σ H1 _ I1 q1) fun w2 s2 ⟨y,H2,I2,ry,q2⟩=>
  cF (hr pins s2 σ H2 _ I2 q2) fun ws s3 ⟨ps,H3,I3,rel,q3⟩=>⟨(x,y)::ps,H3,I3,.cons ⟨rx,ry⟩ rel,q3⟩)
def qt (kvs more:List (Key×V)):List (Key×V):=more.foldl (fun acc kv=>putK acc kv.1 kv.2) kvs
theorem KV.merge:∀{more:List (Key×V)} {rs:List (Key×Value)} {kvs:List (Key×V)} {vs:List (Key×Value)},KV more rs->KV kvs vs->KV (qt kvs more) (merged vs rs):=by
 intro more rs kvs vs r;unfold KV at r
 induction r generalizing kvs vs with
 | nil=>intro q;exact q
 | @cons p q ps qs h t ih=>
   intro r0
   have e:KV (putK kvs p.1 p.2) (stored vs q.1 q.2):=by
    have:=r0.put p.1 h.2;rw [←h.1];exact this
   exact ih e
theorem nJ:∀(more kvs:List (Key×V)),(qt kvs more).length<=kvs.length+more.length
 | [],kvs=>by show kvs.length<=kvs.length+0;omega
 | p::r,kvs=>by
   have h1:=nJ r (putK kvs p.1 p.2);have h2:=dG kvs p.1 p.2;show (qt (putK kvs p.1 p.2) r).length<=_;rw [List.length_cons];omega
theorem uO {P:Program} {w:World}:∀{kvs:List (Key×V)} {ws:List (Value×Value)},VV (kvs.map fun kv=>(kV kv.1,kv.2)) ws -> ∃rs,Carries (bD P w) ws rs/\KV kvs rs
 | [],_,r=>by rw [List.map_nil] at r;cases r;exact ⟨[],True.intro,.nil⟩
 | p::kvs,_,r=>by
   rw [List.map_cons] at r;cases r with
   | @cons a b as bs h t=>
     obtain ⟨rs,c,q⟩:=uO (P:=P) (w:=w) t;obtain ⟨b1,b2⟩:=b;exact ⟨(p.1,b2)::rs,⟨qW h.1,rfl,c⟩,.cons ⟨rfl,h.2⟩ q⟩
def Vn (Nr:List (TE×TE)):TE:=fun σ H Q=>∀p,H p=none->Cj Nr σ (upd H p (.dK [])) fun ps H2=>H2 p=some (.dK []) /\ ∃kvs:List (Key×V),ps=kvs.map (fun kv=>(kV kv.1,kv.2))/\kvs.length<=15/\Q (.ref p) (upd H2 p (.dK (qt [] kvs)))
theorem Oq {X:Cx} {pos:Pos} {keys:List (Option Expr)} {values:List Expr} {Nr:List (TE×TE)} (h:Z9 X pos keys values Nr) (hall:keys.all (·.isSome)=true) (hl:keys.length=values.length) (h0:keys≠[])
 (h15:keys.length<=15):PE X (.Dict keys values pos) (Vn Nr):=by
 intro pins s σ H Q I q;have hn:=I.hok.fresh (Nat.le_refl s.heap.objs.size);have I1:=I.laid (a:=s.heap.objs.size) (o:= .dK []) (h':=s.heap.push {cls:= .type "dict",data:= .dict #[]}) (t':=s.toks) (fun _ _ q=>Heap.get?_push_of_some _ q) (Nat.le_refl _) (uJ s.heap I.big);refine wpAny_Dict_walk (knd:=bD X.prog X.w) hall hl h0 h15 (cF (h pins _ σ _ _ I1 (q _ hn)) fun ws s2 ⟨ps,H2,I2,rel,e,kvs,ep,lk,q2⟩=> ?_);subst ep;obtain ⟨rs,c,rk⟩:=uO (P:=X.prog) (w:=X.w) rel;obtain ⟨z,hd,vs0,r0,dd⟩:=FW I2.hok e;cases r0;refine ⟨rs,c,dd,fun h' Mf hs=>⟨.ref s.heap.objs.size,_, ?_,rfl,q2⟩⟩
 have hz:(qt [] kvs).length<=sizeLine:=by
  have h1:=nJ kvs [];rw [List.length_nil] at h1;rw [sizeLine_eq];omega
 have he:∃q,h'.get? s.heap.objs.size=some q:=let ⟨q,_,_,hq,_⟩:=Mf;⟨q,hq⟩
 exact pN I2 (by rw [e];exact True.intro) hs he (L_ hz hd (rk.merge .nil) Mf)
structure M1 (X:Cx) (o:Expr) (m:Str) (apos:Pos) (e:Expr) (cpos:Pos):Prop where
 base:attributeBase o m X.env (eval o X.env)=eval o X.env
 few:((backTo cpos (starEach [e] X.env)).all (fun x=> !x.1)&&(backToKw cpos (keywordEach [] X.env)).all (fun x=>x.1.isSome)
  && decide (([e]:List Expr).length+([]:List Keyword).length+(if ([]:List Keyword).isEmpty then 0 else 1)<30))=true
 line:(apos.endLine==cpos.line)=true
 trees:backTo cpos (starEach [e] X.env)=[(false,eval e X.env)]
structure M2 (X:Cx) (o:Expr) (m:Str) (apos:Pos) (e f:Expr) (cpos:Pos):Prop where
 base:attributeBase o m X.env (eval o X.env)=eval o X.env
 few:((backTo cpos (starEach [e,f] X.env)).all (fun x=> !x.1)&&(backToKw cpos (keywordEach [] X.env)).all (fun x=>x.1.isSome)
  && decide (([e,f]:List Expr).length+([]:List Keyword).length+(if ([]:List Keyword).isEmpty then 0 else 1)<30))=true
 line:(apos.endLine==cpos.line)=true
 trees:backTo cpos (starEach [e,f] X.env)=[(false,eval e X.env),(false,eval f X.env)]
def IsD (H:Hp) (a:Addr):Prop:=(∃kvs,Rd H a (.dK kvs)) \/ ∃kvs,Rd H a (.dT kvs)
theorem Dk {X:Cx} {pins:List (Addr×Obj)} {σ:St} {H:Hp} {s:Shared} {a:Addr} (I:Inv X pins σ H s) (d:IsD H a):
 s.TypeIs (.ref a) "dict" /\ (∀b,Value.ref a = .ref b -> ∃ob,s.heap.get? b=some ob/\ob.dict=none)/\(a==sysModules)=false:=by
 rcases d with ⟨kvs,e⟩|⟨kvs,e⟩
 ·obtain ⟨_,hd,vs,_,dd⟩:=uI I.hok e
  refine ⟨dd.typeIs,fun b q=> ?_,hd⟩;cases q;obtain ⟨ob,_,_,h1,h2,_⟩:=dd;exact ⟨ob,h1,h2.2.1⟩
 ·obtain ⟨_,hd,xs,_,dd⟩:=uG I.hok e
  refine ⟨dd.typeIs,fun b q=> ?_,hd⟩;cases q;obtain ⟨ob,_,_,h1,h2,_⟩:=dd;exact ⟨ob,h1,h2.2.1⟩
section
variable {X:Cx} {pins:List (Addr×Obj)} {σ:St} {H:Hp} {s:Shared} {a:Addr} {y d:V} {u r:Value} {o:Option V} {A:Around} {E:Value->Shared->Prop}
theorem Um {Q:Value->Shared->Prop} (hu:A.units+1<cLine) (I:Inv X pins σ H s) (g:h_ H a y o) (ry:RelV y u) (h:∀w' s',Inv X pins σ H s'->RelV (o.getD .non) w'->Q w' s'):
 wpAny (model X.prog X.w) A (call (.builtin "dict.get") [.ref a,u]) Q E s:=by
 rcases g with ⟨kvs,k,e,ey,l⟩|⟨kvs,k,b,e,ey,eb,l⟩
 ·subst ey
  obtain ⟨z,hd,vs,rel,dd⟩:=uI I.hok e;refine call_meetsIn PySem.F.slot_dict_get dd.typeIs PySem.F.entry_dict_get (PySem.F.args_dict_get_2 _ _) (meets_dict_get (bD X.prog X.w) a (qW ry) hd) ⟨_,dd.mapOf,h _ _ (I.tok _) ?_⟩;rw [l];exact (rel.val k).getD rfl
 ·subst ey
  cases (show u=Value.ref b from ry);obtain ⟨z,hd,xs,rel,dd⟩:=uG I.hok e;refine call_meetsIn PySem.F.slot_dict_get dd.typeIs PySem.F.entry_dict_get (PySem.F.args_dict_get_2 _ _) (meetsH_dict_get (tupleKind (bD X.prog X.w)) a b hd) ⟨tupleKind_room_in1 hu,k,xs,lD I.hok eb,dd,h _ _ (I.tok _) ?_⟩;rw [l];exact (rel.val k).getD rfl
theorem Ul {Q:Value->Shared->Prop} (hu:A.units+1<cLine) (I:Inv X pins σ H s) (g:h_ H a y o) (ry:RelV y u) (rd:RelV d r) (h:∀w' s',Inv X pins σ H s'->RelV (o.getD d) w'->Q w' s'):
 wpAny (model X.prog X.w) A (call (.builtin "dict.get") [.ref a,u,r]) Q E s:=by
 rcases g with ⟨kvs,k,e,ey,l⟩|⟨kvs,k,b,e,ey,eb,l⟩
 ·subst ey
  obtain ⟨z,hd,vs,rel,dd⟩:=uI I.hok e;refine call_meetsIn PySem.F.slot_dict_get dd.typeIs PySem.F.entry_dict_get (PySem.F.args_dict_get_3 _ _ _) (meets_dict_get_default (bD X.prog X.w) a (qW ry) hd r) ⟨_,dd.mapOf,h _ _ (I.tok _) ?_⟩;rw [l];exact (rel.val k).getD rd
 ·subst ey
  cases (show u=Value.ref b from ry);obtain ⟨z,hd,xs,rel,dd⟩:=uG I.hok e;refine call_meetsIn PySem.F.slot_dict_get dd.typeIs PySem.F.entry_dict_get (PySem.F.args_dict_get_3 _ _ _) (meetsH_dict_get_default (tupleKind (bD X.prog X.w)) a b hd r) ⟨tupleKind_room_in1 hu,k,xs,lD I.hok eb,dd,h _ _ (I.tok _) ?_⟩;rw [l];exact (rel.val k).getD rd
end
def RP (td ty:TE):TE:=fun σ H Q=>td σ H fun x H1=>∃a,x = .ref a/\IsD H1 a/\ty σ H1 fun y H2=>∃o,h_ H2 a y o/\Q (o.getD .non) H2
def RN (td ty tx:TE):TE:=fun σ H Q=>td σ H fun x H1=>∃a,x = .ref a/\IsD H1 a/\ty σ H1 fun y H2=>tx σ H2 fun z H3=>∃o,h_ H3 a y o/\Q (o.getD z) H3
section
variable {X:Cx} {o e f:Expr} {apos cpos:Pos} {td ty tx:TE}
theorem zT (hu:X.A.units+1<cLine) (ho:PE X o td) (he:PE X e ty) (m:M1 X o "get" apos e cpos):PE X (.Call (.Attribute o "get" apos) [e] [] cpos) (RP td ty):=by
 intro pins s σ H Q I h;refine wpAny_Call_method m.base m.few m.line PySem.F.plainAttrs_dict PySem.F.slot_dict_get PySem.F.type_dict_get (cF (ho pins s σ H _ I h) fun u s1 ⟨x,H1,I1,rx,a,ex,d,q1⟩=> ?_);subst ex;obtain rfl:u=Value.ref a:=rx;obtain ⟨t1,t2,_⟩:=Dk I1 d;refine ⟨t1,t2, ?_⟩;rw [m.trees];refine Calls.callWith_builtin rfl (Calls.evalArgs_plain (Calls.spliced_cons (cF (he pins s1 σ H1 _ I1 q1) fun iv s2 ⟨y,H2,I2,ry,ov,g,q2⟩=>Calls.spliced_nil ?_)));exact Um hu I2 g ry fun w' s3 I3 rw'=>⟨_,H2,I3,rw',q2⟩
theorem mF (hu:X.A.units+1<cLine) (ho:PE X o td) (he:PE X e ty) (hf:PE X f tx) (m:M2 X o "get" apos e f cpos):PE X (.Call (.Attribute o "get" apos) [e,f] [] cpos) (RN td ty tx):=by
 intro pins s σ H Q I h;refine wpAny_Call_method m.base m.few m.line PySem.F.plainAttrs_dict PySem.F.slot_dict_get PySem.F.type_dict_get (cF (ho pins s σ H _ I h) fun u s1 ⟨x,H1,I1,rx,a,ex,d,q1⟩=> ?_);subst ex;obtain rfl:u=Value.ref a:=rx;obtain ⟨t1,t2,_⟩:=Dk I1 d;refine ⟨t1,t2, ?_⟩;rw [m.trees]
 refine Calls.callWith_builtin rfl (Calls.evalArgs_plain (Calls.spliced_cons (cF (he pins s1 σ H1 _ I1 q1) fun iv s2 ⟨y,H2,I2,ry,q2⟩=>
  Calls.spliced_cons (cF (hf pins s2 σ H2 _ I2 q2) fun fv s3 ⟨z,H3,I3,rz,ov,g,q3⟩=>Calls.spliced_nil ?_))))
 exact Ul hu I3 g ry rz fun w' s4 I4 rw'=>⟨_,H3,I4,rw',q3⟩
end
section
variable {X:Cx} {pins:List (Addr×Obj)} {σ:St} {H:Hp} {s:Shared} {a:Addr} {kvs:List (Key×V)} {A:Around} {E:Value->Shared->Prop}
end
section
variable {X:Cx} {pins:List (Addr×Obj)} {σ:St} {H:Hp} {s:Shared} {a:Addr} {y:V} {u:Value} {A:Around} {E:Value->Shared->Prop}
end
end L2
namespace Att
open PySem PySem.W PySem.Calls PyProof.Rows
theorem rG {P:Params} {h:Heap}:∀(ns:List Int) (vs:List Value),WellAll P h vs (ns.map WData.int)->IntsAre vs ns:=by
 intro ns
 induction ns with
 | nil=>
   intro vs w;rw [List.map_nil] at w;cases w;exact .nil
 | cons n ns ih=>
   intro vs w;rw [List.map_cons] at w;cases w with
   | cons a b=>
     cases a;exact .cons _ _ (ih _ b)
theorem GJ {l:OpenLaw} {n:Nat} (hn:l.most=some n) {P:Params} {h:Heap} {args:List WData} {vals:List Value}
 (hpre:l.row.toRowW.claim.pre args=true) (hwl:WellAll P h vals args):
 ∃a vs ns,vals=[Value.ref a]/\args=[WData.list (ns.map WData.int)]/\h.get? a=some {cls:= .type "list",data:= .seq vs.toArray}/\IntsAre vs ns/\ns.length<=n:=by
 have hsh:WShape.hasAll [] args [.list .int]=true:=(pre_splitW hpre).1;have hc:l.pre.holds [] {args:=args}=true:=(pre_splitW hpre).2;obtain ⟨d,r,rfl,h1,h2⟩:=hasAllW_cons hsh;obtain rfl:=hasAllW_nil h2;obtain ⟨xs,rfl,h3⟩:=hasW_list h1;obtain ⟨ns,rfl⟩:=items_int h3
 have hlen:ns.length<=n:=by
  unfold OpenLaw.pre at hc
  have h4:(WTm.not (.lt (.lit (.int (n:Int))) (.len (.arg 0)))).holds [] {args:=[.list (ns.map .int)]}=true:=by
   have h4:=(holds_andW hc).1;rw [hn] at h4;exact h4
  have h5:=condW_of h4 (w_not (w_lt w_lit (w_len_list (w_arg rfl))));rw [List.length_map] at h5;refine Nat.le_of_not_lt fun q=> ?_;have q':(n:Int)<((ns.length:Nat):Int):=by omega
  first
   | (rw [decide_eq_true q'] at h5;exact absurd h5 (by decide))
   | (simp at h5;omega)
 cases hwl with
 | cons w1 w2=>
   cases w2;cases w1 with
   | list ho hall=>exact ⟨_,_,ns,rfl,rfl,ho,rG ns _ hall,hlen⟩
theorem G9 (l:OpenLaw) (args:List WData):l.row.toRowW.claim.post args (.bool true) args=true:=
 postW_of (r:=l.row.toRowW) (X:=(true==true))
  (show WShape.has [] (.bool true) .bool=true by first |rfl|decide|simp [WShape.has,WShape.arms,WShape.armsAll])
  (show (WTm.eq .res (.lit (.bool true))).value [] {args:=args,res:=some (.bool true),after:=args}=some (.bool (true==true)) from w_eq_bool (w_res rfl) w_lit) rfl
theorem Bo {l:OpenLaw} {n:Nat} {q:Program} {loose:List Str} {XP:(Str->Option Value)->Heap->Prop} {YP:World->Heap->Prop} {d:DefRec}
 (hn:l.most=some n) (hdf:d.params.defaults=[])
 (call:∀(w:World) (s₀ s₁:Shared) (mg mb:Str->Option Value) (fa:Addr) (o:Obj) (pm cd doc:Value) (a:Addr) (vs:List Value) (ns:List Int),
   Ground q loose [] XP w s₀ mg mb s₁.heap->YP w s₁.heap ->
   s₁.heap.get? fa=some o->o.data = .func (docDef d.name d.params d.body d.scope pm cd doc)->s₁.heap.CodeRec cd d.name->mg d.name=some (.ref fa) ->
   s₁.heap.get? a=some {cls:= .type "list",data:= .seq vs.toArray}->IntsAre vs ns->ns.length<=n->s₁.gens = #[] ->
   codeAny (model l.prog w) callerA (.call (.ref fa) ⟨[.ref a],[]⟩) (fun r s'=>r = .ok (.ret (.bool true))/\OldK s₁.heap s'.heap/\s'.os=s₁.os/\AllBare s'.gens) s₁):
 WalkO q loose XP YP l.row.toRowW d [] (fun f vs=>PySem.call f vs):=by
 intro w s₀ s₁ mg mb G Y fa o pm cd doc dV kV ho hd hcd hD hmg hg args vals as hpre hlay hrd hwl hlo;obtain rfl:dV = .none:=Dflts.none hD hdf;obtain rfl:kV = .none:=Dflts.noKw hD;obtain ⟨a,vs,ns,rfl,rfl,hobj,hints,hlen⟩:=GJ hn hpre hwl;refine enter_call (codeAny_mono (call w s₀ s₁ mg mb fa o pm cd doc a vs ns G Y ho (fd_plain hd) hcd hmg hobj hints hlen hg) fun r s' hq=> ?_);obtain ⟨rfl,h2,h3,h4⟩:=hq;exact ⟨.inl ⟨.bool true,.bool true,[],rfl,fun _=>rfl,.bool true,G9 l _,fun _=>⟨List.Pairwise.nil,fun _ hm=>(nomatch hm)⟩⟩,h2,h3,h4⟩
section
variable {prog:Program} {w:World} {A:Around} {E:Value->Shared->Prop} {s:Shared} {K:Frag}
def ledger (h:Heap) (L d:Addr):List (Addr×Obj):=(List.range h.objs.size).filterMap fun a=>if a=L\/a=d then none else (h.get? a).map fun o=>(a,o)
end
end Att
namespace L2
open PySem PySem.Spec PyProof.Rows
theorem wg {vs:List Value} {ns:List Int} (h:IntsAre vs ns):Vals (ns.map V.int) vs:=by
 induction h with
 | nil=>exact .nil
 | cons n t h ih=>exact .cons ⟨t,rfl⟩ ih
def Only (H:Hp):Prop:=∀b,H b=none \/ ∃o xs,H b=some (.iV o (.lst xs))
theorem K9 {P:Program} {w:World} {K:PySem.W.Frag} {mg mb:Str->Option Value} {CX:Nb} {k:Nat} {fa a:Addr} {fd:FuncData} {x:Str} {sp:Sp} {s₁:Shared} {vs:List Value} {ns:List Int}
 (KX:K.In s₁.heap) (hns:s₁.heap.Ns mainGlobals mg) (hb:s₁.heap.Ns builtinsNs mb) (hbb:∀x:Str,x ≠ "__name__" -> mb x=bootBuiltins x) (hlim:s₁.heap.NoLimit) (hg:s₁.gens = #[])
 (ha:s₁.heap.get? a=some {cls:= .type "list",data:= .seq vs.toArray}) (hi:IntsAre vs ns) (hl:ns.length<=sizeLine) (hr:jV k callerA)
 (F:∀base:Heap,K.In base->base.Ns mainGlobals mg->cH P w K mg base CX k fa fd [x] sp) (hbind:∀(s:Shared) (u:Value),BindsTo s fd ⟨[u],[]⟩ [(x,u)])
 (hsp:∀H:Hp,Only H->aZ K H a (ns.map V.int)->sp [.ref a] H (fun v _=>v = .bl true) fun _ _ _=>False)
 (hCX:∀H e s',CX [] H s₁ (fun _ _ _=>False) e s'->False):
 codeAny (model P w) callerA (.call (.ref fa) ⟨[.ref a],[]⟩) (fun r s'=>r = .ok (.ret (.bool true))/\OldK s₁.heap s'.heap/\s'.os=s₁.os/\AllBare s'.gens) s₁:=by
 have rv:=wg hi;have lenV:=hi.length
 have core:∀H:Hp,Only H->aZ K H a (ns.map V.int)->nP P w H s₁.heap->(∀b,H b≠none->b=a)->(H a≠none->K.lookup a=none) ->
  codeAny (model P w) callerA (.call (.ref fa) ⟨[.ref a],[]⟩) (fun r s'=>r = .ok (.ret (.bool true))/\OldK s₁.heap s'.heap/\s'.os=s₁.os/\AllBare s'.gens) s₁:=by
  intro H hO hS hok hA hK;have Gg:∀{b:Addr} {o:Obj},s₁.heap.get? b=some o->H b=none->(yJ s₁.heap H).get? b=some o:=fun e n=>Lr e n
  have V7:∀{b:Addr} {o:Obj} {es:Array DictEntry} {ep:Nat},s₁.heap.get? b=some o->o.data = .dict es ep->H b=none:=fun {b o es ep} e d=>by
   cases q:H b with
   | none=>rfl
   | some u=>
     have e':b=a:=hA b (by rw [q];simp);subst e';rw [ha] at e;cases e;have d':Data.seq vs.toArray _=Data.dict es ep:=d;cases d'
  have Yv:∀{b:Addr} {m:Str->Option Value},s₁.heap.Ns b m->(yJ s₁.heap H).Ns b m:=fun {b m} ⟨o,es,ep,e,d,r⟩=>⟨o,es,ep,Gg e (V7 e d),d,r⟩
  have hKb:K.In (yJ s₁.heap H):=fun b o e=>Gg (KX b o e) (by
   cases q:H b with
   | none=>rfl
   | some u=>
     have e':b=a:=hA b (by rw [q];simp);subst e';rw [hK (by rw [q];simp)] at e;cases e)
  have hM:Mod K mg (yJ s₁.heap H):=⟨hKb,Yv hns,⟨mb,Yv hb,hbb⟩,let ⟨mc,h1,h2⟩:=hlim;⟨mc,Yv h1,h2⟩⟩;have e0:QG P w K mg (yJ s₁.heap H) callerA [] s₁ H:=⟨rfl,hM,fun b o e=>O5 e,Nat.le_of_eq (HY _ _),trivial,fun b hb=>absurd (show b∈([]:List Addr) from hb) (by simp),hok,.of_eq hg⟩;refine codeAny_mono ((F _ hKb (Yv hns)).run callerA [] s₁ H ⟨[.ref a],[]⟩ [.ref a] [.ref a] _ _ hr e0 (hbind s₁ (.ref a)) (.cons rfl .nil) (hsp H hO hS)) fun r s' h=> ?_;cases r with
  | error e=>exact (hCX H e s' h).elim
  | ok fl=>
    cases fl with
    | next=>exact False.elim h
    | brk=>exact False.elim h
    | cont=>exact False.elim h
    | ret u=>
      obtain ⟨v,H',os,bare,un,hok',r',q⟩:=h;have q':v = .bl true:=q;subst q';obtain rfl:u=Value.bool true:=r';refine ⟨rfl,OldK.of_keep fun b o e=> ?_,os,bare⟩;cases q:H b with
      | none=>exact un.keep b o e q (by intro z;exact absurd (show b∈([]:List Addr) from z) (by simp)) (by simp)
      | some u=>
        rcases hO b with z|⟨ob,xs,z⟩
        ·rw [q] at z;cases z
        ·have z2:=un.qF b ob _ z
         obtain ⟨e1,_⟩:=hok b _ z;obtain ⟨e2,_⟩:=hok' b _ z2;rw [e] at e1;cases e1;exact e2
 cases hk:K.lookup a with
 | some o=>
   have e:=KX a o hk;rw [ha] at e;cases e;refine core (fun _=>none) (fun _=> .inl rfl) (.inr ⟨_,vs.toArray,_,hk,rfl,rfl,rfl,by rw [List.size_toArray,lenV];exact hl,by simpa using rv⟩) (fun b u z=>by have z':(none:Option HO)=some u:=z;cases z') (fun b z=>absurd rfl z) fun z=>absurd rfl z
 | none=>
   refine core (fun b=>if b=a then some (.iV {cls:= .type "list",data:= .seq vs.toArray} (.lst (ns.map V.int))) else none) (fun b=> ?_) (.inl (.inr ⟨{cls:= .type "list",data:= .seq vs.toArray},if_pos rfl⟩)) (fun b u z=> ?_) (fun b z=> ?_) fun _=>hk
   ·by_cases hb:b=a
    ·exact .inr ⟨_,_,if_pos hb⟩
    ·exact .inl (if_neg hb)
   ·by_cases hb:b=a
    ·have z':=(if_pos hb).symm.trans z
     cases z';subst hb;exact ⟨ha,by rw [List.length_map];exact hl,vs,_,rv,ha⟩
    ·have z':=(if_neg hb).symm.trans z
     cases z'
   ·by_cases hb:b=a
    ·exact hb
    ·exact absurd (if_neg hb) z
end L2
namespace L2
open PySem PySem.Spec PyProof.Rows
abbrev KOf {K:PySem.W.Frag} {h:Heap} (_:K.In h):PySem.W.Frag:=K
theorem Np {l:PySem.W.OpenLaw} {n k:Nat} {q:Program} {loose:List Str} {XP:(Str->Option Value)->Heap->Prop} {YP:World->Heap->Prop} {d:DefRec} {K:Params->PySem.W.Frag} {CX:World->Nb} {sp:World->Sp} {x:Str}
 (hn:l.most=some n) (hn2:n<=sizeLine) (hdf:d.params.defaults=[]) (hr:jV k callerA)
 (hY:∀(w:World) (h:Heap),YP w h->(K w.params).In h)
 (F:∀(w:World) (mg:Str->Option Value) (fa:Addr) (h:Heap),(K w.params).In h->h.Ns mainGlobals mg->mg d.name=some (.ref fa) ->
   ∃fd:FuncData,(∀(s:Shared) (u:Value),BindsTo s fd ⟨[u],[]⟩ [(x,u)]) /\
    ∀base:Heap,(K w.params).In base->base.Ns mainGlobals mg->cH l.prog w (K w.params) mg base (CX w) k fa fd [x] (sp w))
 (hsp:∀(w:World) (H:Hp) (a:Addr) (ns:List Int),ns.length<=n->Only H->aZ (K w.params) H a (ns.map V.int)->sp w [.ref a] H (fun v _=>v = .bl true) fun _ _ _=>False)
 (hCX:∀(w:World) (H:Hp) (s:Shared) (e:Value) (s':Shared),CX w [] H s (fun _ _ _=>False) e s'->False):
 PySem.W.WalkO q loose XP YP l.row.toRowW d [] (fun f vs=>PySem.call f vs):=by
 refine Att.Bo hn hdf fun w s₀ s₁ mg mb fa o pm cd doc a vs ns G Y ho hd hcd hmg hobj hints hlen hg=> ?_;have KX:=hY w _ Y;obtain ⟨fd,hb,hF⟩:=F w mg fa _ KX G.T.g hmg;exact K9 KX G.T.g G.T.b G.T.builtins G.T.nolimit hg hobj hints (Nat.le_trans hlen hn2) hr hF hb (fun H hO hS=>hsp w H a ns hlen hO hS) fun H e s'=>hCX w H s₁ e s'
end L2
namespace L2
open PySem PySem.Spec PyProof.Rows
def inClass (s:Stmt) (j:Nat):Stmt:=match s with
 | .ClassDef _ _ _ body _ _ _ _ _ _ _=>body.getD j (.Pass ⟨0,0,0,0⟩)
 | _=> .Pass ⟨0,0,0,0⟩
def aJ (s:Stmt):Arguments:=match s with
 | .FunctionDef _ a _ _ _ _ _ _ _ _=>a
 | _=>{posonlyargs:=[],args:=[],vararg:=none,kwonlyargs:=[],kw_defaults:=[],kwarg:=none,defaults:=[]}
def aH (s:Stmt):List Stmt:=match s with
 | .FunctionDef _ _ b _ _ _ _ _ _ _=>b
 | _=>[]
def ak (s:Stmt):Scope:=match s with
 | .FunctionDef _ _ _ _ _ _ sc _ _ _=>sc
 | _=>{kind:= .function,names:=[],isGenerator:=false,isCoroutine:=false}
abbrev iZ:Nb:=fun _ _ _ _ _ _=>False
abbrev E0:XK:=fun _ _ _=>False
theorem VP {X:Cx}:Passes iZ X E0:=fun _ _ _ _ _ _ _ h=>h.elim
structure jq (K:PySem.W.Frag) (x qual:Str) (st:Stmt) (f:Addr) (fd:FuncData):Prop where
 ex:∃(oc:Value) (od:Option Addr) (kV doc pm:Value) (an:Option Addr) (cdv ct:Value) (osl:Array (Option Value)),
  fd=PySem.W.fnOf x qual (aJ st) (aH st) (ak st) .none kV doc pm an cdv ct/\K.lookup f=some ⟨oc,od,.func fd,osl⟩/\PySem.W.codeIn K cdv qual=true
 kp:PySem.W.keepIn K (.ref f)=true
section
variable {P:Program} {w:World} {K:PySem.W.Frag} {mg:Str->Option Value} {base:Heap}
theorem jq.ok {x qual:Str} {st:Stmt} {f:Addr} {fd:FuncData} {N ps:List Str} {k:Nat} {sp:Sp} (F:jq K x qual st f fd) (S:aX N ps (ak st)) (len:∀vs H Q E,sp vs H Q E->vs.length=ps.length)
 (hbody:∀(cdv:Value) (A:Around) (outer:List Env) (s:Shared) (H:Hp) (vs:List V) (Q:VK) (E:XK),jV k (A.deeper (envOfC qual (ak st) s.heap.objs.size f cdv))->sp vs H Q E ->
   ∃t,IW (Il iZ P w K mg base N qual (ak st) f cdv A outer s H E).Yx (aH st) t/\t {nx:=fun _ H'=>Q .non H',rt:=Q} (start N vs) H):cH P w K mg base iZ (k+1) f fd ps sp:=by
 obtain ⟨oc,od,kV,doc,pm,an,cdv,ct,osl,rfl,lk,hcd⟩:=F.ex;refine WT lk hcd S len fun A outer s H vs Q E hr hsp=> ?_;obtain ⟨t,h,q⟩:=hbody cdv A outer s H vs Q E hr hsp;exact ⟨t,h.Yx,q⟩
theorem jq.binds {x qual:Str} {st:Stmt} {f:Addr} {fd:FuncData} {ps:List Str} (F:jq K x qual st f fd)
 (h:∀(kV doc pm:Value) (an:Option Addr) (cdv ct:Value) (us:List Value),us.length=ps.length->bindArgs (PySem.W.fnOf x qual (aJ st) (aH st) (ak st) .none kV doc pm an cdv ct) ⟨us,[]⟩=pure (ps.zip us)):Binds K fd ps []:=by
 obtain ⟨oc,od,kV,doc,pm,an,cdv,ct,osl,rfl,lk,hcd⟩:=F.ex;exact .all (h kV doc pm an cdv ct)
theorem bC {x qual:Str} {st:Stmt} {f:Addr} {oc:Value} {od an:Option Addr} {osl:Array (Option Value)} {kV doc pm cdv ct:Value} (l:K.lookup f=some ⟨oc,od,.func (PySem.W.fnOf x qual (aJ st) (aH st) (ak st) .none kV doc pm an cdv ct),osl⟩)
 (c:PySem.W.codeIn K cdv qual=true) (k:PySem.W.keepIn K (.ref f)=true):jq K x qual st f (PySem.W.fnOf x qual (aJ st) (aH st) (ak st) .none kV doc pm an cdv ct):=⟨⟨oc,od,kV,doc,pm,an,cdv,ct,osl,rfl,l,c⟩,k⟩
end
theorem lM {A:Around} {k:Nat} (hr:jV k A):A.units+1<cLine:=Nat.lt_of_le_of_lt (Nat.add_le_add_left (by decide:1<=64) _) hr.units
theorem GF {n:Nat} (h:n<=1000):n<sizeLine:=Nat.lt_of_le_of_lt h (by decide)
section
variable {X:Cx}
theorem pv (i:Nat) {x:Str} {pos:Pos} (hN:X.N[i]? = some x:=by rfl) (hv:Vis X.env.scope x:=by first |exact Or.inl rfl|exact Or.inr (Or.inl rfl)|exact Or.inr (Or.inr rfl)) (hd:(x==("__debug__" :Str))=false:=by decide)
 (hcd:(x==("__classdict__" :Str))=false:=by decide):PE X (.Name x pos) (zF i):=Tc hN hv hd hcd
end
theorem b_ {A B:Prop} (h:B):if false=true then A else B:=by
 rw [if_neg Bool.false_ne_true];exact h
theorem fX {A B:Prop} (h:A):if true=true then A else B:=by
 rw [if_pos rfl];exact h
theorem iM {c A B:Prop} [Decidable c] (h1:c->A) (h2:¬c->B):if c then A else B:=by
 by_cases h:c
 ·rw [if_pos h]
  exact h1 h
 ·rw [if_neg h]
  exact h2 h
theorem FJ {c A B:Prop} [Decidable c] (hc:c) (h:B):if (!decide c)=true then A else B:=by
 rw [decide_eq_true hc];exact b_ h
def Same (H H':Hp):Prop:=∀b o,H b=some o->H' b=some o
theorem Same.refl (H:Hp):Same H H:=fun _ _ h=>h
theorem Same.trans {H H1 H2:Hp} (a:Same H H1) (b:Same H1 H2):Same H H2:=fun c o h=>b c o (a c o h)
theorem Same.free {H H':Hp} (e:Same H H') {l:Addr} (h:H' l=Option.none):H l=Option.none:=by
 cases q:H l with
 | none=>rfl
 | some o=>
   rw [e l o q] at h;cases h
theorem Same.seq {K:PySem.W.Frag} {H H':Hp} {a:Addr} {xs:List V} (e:Same H H') (h:aZ K H a xs):aZ K H' a xs:=by
 rcases h with (h|⟨o,h⟩)|h
 ·exact .inl (.inl (e _ _ h))
 ·exact .inl (.inr ⟨o,e _ _ h⟩)
 ·exact .inr h
section
variable {κ:Type} [DecidableEq κ]
end
end L2
set_option Elab.async false
set_option linter.all false
set_option maxRecDepth 100000
set_option maxHeartbeats 4000000
namespace L2
open PySem PySem.Spec PyProof.Rows
theorem wD {a n:Addr} (h:a<n): @LT.lt Nat _ a n:=h
def mR (env:Env):List (Str×NameKind)->List (Str×Addr)->List (Str×Addr)
 | [],acc=>acc
 | (n,k)::r,acc=>if k == .free then mR env r ((n,(env.cells.lookup n).getD 0)::acc) else mR env r acc
theorem Dw {env:Env} {scope:Scope} (h:∀y∈scope.names,y.2 = .free->(env.cells.lookup y.1).isSome=true):closureFor scope env=pure (mR env scope.names []):=by
 have go:∀(ns:List (Str×NameKind)) (acc:List (Str×Addr)),(∀y∈ns,y.2 = .free->(env.cells.lookup y.1).isSome=true) ->
  (forIn ns acc (fun x cs=>match x with |(name,kind)=>if (kind == .free)=true then do let c ←cellOf env name;pure (ForInStep.yield ((name,c)::cs)) else pure (ForInStep.yield cs)):Sem (List (Str×Addr)))=pure (mR env ns acc):=by
  intro ns
  induction ns with
  | nil=>intro acc _;rfl
  | cons y r ih=>
    intro acc hy;obtain ⟨n,k⟩:=y;rw [List.forIn_cons]
    by_cases hk:k = .free
    ·subst hk
     have hs:=hy (n,.free) List.mem_cons_self rfl;obtain ⟨c,hc⟩:=Option.isSome_iff_exists.mp hs;have e:cellOf env n=pure c:=by unfold cellOf;rw [hc]
     show _=pure (mR env r ((n,(env.cells.lookup n).getD 0)::acc));rw [←ih _ fun y hm=>hy y (List.mem_cons_of_mem _ hm)];simp only [beq_self_eq_true,if_true,e,pure_bind,hc,Option.getD_some]
    ·have hb:(k==NameKind.free)=false:=by simpa using hk
     have hc:mR env ((n,k)::r) acc=mR env r acc:=by
      show (if (k==NameKind.free)=true then _ else _)=_;rw [if_neg (by rw [hb];decide)]
     rw [hc,←ih _ fun y hm=>hy y (List.mem_cons_of_mem _ hm)];simp only [hb,Bool.false_eq_true,if_false,pure_bind]
 have q:=go scope.names [] h;unfold closureFor;show (forIn scope.names [] _ >>= fun r=>pure r)=_;rw [bind_pure];exact q
theorem iR {env:Env}:∀(ns:List (Str×NameKind)) (acc:List (Str×Addr)) (x:Str),(∀y∈ns,y.2 = .free->(env.cells.lookup y.1).isSome=true) ->
 (mR env ns acc).lookup x=if (x,NameKind.free)∈ns then env.cells.lookup x else acc.lookup x
 | [],acc,x,_=>by simp [mR]
 | (n,k)::r,acc,x,h=>by
   have hr:∀y∈r,y.2 = .free->(env.cells.lookup y.1).isSome=true:=fun y hm=>h y (List.mem_cons_of_mem _ hm)
   by_cases hk:k = .free
   ·subst hk
    show (mR env r ((n,(env.cells.lookup n).getD 0)::acc)).lookup x=_;rw [iR r _ x hr];obtain ⟨c,hc⟩:=Option.isSome_iff_exists.mp (h (n,.free) List.mem_cons_self rfl);have hc:env.cells.lookup n=some c:=hc
    by_cases hm:(x,NameKind.free)∈r
    ·rw [if_pos hm,if_pos (List.mem_cons_of_mem _ hm)]
    ·rw [if_neg hm]
     by_cases e:x=n
     ·subst e
      rw [if_pos List.mem_cons_self,List.lookup_cons,hc];simp
     ·rw [if_neg (fun z=>(List.mem_cons.mp z).elim (fun q=>e (congrArg Prod.fst q)) hm),List.lookup_cons]
      have:(x==n)=false:=by simpa using e
      rw [this]
   ·have hb:(k==NameKind.free)=false:=by simpa using hk
    have hc:mR env ((n,k)::r) acc=mR env r acc:=by
     show (if (k==NameKind.free)=true then _ else _)=_;rw [if_neg (by rw [hb];decide)]
    rw [hc,iR r acc x hr]
    have:((x,NameKind.free)∈(n,k)::r)↔(x,NameKind.free)∈r:=by
     constructor
     ·intro z
      rcases List.mem_cons.mp z with q|q
      ·exact absurd (congrArg Prod.snd q).symm hk
      ·exact q
     ·exact List.mem_cons_of_mem _
    simp only [this]
theorem jz (env:Env):∀(ns:List (Str×NameKind)) (x:Str),
 (ns.map fun (n,k)=>if (k == .free&&env.scope.kind == .function&&env.kindOf n==some .cell) then (n,NameKind.cell) else (n,k)).lookup x =
   (ns.lookup x).map fun k=>if (k == .free&&env.scope.kind == .function&&env.kindOf x==some .cell)=true then NameKind.cell else k
 | [],x=>rfl
 | (n,k)::r,x=>by
   show List.lookup x ((if (k==NameKind.free&&env.scope.kind == .function&&env.kindOf n==some .cell)=true then (n,NameKind.cell) else (n,k))::_)=_;cases hx:x==n with
   | true=>
     have e:x=n:=by simpa using hx
     subst e
     by_cases hc:(k==NameKind.free&&env.scope.kind == .function&&env.kindOf x==some .cell)=true
     ·rw [if_pos hc];simp only [List.lookup_cons,hx,Option.map_some,if_pos hc]
     ·rw [if_neg hc];simp only [List.lookup_cons,hx,Option.map_some,if_neg hc]
   | false=>
     have ih:=jz env r x
     by_cases hc:(k==NameKind.free&&env.scope.kind == .function&&env.kindOf n==some .cell)=true
     ·rw [if_pos hc];simp only [List.lookup_cons,hx];exact ih
     ·rw [if_neg hc];simp only [List.lookup_cons,hx];exact ih
structure aQ (N own:List Str) (caps:List Nat) (XN:List Str) (outer scope:Scope):Prop where
 kind:scope.kind = .function
 KY:∀y∈scope.names,y.2 ≠ .cell
 names:∀y∈scope.names,y.2 = .local->scope.names.lookup y.1=some .local
 free:∀y∈scope.names,y.2 = .free->outer.names.lookup y.1=some .cell\/outer.names.lookup y.1=some .free
 nd:N.Nodup
 len:N.length=own.length+caps.length
 cap:∀(j:Nat),j<caps.length->N[own.length+j]? = XN[caps.getD j 0]? /\ ∃x,N[own.length+j]? = some x/\(x,NameKind.free)∈scope.names/\scope.names.lookup x=some .free
def st0 (own:List Str) (caps:List Nat) (σ:St):St:=own.map (fun _=>none)++caps.map (fun i=>(σ[i]?).join)
def eU (X:Cx) (scope:Scope) (C:Addr) (N:List Str) (s:Shared) (H:Hp) (fp:List Addr):Cx:=
 {X with N:=N,s₀:=s,H₀:=H,env:=compEnvC scope (mR X.env scope.names []) C X.env,outer:=X.stack,ex:=fp,fn:=fun _=>false,pn:=[],xe:=fun _ _=>False}
section
variable {X:Cx} {pins:List (Addr×Obj)} {σ:St} {H:Hp} {s:Shared} {scope:Scope} {N own:List Str} {caps:List Nat} {fp:List Addr} {C:Nat}
theorem aQ.Mh (S:aQ N own caps X.N X.env.scope scope) (ok:X.Ok):∀y∈scope.names,y.2 = .free->(X.env.cells.lookup y.1).isSome=true:=fun y hy hf=>by
 obtain ⟨c,e⟩:=ok.has y.1 (S.free y hy hf);rw [e];rfl
theorem aQ.csub (S:aQ N own caps X.N X.env.scope scope) (ok:X.Ok) {x:Str} {c:Addr} (h:(mR X.env scope.names []).lookup x=some c):X.env.cells.lookup x=some c:=by
 rw [iR _ _ _ (S.Mh ok)] at h;split at h
 ·exact h
 ·simp at h
theorem aQ.K6 {S:aQ N own caps X.N X.env.scope scope} {x:Str} (h:(relabel scope X.env).names.lookup x=some .cell\/(relabel scope X.env).names.lookup x=some .free):(x,NameKind.free)∈scope.names:=by
 have e:=jz X.env scope.names x;have e':(relabel scope X.env).names.lookup x=(scope.names.lookup x).map fun k=>if (k == .free&&X.env.scope.kind == .function&&X.env.kindOf x==some .cell)=true then NameKind.cell else k:=e;rw [e'] at h;cases q:scope.names.lookup x with
 | none=>rw [q] at h;simp at h
 | some k=>
   have hm:=PySem.mem_of_lookup q
   by_cases hk:k = .free
   ·subst hk;exact hm
   ·rw [q] at h
    have hb:(k==NameKind.free)=false:=by simpa using hk
    simp only [Option.map_some,hb,Bool.false_and,Bool.false_eq_true,if_false] at h;rcases h with h|h
    ·exact absurd (Option.some.inj h) (S.KY _ hm)
    ·exact absurd (Option.some.inj h) hk
theorem Inv.comp {h1:Heap} {D:Nat} (I:Inv X pins σ H s) (S:aQ N own caps X.N X.env.scope scope) (hfp:∀b∈fp,nG X pins H b) (hfo:∀b∈fp,∃o,s.heap.get? b=some o)
 (hD:D=s.heap.objs.size) (hC:C=s.heap.objs.size+1) (old:∀b o,s.heap.get? b=some o->h1.get? b=some o) (hns:h1.Ns C (fun _=>none)) (hl:h1.get? D=some {cls:= .type "list",data:= .seq #[]}) {t:Nat}:
 Inv (eU X scope C N s H fp) [] (st0 own caps σ) (upd H D (.lst [])) {s with heap:=h1,toks:=t}:=by
 have some':=S.Mh I.ok;have sub:∀{x c},(mR X.env scope.names []).lookup x=some c->X.env.cells.lookup x=some c:=fun h=>S.csub I.ok h;have freshD:H D=none:=I.hok.fresh (by rw [hD];exact Nat.le_refl _);have Uh:H C=none:=I.hok.fresh (by rw [hC];exact Nat.le_succ _)
 have Ur:∀x c,X.env.cells.lookup x=some c->c<s.heap.objs.size:=fun x c e=>by
  obtain ⟨v,z⟩:=I.cell x c e;exact z.lt
 have aeO:∀b∈fp,b<s.heap.objs.size:=fun b hb=>by
  obtain ⟨o,e⟩:=hfo b hb;exact Heap.lt_size e
 have DC:D≠C:=by omega
 refine ⟨⟨I.ok.mod,S.kind,I.ok.glob,I.ok.blt,by show s.heap.objs.size<=C;omega,fun x y c e1 e2=>I.ok.inj x y c (sub e1) (sub e2),fun x h=> ?_,fun x c h=>(by cases h),I.ok.hd,I.ok.frames,Or.inl rfl,fun b hb=>⟨?_,fun x c e=> ?_⟩,I.bs,Nat.le_trans I.ok.Rj I.sz,fun b o e hb=> ?_,fun b hb z=> ?_,I.stack,I.En⟩,
  rfl,I.bare,Un.laid old (by show s.heap.objs.size<=D;omega) freshD,⟨_,hns,fun j x v e1 e2 e3=> ?_⟩,fun x c e=> ?_, ?_,fun x c e=> ?_,fun p hp=> ?_,I.hok.laid old (by omega) ?_, ?_⟩
 ·have hm:=aQ.K6 (S:=S) (X:=X) h
  obtain ⟨c,e⟩:=Option.isSome_iff_exists.mp (some' _ hm rfl);exact ⟨c,by show (mR X.env scope.names []).lookup x=_;rw [iR _ _ _ some',if_pos hm];exact e⟩
 ·exact Nat.ne_of_lt (show @LT.lt Nat _ b C by have:=wD (aeO b hb);omega)
 ·exact (hfp b hb).2.2.2.2.1 x c (sub e)
 ·rcases (hfp b hb).2.2.2.1 with z|z
  ·exact I.ok.KR b o e z
  ·exact absurd (Nat.lt_of_lt_of_le (Heap.lt_size e) (Nat.le_trans I.ok.Rj z)) (Nat.lt_irrefl _)
 ·rcases List.mem_cons.mp (I.xK b z) with q|q
  ·exact (hfp b hb).2.1 q
  ·exact (hfp b hb).2.2.1 q
 ·have e1:N[j]? = some x:=e1
  have hj:own.length<=j:=by
   by_cases q:own.length<=j
   ·exact q
   ·exfalso
    unfold st0 at e2;rw [List.getElem?_append_left (by simp;omega),List.getElem?_map] at e2;cases r:own[j]? with
    | none=>rw [r] at e2;cases e2
    | some a=>rw [r] at e2;cases e2
  have hjl:j<N.length:=(List.getElem?_eq_some_iff.mp e1).1;have hjc:j - own.length<caps.length:=by have:=S.len;omega
  obtain ⟨c1,x',c2,c3,c4⟩:=S.cap (j - own.length) hjc;rw [show own.length+(j - own.length)=j by omega] at c1 c2;rw [e1] at c2;cases c2
  have e2':(σ[caps.getD (j - own.length) 0]?).join=some v:=by
   unfold st0 at e2;rw [List.getElem?_append_right (by simp;omega),List.getElem?_map,List.length_map] at e2;rw [List.getD_eq_getElem?_getD];cases r:caps[j - own.length]? with
   | none=>rw [r] at e2;cases e2
   | some a=>rw [r] at e2;exact Option.some.inj e2
  have aeS:σ[caps.getD (j - own.length) 0]? = some (some v):=by
   cases r:σ[caps.getD (j - own.length) 0]? with
   | none=>rw [r] at e2';cases e2'
   | some a=>rw [r] at e2';exact congrArg Option.some e2'
  have kx:X.env.kindOf x=some .cell\/X.env.kindOf x=some .free:=S.free _ c3 rfl;obtain ⟨m,hn,hl'⟩:=I.loc;obtain ⟨u,r,l⟩:=hl' _ x v (by rw [←c1];exact e1) aeS (by rcases kx with z|z;exact .inr (.inl z);exact .inr (.inr z));refine ⟨u,r,.inr ⟨?_, ?_⟩⟩
  ·show (relabel scope X.env).names.lookup x=some .cell\/(relabel scope X.env).names.lookup x=some .free
   have e:(relabel scope X.env).names.lookup x=(scope.names.lookup x).map fun k=>if (k == .free&&X.env.scope.kind == .function&&X.env.kindOf x==some .cell)=true then NameKind.cell else k:=jz X.env scope.names x;rw [e,c4,Option.map_some];split
   ·exact .inl rfl
   ·exact .inr rfl
  ·rcases l with ⟨hk,_⟩|⟨_,c,hc,z⟩
   ·rcases kx with q|q<;>rw [hk] at q<;>cases q
   ·refine ⟨c, ?_, ?_⟩
    ·show (mR X.env scope.names []).lookup x=_
     rw [iR _ _ _ some',if_pos c3];exact hc
    ·obtain ⟨o,ho,hd⟩:=z
     exact ⟨o,old c o ho,hd⟩
 ·obtain ⟨v,o,ho,hd⟩:=I.cell x c (sub e)
  exact ⟨v,o,old c o ho,hd⟩
 ·show upd H D (.lst []) C=none
  rw [bA DC.symm];exact Uh
 ·show upd H D (.lst []) c=none
  rw [bA (Nat.ne_of_lt (by have:=wD (Ur x c (sub e));omega))];exact I.lN x c (sub e)
 ·cases hp
 ·exact ⟨Nat.zero_le _,[],0,.nil,hl⟩
 ·show (own.map (fun _=>none)++caps.map _).length=N.length
  rw [List.length_append,List.length_map,List.length_map,S.len]
theorem Inv.Js {Fi:List (Addr×Obj)} {σ':St} {H':Hp} {s':Shared} {h':Heap} (I:Inv X pins σ H s) (hfp:∀b∈fp,nG X pins H b) (hC:s.heap.objs.size<=C) (J:Inv (eU X scope C N s H fp) Fi σ' H' s') (hs:Heap.SameBut C s'.heap h'):
 Inv X pins σ H' {s' with heap:=h'}:=by
 have nC:∀b o,s.heap.get? b=some o->b≠C:=fun b o e=>Nat.ne_of_lt (by have:=wD (Heap.lt_size e);omega);have u:=J.base;have frC:H' C=none:=J.free;refine I.call' (ch:=fp) (s':={s' with heap:=h'}) J.os ⟨fun b o e n hb hx=> ?_,fun b o e n hb hx=> ?_,u.free,fun b o e hx=> ?_,u.tups,u.qF,u.vB⟩ (fun a o e=>(J.hok a o e).stay (fun b v hb q=> ?_) (fun _ q=>q) fun _ _ q=>q) J.bare fun b hb=> ?_
 ·exact (hs.2 b (nC b o e)).trans (u.keep b o e n hb hx)
 ·obtain ⟨sl,q⟩:=u.slot b o e n hb hx
  exact ⟨sl,(hs.2 b (nC b o e)).trans q⟩
 ·obtain ⟨o',q⟩:=u.there b o e hx
  exact ⟨o',(hs.2 b (nC b o e)).trans q⟩
 ·refine (hs.2 b ?_).trans q
  intro z;subst z;rcases hb with z|z
  ·subst z;rw [frC] at e;cases e
  ·rw [frC] at z;cases z
 ·exact ⟨(hfp b hb).2.2.2.1,(hfp b hb).2.1,(hfp b hb).2.2.2.2.1,(hfp b hb).2.2.2.2.2⟩
end
section
variable {prog:Program} {w:World} {A:Around} {R:Result->Shared->Prop} {s:Shared}
theorem yK {elt target iter:Expr} {ifs:List Expr} {scope:Scope} {pos:Pos} {it acc:Value} {env:Env} (I:Nat->Shared->Prop)
 (turn:∀n s,I n s->wpAny (model prog w) A (pyNext it) (fun r s1=>match r with
   | none=>R (.ok .next) s1
   | some v=>wpAny (model prog w) A (letOwnedTupleGo target it v) (fun _ s1'=>wpAny (model prog w) A (assign target env v) (fun _ s2=>
      wpAny (model prog w) A (forIn ifs true fun c r=>if r=true then do let ok ←isTrue c env (eval c env);pure (ForInStep.yield ok) else pure (ForInStep.yield r)) (fun ok s3=>
       if ok=true then wpAny (model prog w) A (eval elt env) (fun x s4=>
        wpAny (model prog w) A (call (.builtin "list.append") [acc,x]) (fun _ s5=>∃m,m<n/\I m s5) (fun _ _=>False) s4) (fun _ _=>False) s3
       else ∃m,m<n/\I m s3) (fun _ _=>False) s2) (fun _ _=>False) s1') (fun _ _=>False) s1) (fun _ _=>False) s)
 (n:Nat) (h:I n s):
 codeAny (model prog w) A (.compLoop (.ListComp elt [⟨target,iter,ifs,0⟩] scope pos) 0 it acc env) R s:=by
 refine codeAny_loop rfl I (fun n s hI=> ?_) n h;show wpAny _ A ((compTurn (.ListComp elt [⟨target,iter,ifs,0⟩] scope pos) 0 it acc env).onRaise (fun x=>do noteFrame x env;theTreesLotGoes x)) _ _ s;refine wpAny_noted ?_;rw [compTurn_list];refine wpAny_bind (wpAny_standAt (wpAny_bind (wpAny_mono (turn n s hI) (fun r s1 h1=> ?_) fun _ _ h'=>h'.elim)));cases r with
 | none=>exact wpAny_pure h1
 | some v=>
   refine wpAny_bind (wpAny_mono h1 (fun _ s1' h1'=> ?_) fun _ _ h'=>h'.elim);refine wpAny_bind (wpAny_mono h1' (fun _ s2 h2=>wpAny_bind (wpAny_mono h2 (fun ok s3 h3=> ?_) fun _ _ h'=>h'.elim)) fun _ _ h'=>h'.elim);cases ok with
   | false=>exact wpAny_pure ⟨rfl,h3⟩
   | true=>
     exact wpAny_bind (wpAny_bind (wpAny_mono h3 (fun x s4 h4=>wpAny_bind (wpAny_mono h4 (fun _ s5 h5=>wpAny_pure (wpAny_pure ⟨rfl,h5⟩)) fun _ _ h'=>h'.elim)) fun _ _ h'=>h'.elim))
end
def X4 (X:Cx) (ifs:List Expr) (t:TT):Prop:=
 ∀(pins:List (Addr×Obj)) (s:Shared) (σ:St) (H:Hp) (Q:Bool->Hp->Prop),Inv X pins σ H s->t σ H Q ->
  wpAny (model X.prog X.w) X.A (forIn ifs true fun c r=>if r=true then do let ok ←isTrue c X.env (eval c X.env);pure (ForInStep.yield ok) else pure (ForInStep.yield r)) (TP X pins σ Q) X.xe s
def aat:TT:=fun _ H Q=>Q true H
theorem cZ {X:Cx}:X4 X [] aat:=fun _ _ _ H _ I h=>wpAny_tests_nil ⟨H,I,h⟩
theorem oY {X:Cx} {c:Expr} {t:TT} (h:PT X c t):X4 X [c] t:=fun pins s σ H Q I q=>wpAny_tests_one (h pins s σ H Q I q)
def nQ (J:It) (g:TG) (tc:TT) (te:TE) (Q:VK) (D:Addr) (σ0:St) (H1:Hp):Prop:=
 ∃W:Nat->Nat->St->Hp->Prop,(∃m,W 0 m σ0 (upd H1 D (.lst []))) /\ ∀i m σ H,W i m σ H ->
  (J.stop i H/\Q (.ref D) H)\/(J.go i H /\ ∃N:St->Hp->Prop,(∀σ' H',N σ' H' -> ∃m',m'<m/\W (i+1) m' σ' H') /\ ∀x H',J.Nk i H x H'->g x σ H' fun σ2 H2=>tc σ2 H2 fun b H3=>
    if b=true then te σ2 H3 fun y H4=>∃acc,H4 D=some (.lst acc)/\acc.length<sizeLine/\N σ2 (upd H4 D (.lst (acc++[y]))) else N σ2 H3)
def JB (own:List Str) (caps:List Nat) (wi:TI) (g:TG) (tc:TT) (te:TE):TE:=fun σ H Q=>wi σ H fun J H1=>∀D,H1 D=none->nQ J g tc te Q D (st0 own caps σ) H1
section
variable {X:Cx} {elt tg iter:Expr} {ifs:List Expr} {scope:Scope} {pos:Pos} {N own:List Str} {caps:List Nat} {wi:TI} {g:TG} {tc:TT} {te:TE}
theorem Bb {use:Option (Value->Sem Unit)} {Qv:Value->Shared->Prop} {pins:List (Addr×Obj)} {σ:St} {H:Hp} {s:Shared} {Q:VK} (hc:X.calm=true) (S:aQ N own caps X.N X.env.scope scope)
 (hg:∀C s H fp,PG (eU X scope C N s H fp) tg g) (hcs:∀C s H fp,X4 (eU X scope C N s H fp) ifs tc) (he:∀C s H fp,PE (eU X scope C N s H fp) elt te)
 (hi:PI X tg iter wi) (hs:∀x,foldedSetIterable iter X.env x=pure x)
 (I:Inv X pins σ H s) (h:JB own caps wi g tc te σ H Q)
 (fin:∀(D C:Addr) (H':Hp) (s':Shared),(∃m,s'.heap.Ns C m)->Inv X pins σ H' s'->(∀h',Heap.SameBut C s'.heap h'->Inv X pins σ H' {s' with heap:=h'})->nG X pins H' C->Q (.ref D) H' ->
   compPost (model X.prog X.w) X.A X.xe use Qv (.ref D) C (.ok .next) s'):
 wpAny (model X.prog X.w) X.A (comprehension (.ListComp elt [⟨tg,iter,ifs,0⟩] scope pos) scope X.env (firstIterPos [⟨tg,iter,ifs,0⟩] pos) (newList []) false (eval iter X.env) use) Qv X.xe s:=by
 refine wpAny_comprehension_free (use:=use) rfl hs (Dw (S.Mh I.ok)) S.kind S.names (cF (hi pins s σ H _ I h) fun xv s1 h1=>cF h1 fun itv s2 h2=> ?_);obtain ⟨it,fp,tn,J,H2,e,I2,T,st2,f2,q2⟩:=h2;subst e;refine wpAny_newList ?_;refine wpAny_newFunctionEnv S.KY (by intro y hy;simp at hy) (fun h1 Wx hsb1=> ?_) S.kind;dsimp only at Wx hsb1 ⊢;have hD:H2 s2.heap.objs.size=none:=I2.hok.fresh (Nat.le_refl _);have hsz:(s2.heap.push {cls:= .type "list",data:= .seq ([]:List Value).toArray}).objs.size=s2.heap.objs.size+1:=Heap.size_push ..
 have old:∀b o,s2.heap.get? b=some o->h1.get? b=some o:=fun b o e=>by
  refine hsb1.extBut b o (Nat.ne_of_lt (by have:=wD (Heap.lt_size e);rw [hsz];omega)) (Heap.get?_push_of_some _ (Heap.get?_push_of_some _ e))
 have hl:h1.get? s2.heap.objs.size=some {cls:= .type "list",data:= .seq #[]}:=
  hsb1.extBut _ _ (Nat.ne_of_lt (by rw [hsz];omega)) (Heap.get?_push_of_some _ (Heap.get?_push_size _ rfl))
 have hfo:∀b∈fp,∃o,s2.heap.get? b=some o:=fun b hb=>let ⟨o,e,_⟩:=T.obj _ _ st2 b hb;⟨o,e⟩
 have I4:=Inv.comp (C:=(s2.heap.push {cls:= .type "list",data:= .seq ([]:List Value).toArray}).objs.size) (t:=s2.toks+([]:List (Str×Value)).length) I2 S f2 hfo rfl hsz old Wx hl;obtain ⟨W,⟨m0,w0⟩,turn⟩:=q2 _ hD;generalize hCe:(s2.heap.push {cls:= .type "list",data:= .seq ([]:List Value).toArray}).objs.size=C at *;generalize hDe:s2.heap.objs.size=D at *;have hDC:D≠C:=by omega
 have loop:∀s3:Shared,s3={s2 with heap:=h1,toks:=s2.toks+([]:List (Str×Value)).length} ->
  codeAny (model X.prog X.w) X.A (.compLoop (.ListComp elt [⟨tg,iter,ifs,0⟩] scope pos) 0 (.ref it) (.ref D) (eU X scope C N s2 H2 fp).env) (compPost (model X.prog X.w) X.A X.xe use Qv (.ref D) C) s3:=by
  rintro s3 rfl
  have iV:∀b∈fp,(upd H2 D (.lst [])) b=none:=fun b hb=>by
   obtain ⟨o,e⟩:=hfo b hb;rw [bA (Nat.ne_of_lt (by have:=wD (Heap.lt_size e);omega))];exact (f2 b hb).1
  have stat:∀{H':Hp},(∀b∈fp,H' b=none) -> ∀b∈fp,nG (eU X scope C N s2 H2 fp) [] H' b:=fun hn b hb=>by
   obtain ⟨o,e⟩:=hfo b hb;have hlt:=wD (Heap.lt_size e);refine ⟨hn b hb, ?_,fun z=> ?_,.inl hb,fun x c e'=>(f2 b hb).2.2.2.2.1 x c (S.csub I2.ok e'),fun p hp=>(by cases hp)⟩
   ·exact Nat.ne_of_lt (show @LT.lt Nat _ b C by omega)
   ·rcases List.mem_cons.mp (I2.xK b z) with q|q
    ·exact (f2 b hb).2.1 q
    ·exact (f2 b hb).2.2.1 q
  refine yK (fun n s'=>∃i σ' H',Inv (eU X scope C N s2 H2 fp) [] σ' H' s'/\tn i s'.heap/\(∀b∈fp,H' b=none)/\W i n σ' H') ?_ m0
   ⟨0,_,_,I4,T.keep _ _ _ st2 fun b _ o e=>old b o e,iV,w0⟩
  rintro n s3 ⟨i,σ3,H3,I3,st3,WR,w3⟩;rcases turn i n σ3 H3 w3 with ⟨stop,qn⟩|⟨go,Nx,hNx,step⟩
  ·refine cF (T.done (eU X scope C N s2 H2 fp) rfl rfl rfl hc i [] s3 σ3 H3 _ I3 (stat WR) st3 stop) fun r s4 ⟨hr,J4⟩=> ?_
   subst hr;obtain ⟨m4,hn4,_⟩:=J4.loc;exact fin D C H3 s4 ⟨m4,hn4⟩ (I2.Js f2 (by omega) J4 (Heap.SameBut.refl _ _)) (fun h' hs'=>I2.Js f2 (by omega) J4 hs') (I2.uy (show s2.heap.objs.size<=C by omega) J4.free) qn
  ·refine cF (T.item (eU X scope C N s2 H2 fp) rfl rfl rfl hc i [] s3 σ3 H3 _ I3 (stat WR) st3 go) fun r s4 ⟨u,hr,h4⟩=> ?_
   subst hr;refine cF h4 fun _ s5 ⟨x,H5,I5,r5,y5,zf,fr5⟩=> ?_;have I5':=I5.pinned (stat fr5) (T.obj _ _ zf);refine cF (hg C s2 H2 fp _ s5 σ3 H5 x u _ I5' r5 (step x H5 y5)) fun _ s6 ⟨σ6,H6,I6,q6⟩=> ?_;refine cF (hcs C s2 H2 fp _ s6 σ6 H6 _ I6 q6) fun ok s7 ⟨H7,I7,q7⟩=> ?_
   have again:∀{σ8:St} {H8:Hp} {s8:Shared},Inv (eU X scope C N s2 H2 fp) ([]++tR fp s5.heap) σ8 H8 s8->Nx σ8 H8 -> ∃m,m<n /\ ∃i σ' H',Inv (eU X scope C N s2 H2 fp) [] σ' H' s8/\tn i s8.heap/\(∀b∈fp,H' b=none)/\W i m σ' H':=fun {σ8 H8 s8} I8 n8=>by
    obtain ⟨m',hm,w8⟩:=hNx _ _ n8;refine ⟨m',hm,i+1,σ8,H8,I8.oG,T.keep _ _ _ zf fun b hb o e=>(I8.pin (b,o) (List.mem_append_right _ (List.mem_append_right _ (lB hb e)))).1,fun b hb=> ?_,w8⟩;obtain ⟨o,e,d⟩:=T.obj _ _ zf b hb;exact (I8.pin (b,o) (List.mem_append_right _ (List.mem_append_right _ (lB hb e)))).2.1
   cases ok with
   | false=>
     rw [if_neg (by decide)] at q7;exact again I7 q7
   | true=>
     rw [if_pos rfl] at q7;refine cF (he C s2 H2 fp _ s7 σ6 H7 _ I7 q7) fun y s8 ⟨yv,H8,I8,r8,acc,ha,hlen,q8⟩=> ?_;exact cF (wG _ s8 σ6 H8 (.ref D) [yv] (.ref D) [y] (fun v H9=>Nx σ6 H9) I8 rfl (.cons r8 .nil) ⟨D,acc,yv,rfl,rfl,ha,hlen,q8⟩) fun _ s9 ⟨_,H9,I9,_,q9⟩=>again I9 q9
 exact codeAny_compStart_list (loop _ rfl) (T.self _ 0 _ _ _ (T.keep _ _ _ st2 fun b _ o e=>old b o e) (loop _ rfl))
theorem cU (hc:X.calm=true) (S:aQ N own caps X.N X.env.scope scope) (hi:PI X tg iter wi)
 (hg:∀C s H fp,PG (eU X scope C N s H fp) tg g) (hcs:∀C s H fp,X4 (eU X scope C N s H fp) ifs tc) (he:∀C s H fp,PE (eU X scope C N s H fp) elt te)
 (hs:∀x,foldedSetIterable iter X.env x=pure x:=by intro _;rfl):PE X (.ListComp elt [⟨tg,iter,ifs,0⟩] scope pos) (JB own caps wi g tc te):=by
 intro pins s σ H Q I h;rw [eval_ListComp];refine Bb (use:=none) hc S hg hcs he hi hs I h ?_;intro D C H' s' hn I' hk _ q;obtain ⟨m,hn⟩:=hn;exact ⟨m,hn,fun h' hs'=>⟨.ref D,H',hk h' hs',rfl,q⟩⟩
theorem rT {i:Nat} {x:Str} {px sp:Pos} (hc:X.calm=true) (hN:X.N.Nodup) (hx:X.N[i]? = some x) (hl:Loc X.env.scope x) (S:aQ N own caps X.N X.env.scope scope) (hi:PI X tg iter wi)
 (hg:∀C s H fp,PG (eU X scope C N s H fp) tg g) (hcs:∀C s H fp,X4 (eU X scope C N s H fp) ifs tc) (he:∀C s H fp,PE (eU X scope C N s H fp) elt te)
 (hsw:swapsWith (.ListComp elt [⟨tg,iter,ifs,0⟩] scope pos) (some (.Name x px)) sp.line X.env=pure true:=by rfl)
 (hs:∀x,foldedSetIterable iter X.env x=pure x:=by intro _;rfl) (hf:X.fn x=true\/X.env.scope.names.lookup x=some .local:=by first |exact .inl rfl|exact .inr rfl|assumption):
 PS X (.Assign [.Name x px] (.ListComp elt [⟨tg,iter,ifs,0⟩] scope pos) sp) (RQ (JB own caps wi g tc te) (mK i)):=by
 intro pins s σ H D I h;rw [exec_Assign_Name_used _ _ _ _ hsw];refine wpAny_bind (wpAny_standAt (wpAny_bind ?_));show wpAny _ X.A (do let _ ←comprehension (.ListComp elt [⟨tg,iter,ifs,0⟩] scope pos) scope X.env (firstIterPos [⟨tg,iter,ifs,0⟩] pos) (newList []) false (eval iter X.env) (some (assign (.Name x px) X.env))) _ _ s;refine wpAny_bind (wpAny_mono (Bb (use:=some (assign (.Name x px) X.env)) (Qv:=fun _ s'=>SP X pins D .next s') hc S hg hcs he hi hs I h ?_) (fun _ s' hq=>wpAny_pure (wpAny_pure hq)) fun _ _ e=>e);intro E C H' s' hn I' hk fC q;obtain ⟨m,hn⟩:=hn;obtain ⟨f0,f1,f2,f3,f4,f5⟩:=fC;show wpAny _ X.A (assign (.Name x px) X.env (.ref E)) _ _ _;refine wpAny_assign_Name (wk I' hN hx hl (v:= .ref E) rfl (fun s2 I2 k=> ?_) hf);refine ⟨m, ?_,fun h' hs'=> ?_⟩
 ·obtain ⟨o,es,ep,ho,r⟩:=hn
  obtain ⟨a,ks,ka⟩:=k
  have hCa:C≠a:=fun z=>by
   rcases ka with q'|q'
   ·exact f1 (z.trans q')
   ·exact f4 x a q' z.symm
  exact ⟨o,es,ep,(ks.2 C hCa).trans ho,r⟩
 ·exact ⟨_,H',I2.turned (t':=s2.toks) (fun b o hb e=>(hs'.2 b hb).trans e) f0 f1 f3 f4 f5,q⟩
end
def Mp (N own:List Str) (caps:List Nat) (XN:List Str) (outer scope:Scope):Bool:=
 decide (scope.kind = .function)&&scope.names.all (fun y=>decide (y.2 ≠ .cell))&&scope.names.all (fun y=>decide (y.2 ≠ .local)||decide (scope.names.lookup y.1=some .local)) &&
 scope.names.all (fun y=>decide (y.2 ≠ .free)||decide (outer.names.lookup y.1=some .cell)||decide (outer.names.lookup y.1=some .free))&&decide N.Nodup&&decide (N.length=own.length+caps.length) &&
 (List.range caps.length).all (fun j=>match N[own.length+j]? with |some x=>decide (XN[caps.getD j 0]? = some x)&&decide ((x,NameKind.free)∈scope.names)&&decide (scope.names.lookup x=some .free)|none=>false)
theorem aQ.of {N own:List Str} {caps:List Nat} {XN:List Str} {outer scope:Scope} (h:Mp N own caps XN outer scope=true):aQ N own caps XN outer scope:=by
 unfold Mp at h;simp only [Bool.and_eq_true,decide_eq_true_eq,List.all_eq_true,Bool.or_eq_true] at h;obtain ⟨⟨⟨⟨⟨⟨h1,h2⟩,h3⟩,h4⟩,h5⟩,h6⟩,h7⟩:=h;refine ⟨h1,h2,fun y hy e=> ?_,fun y hy e=> ?_,h5,h6,fun j hj=> ?_⟩
 ·rcases h3 y hy with z|z
  ·exact absurd e z
  ·exact z
 ·rcases h4 y hy with (z|z)|z
  ·exact absurd e z
  ·exact .inl z
  ·exact .inr z
 ·have q:=h7 j (List.mem_range.mpr hj)
  cases e:N[own.length+j]? with
  | none=>rw [e] at q;cases q
  | some x=>
    rw [e] at q;simp only [Bool.and_eq_true,decide_eq_true_eq] at q;exact ⟨q.1.1.symm,x,rfl,q.1.2,q.2⟩
end L2
set_option Elab.async false
set_option linter.all false
set_option maxRecDepth 100000
set_option maxHeartbeats 4000000
namespace L2
open PySem PySem.Spec PyProof.Rows
mutual
def Dat (H:Hp):V->PyData->Prop
 | v,.none=>v = .non
 | v,.bool b=>v = .bl b
 | v,.int i=>v = .int i
 | v,.str x=>v = .str x
 | v,.list ds=>∃a vs,v = .ref a/\H a=some (.lst vs)/\aF H vs ds
 | v,.tuple ds=>∃a vs,v = .ref a/\H a=some (.tup vs)/\aF H vs ds
 | _,.dict _=>False
def aF (H:Hp):List V->List PyData->Prop
 | [],[]=>True
 | v::vs,d::ds=>Dat H v d/\aF H vs ds
 | [],_::_=>False
 | _::_,[]=>False
end
section
variable {H H':Hp}
theorem aF.length:∀{vs:List V} {ds:List PyData},aF H vs ds->vs.length=ds.length
 | [],[],_=>rfl
 | _::_,_::_,h=>by simp only [aF] at h;simp [aF.length h.2]
 | [],_::_,h=>by simp only [aF] at h
 | _::_,[],h=>by simp only [aF] at h
theorem aF.get:∀{vs:List V} {ds:List PyData} {i:Nat} {v:V},aF H vs ds->vs[i]? = some v -> ∃d,ds[i]? = some d/\Dat H v d
 | _::_,_::_,0,_,h,e=>by simp only [aF] at h;simp at e;subst e;exact ⟨_,rfl,h.1⟩
 | _::_,_::_,i+1,_,h,e=>by simp only [aF] at h;simp at e;obtain ⟨d,q,r⟩:=aF.get h.2 e;exact ⟨d,by simpa using q,r⟩
 | [],[],_,_,_,e=>by simp at e
 | [],_::_,_,_,h,_=>by simp only [aF] at h
 | _::_,[],_,_,h,_=>by simp only [aF] at h
theorem aF.getD:∀{vs:List V} {ds:List PyData} {i:Nat} {d:PyData},aF H vs ds->ds[i]? = some d -> ∃v,vs[i]? = some v/\Dat H v d
 | _::_,_::_,0,_,h,e=>by simp only [aF] at h;simp at e;subst e;exact ⟨_,rfl,h.1⟩
 | _::_,_::_,i+1,_,h,e=>by simp only [aF] at h;simp at e;obtain ⟨d,q,r⟩:=aF.getD h.2 e;exact ⟨d,by simpa using q,r⟩
 | [],[],_,_,_,e=>by simp at e
 | [],_::_,_,_,h,_=>by simp only [aF] at h
 | _::_,[],_,_,h,_=>by simp only [aF] at h
theorem aF.append:∀{vs ws:List V} {ds es:List PyData},aF H vs ds->aF H ws es->aF H (vs++ws) (ds++es)
 | [],_,[],_,_,g=>g
 | _::_,_,_::_,_,h,g=>by simp only [aF,List.cons_append] at h ⊢;exact ⟨h.1,aF.append h.2 g⟩
 | [],_,_::_,_,h,_=>by simp only [aF] at h
 | _::_,_,[],_,h,_=>by simp only [aF] at h
theorem aF.take:∀{vs:List V} {ds:List PyData} (n:Nat),aF H vs ds->aF H (vs.take n) (ds.take n)
 | _,_,0,_=>by simp only [List.take_zero,aF]
 | [],[],_+1,_=>by simp only [List.take_nil,aF]
 | _::_,_::_,n+1,h=>by simp only [aF,List.take_succ_cons] at h ⊢;exact ⟨h.1,aF.take n h.2⟩
 | [],_::_,_+1,h=>by simp only [aF] at h
 | _::_,[],_+1,h=>by simp only [aF] at h
theorem aF.drop:∀{vs:List V} {ds:List PyData} (n:Nat),aF H vs ds->aF H (vs.drop n) (ds.drop n)
 | _,_,0,h=>by simpa using h
 | [],[],_+1,_=>by simp only [List.drop_nil,aF]
 | _::_,_::_,n+1,h=>by simp only [aF,List.drop_succ_cons] at h ⊢;exact aF.drop n h.2
 | [],_::_,_+1,h=>by simp only [aF] at h
 | _::_,[],_+1,h=>by simp only [aF] at h
theorem aF.ints (ns:List Int):aF H (ns.map V.int) (ns.map PyData.int):=by
 induction ns with
 | nil=>simp only [List.map_nil,aF]
 | cons n r ih=>simp only [List.map_cons,aF,Dat];exact ⟨trivial,ih⟩
mutual
theorem Dat.mono (hl:∀a xs,H a=some (HO.lst xs)->H' a=some (HO.lst xs)) (ht:∀a xs,H a=some (HO.tup xs)->H' a=some (HO.tup xs)):∀(d:PyData) {v:V},Dat H v d->Dat H' v d
 | .none,_,h=>by simp only [Dat] at h ⊢;exact h
 | .bool _,_,h=>by simp only [Dat] at h ⊢;exact h
 | .int _,_,h=>by simp only [Dat] at h ⊢;exact h
 | .str _,_,h=>by simp only [Dat] at h ⊢;exact h
 | .list ds,_,h=>by simp only [Dat] at h ⊢;obtain ⟨a,vs,e,q,r⟩:=h;exact ⟨a,vs,e,hl _ _ q,aF.mono hl ht ds r⟩
 | .tuple ds,_,h=>by simp only [Dat] at h ⊢;obtain ⟨a,vs,e,q,r⟩:=h;exact ⟨a,vs,e,ht _ _ q,aF.mono hl ht ds r⟩
 | .dict _,_,h=>by simp only [Dat] at h
theorem aF.mono (hl:∀a xs,H a=some (HO.lst xs)->H' a=some (HO.lst xs)) (ht:∀a xs,H a=some (HO.tup xs)->H' a=some (HO.tup xs)):∀(ds:List PyData) {vs:List V},aF H vs ds->aF H' vs ds
 | [],[],_=>by simp only [aF]
 | d::ds,v::vs,h=>by simp only [aF] at h ⊢;exact ⟨Dat.mono hl ht d h.1,aF.mono hl ht ds h.2⟩
 | _::_,[],h=>by simp only [aF] at h
 | [],_::_,h=>by simp only [aF] at h
end
mutual
def Ni:PyData->Bool
 | .tuple ds=>Al ds
 | .list _ | .dict _=>false
 | .none | .bool _ | .int _ | .str _=>true
def Al:List PyData->Bool
 | []=>true
 | d::ds=>Ni d&&Al ds
end
mutual
theorem Dat.keep (ht:∀a xs,H a=some (HO.tup xs)->H' a=some (HO.tup xs)):∀(d:PyData) {v:V},Ni d=true->Dat H v d->Dat H' v d
 | .none,_,_,h=>by simp only [Dat] at h ⊢;exact h
 | .bool _,_,_,h=>by simp only [Dat] at h ⊢;exact h
 | .int _,_,_,h=>by simp only [Dat] at h ⊢;exact h
 | .str _,_,_,h=>by simp only [Dat] at h ⊢;exact h
 | .list ds,_,i,h=>by simp only [Ni] at i;cases i
 | .tuple ds,_,i,h=>by simp only [Dat] at h ⊢;simp only [Ni] at i;obtain ⟨a,vs,e,q,r⟩:=h;exact ⟨a,vs,e,ht _ _ q,aF.keep ht ds i r⟩
 | .dict _,_,_,h=>by simp only [Dat] at h
theorem aF.keep (ht:∀a xs,H a=some (HO.tup xs)->H' a=some (HO.tup xs)):∀(ds:List PyData) {vs:List V},Al ds=true->aF H vs ds->aF H' vs ds
 | [],[],_,_=>by simp only [aF]
 | d::ds,v::vs,i,h=>by simp only [aF] at h ⊢;simp only [Al,Bool.and_eq_true] at i;exact ⟨Dat.keep ht d i.1 h.1,aF.keep ht ds i.2 h.2⟩
 | _::_,[],_,h=>by simp only [aF] at h
 | [],_::_,_,h=>by simp only [aF] at h
end
theorem bx {α:Type} (f:α->PyData) (h:∀x,Ni (f x)=true):∀l:List α,Al (l.map f)=true
 | []=>rfl
 | a::l=>by simp only [List.map_cons,Al,h a,bx f h l,Bool.and_self]
end
section
variable {X:Cx} {pins:List (Addr×Obj)} {σ:St} {H:Hp} {s:Shared}
mutual
theorem Inv.reads (I:Inv X pins σ H s):∀(d:PyData) {v:V} {u:Value},Dat H v d->RelV v u -> ∃as,Reads s.heap u d as
 | .none,v,u,h,r=>by
   simp only [Dat] at h;subst h;cases (show u=Value.none from r);exact ⟨_,.none⟩
 | .bool b,v,u,h,r=>by
   simp only [Dat] at h;subst h;cases (show u=Value.bool b from r);exact ⟨_,.bool b⟩
 | .int i,v,u,h,r=>by
   simp only [Dat] at h;subst h;obtain ⟨t,q⟩:=(show ∃t,u=Value.int i t from r);cases q;exact ⟨_,.int i t⟩
 | .str x,v,u,h,r=>by
   simp only [Dat] at h;subst h;obtain ⟨t,q⟩:=(show ∃t,u=Value.str x t from r);cases q;exact ⟨_,.str x t⟩
 | .list ds,v,u,h,r=>by
   simp only [Dat] at h;obtain ⟨a,vs,rfl,q,g⟩:=h;cases (show u=Value.ref a from r);obtain ⟨its,rv,p,hz⟩:=I.list (aZ.of q);obtain ⟨o,ho,hc,n,hd⟩:=p.isList;obtain ⟨as,ra⟩:=Inv.readsAll I ds g rv;exact ⟨_,.list ho hc hd (by simpa using ra)⟩
 | .tuple ds,v,u,h,r=>by
   simp only [Dat] at h;obtain ⟨a,vs,rfl,q,g⟩:=h;cases (show u=Value.ref a from r);obtain ⟨its,rv,p,hz⟩:=I.tuple (bL.of q);obtain ⟨o,ho,hc,n,hd⟩:=p;obtain ⟨as,ra⟩:=Inv.readsAll I ds g rv;exact ⟨_,.tuple ho hc hd (by simpa using ra)⟩
 | .dict _,_,_,h,_=>by simp only [Dat] at h
theorem Inv.readsAll (I:Inv X pins σ H s):∀(ds:List PyData) {vs:List V} {us:List Value},aF H vs ds->Vals vs us -> ∃as,ReadsAll s.heap us ds as
 | [],[],_,_,.nil=>⟨_,.nil⟩
 | d::ds,v::vs,_,h,.cons r rs=>by
   simp only [aF] at h;obtain ⟨as,ra⟩:=Inv.reads I d h.1 r;obtain ⟨bs,rb⟩:=Inv.readsAll I ds h.2 rs;exact ⟨_,.cons ra rb⟩
 | _::_,[],_,h,_=>by simp only [aF] at h
 | [],_::_,_,h,_=>by simp only [aF] at h
end
def Ob (neg:Bool):R2:=fun x y H Q=>∃d e,Dat H x d/\Dat H y e/\SeqAt.shaped d=true/\SeqAt.shaped e=true/\Q (.bl (if neg then !PyData.eqv d e else PyData.eqv d e)) H
theorem Tg (hu:X.A.units+64<cLine):lR X (compareOp .Eq) (Ob false):=by
 intro pins s σ H x y v u Q I rx ry h;obtain ⟨d,e,h1,h2,s1,s2,q⟩:=h;obtain ⟨as,ra⟩:=I.reads d h1 rx;obtain ⟨bs,rb⟩:=I.reads e h2 ry;exact SeqAt.compareEq_shaped ra rb s1 s2 hu ⟨.bl _,H,I,rfl,q⟩
theorem Te (hu:X.A.units+64<cLine):lR X (compareOp .NotEq) (Ob true):=by
 intro pins s σ H x y v u Q I rx ry h;obtain ⟨d,e,h1,h2,s1,s2,q⟩:=h;obtain ⟨as,ra⟩:=I.reads d h1 rx;obtain ⟨bs,rb⟩:=I.reads e h2 ry;exact SeqAt.compareNe_shaped ra rb s1 s2 hu ⟨.bl _,H,I,rfl,q⟩
theorem Mq {c:Value} {cv:V} (rc:RelV cv c):ig X (.builtin "isinstance") (fun xs H Q=>∃x t b,xs=[x,cv]/\pR X.K H x t/\PySem.W.kitOne X.K t c=some b/\Q (.bl b) H):=by
 intro pins s σ H xs us Q I r h;obtain ⟨x,t,b,rfl,ty,e,q⟩:=h;obtain ⟨u,w',rfl,r1,r2⟩:=vals2 r
 have:w'=c:=by
  cases cv with
  | non=>exact (show w'=Value.none from r2).trans (show c=Value.none from rc).symm
  | bl b=>exact (show w'=Value.bool b from r2).trans (show c=Value.bool b from rc).symm
  | ref a=>exact (show w'=Value.ref a from r2).trans (show c=Value.ref a from rc).symm
  | ty n=>exact (show w'=Value.type n from r2).trans (show c=Value.type n from rc).symm
  | int i=>obtain ⟨t1,rfl⟩:=(show ∃t,c=Value.int i t from rc);unfold PySem.W.kitOne at e;exact absurd e (by cases ty<;>simp [PySem.W.kitCls])
  | str i=>obtain ⟨t1,rfl⟩:=(show ∃t,c=Value.str i t from rc);unfold PySem.W.kitOne at e;exact absurd e (by cases ty<;>simp [PySem.W.kitCls])
  | Gf i=>obtain ⟨t1,rfl⟩:=(show ∃t,c=Value.bytes i t from rc);unfold PySem.W.kitOne at e;exact absurd e (by cases ty<;>simp [PySem.W.kitCls])
  | flt i=>obtain ⟨t1,rfl⟩:=(show ∃t,c=Value.float i t from rc);unfold PySem.W.kitOne at e;exact absurd e (by cases ty<;>simp [PySem.W.kitCls])
 subst this;exact HJ I r1 ty e fun tk=>⟨.bl b,H,I.tok _,rfl,q⟩
end
section
variable {prog:Program} {w:World} {A:Around}
theorem sS (hh:A.handled=none) (it a:Addr) (hne:it≠a) (its:List Value):Walks prog w A it [it,a] [it] its.length (fun i v=>its[i]? = some v) (fun i h=>h.IsListIter it a i/\h.IsList a its.toArray) where
 sub:=by simp
 frame:=fun i h h' ⟨s1,o,ho,hc⟩ k=>⟨s1.at fun o e=>k it (by simp) o e,o,k a (by simp) o ho,hc⟩
 item:=fun i s Q E hi ⟨s1,s2⟩ hQ=>wpAny_pyNext_list_item s1 s2 (x:=its[i]) (by simp [hi]) fun h' st' sb=>
  hQ _ h' s.toks (by simp [hi]) ⟨st',s2.extBut sb.extBut hne.symm⟩ fun b o hb e=>(sb.2 b (by simpa using hb)).trans e
 done:=fun s Q E ⟨s1,s2⟩ hQ=>wpAny_pyNext_list_end hh s1 s2 (by simp) fun h' eb=>hQ h' s.toks fun b o hb e=>eb b o (by simpa using hb) e
 self:=fun i s Q E ⟨s1,_⟩ hQ=>wpAny_pyIter_listiter s1 hQ
end
section
variable {X:Cx}
theorem vJ (bs:List Bool):(List.range bs.length).all (fun i=>(bs[i]?).getD false)=bs.all id:=by
 rw [Bool.eq_iff_iff,List.all_eq_true,List.all_eq_true];constructor
 ·intro h b hb
  obtain ⟨i,hi,rfl⟩:=List.getElem_of_mem hb;have:=h i (by simpa using hi);simpa [hi] using this
 ·intro h i hi
  have hi':i<bs.length:=by simpa using hi
  simpa [hi'] using h bs[i] (List.getElem_mem hi')
theorem Ca {bs:List Bool}:∀{us:List Value},Vals (bs.map V.bl) us->us=bs.map Value.bool:=by
 induction bs with
 | nil=>intro us r;cases r;rfl
 | cons b bs ih=>
   intro us r;cases r with
   | cons r rs=>cases (show _=Value.bool b from r);rw [ih rs];rfl
theorem uQ (hc:X.calm=true):ig X (.builtin "all") (fun xs H Q=>∃(p:Addr) (bs:List Bool),xs=[.ref p]/\aZ X.K H p (bs.map V.bl)/\Q (.bl (bs.all id)) H):=by
 intro pins s σ H xs us Q I r h;obtain ⟨p,bs,rfl,hq,q⟩:=h;obtain ⟨u,rfl,rx⟩:=vals1 r;cases rx;obtain ⟨its,rv,pl,hz⟩:=I.list hq;have e:=Ca rv;have hlen:its.length=bs.length:=by rw [e,List.length_map]
 refine call_all_walk (wpAny_pyIter_list pl.isList ⟨s.heap.objs.size,[s.heap.objs.size,p],[s.heap.objs.size],its.length,_,_,fun i=>(bs[i]?).getD false,rfl,
  sS (show X.A.in1.handled=none from I.ok.hd hc) s.heap.objs.size p ?_ its,⟨⟨_,Heap.get?_push_size _ rfl,rfl,rfl⟩, ?_⟩, ?_, ?_⟩)
 ·intro z
  obtain ⟨o,ho,_⟩:=pl.isList;have:=Heap.lt_size ho;rw [←z] at this;exact Nat.lt_irrefl _ this
 ·obtain ⟨o,ho,hcl⟩:=pl.isList
  exact ⟨o,Heap.get?_push_of_some _ ho,hcl⟩
 ·intro i v s1 Q1 E1 hP hQ
  rw [e,List.getElem?_map] at hP;cases r:bs[i]? with
  | none=>rw [r] at hP;cases hP
  | some b=>
    rw [r] at hP;cases hP;simp only [r,Option.getD_some] at hQ;exact wpAny_truthy_bool hQ
 ·intro h' tk k
  rw [hlen,vJ];have f:=I.uy (H':=H) (b:=s.heap.objs.size) (Nat.le_refl _) (I.hok.fresh (Nat.le_refl _));have I2:Inv X pins σ H {s with heap:=h',toks:=tk}:=I.turned (h':=h') (t':=tk) (it:=s.heap.objs.size) (fun b o hb e=>k b o (by simpa using hb) (Heap.get?_push_of_some _ e)) f.1 f.2.1 f.2.2.2.1 f.2.2.2.2.1 f.2.2.2.2.2;exact ⟨.bl _,H,I2,rfl,q⟩
end
end L2
set_option Elab.async false
set_option linter.all false
set_option maxRecDepth 100000
set_option maxHeartbeats 4000000
namespace L2
open PySem PySem.Spec PyProof.Rows
def FnAt (P:Program) (w:World) (K:PySem.W.Frag) (mg:Str->Option Value) (base:Heap) (k:Nat) (x:Str) (ps:List Str) (sp:Sp):Prop:=
 ∃f fd,cH P w K mg base iZ k f fd ps sp/\mg x=some (.ref f)/\PySem.W.keepIn K (.ref f)=true/\Binds K fd ps []
section
variable {X:Cx} {k j:Nat} {x:Str} {ps:List Str} {sp:Sp} {e:Expr} {es:List Expr} {t:TA} {p pos:Pos}
theorem aN (F:FnAt X.prog X.w X.K X.mg X.base k x ps sp) (hr:jV k X.A) (hg:Gl X x) (ha:PA X (e::es) t) (hd:(x==("__debug__" :Str))=false:=by decide)
 (he:starEach (e::es) X.env=(false,eval e X.env)::starEach es X.env:=by rfl) (hpl:(backTo pos (starEach es X.env)).any (·.1)=false:=by rfl):
 PE X (.Call (.Name x p) (e::es) [] pos) (QL sp [] E0 t):=by
 obtain ⟨f,fd,G,hm,hk,hb⟩:=F;exact Ot G hr hg hm hk hb .nil VP ha (hdb:=hd) (he:=he) (hpl:=hpl)
end
theorem mU:bootBuiltins "all" = some (.builtin "all"):=by kernel_rfl
theorem dj:bootBuiltins "len" = some (.builtin "len"):=by kernel_rfl
theorem Ut:bootBuiltins "min" = some (.builtin "min"):=by kernel_rfl
theorem Ms:bootBuiltins "max" = some (.builtin "max"):=by kernel_rfl
theorem qK:bootBuiltins "sorted" = some (.builtin "sorted"):=by kernel_rfl
theorem gb:bootBuiltins "isinstance" = some (.builtin "isinstance"):=by kernel_rfl
theorem Mt:bootBuiltins "int" = some (.type "int"):=by kernel_rfl
theorem Qk:bootBuiltins "bool" = some (.type "bool"):=by kernel_rfl
theorem jm:bootBuiltins "list" = some (.type "list"):=by kernel_rfl
theorem Mr:bootBuiltins "tuple" = some (.type "tuple"):=by kernel_rfl
theorem Qj:bootBuiltins "dict" = some (.type "dict"):=by kernel_rfl
section
variable {X:Cx}
end
def Kp (r:Addr) (H H':Hp):Prop:=∀b o,H b=some o->b≠r->H' b=some o
theorem Kp.of_same {r:Addr} {H H':Hp} (h:Same H H'):Kp r H H':=fun b o e _=>h b o e
theorem Kp.trans {r:Addr} {H H1 H2:Hp} (a:Kp r H H1) (b:Kp r H1 H2):Kp r H H2:=fun c o h n=>b c o (a c o h n) n
theorem Kp.refl (r:Addr) (H:Hp):Kp r H H:=fun _ _ h _=>h
theorem Kp.set {r:Addr} {H:Hp} {o:HO}:Kp r H (upd H r o):=fun b u e n=>by rw [bA n];exact e
theorem aD {H:Hp} {p:Addr} {o:HO} (h:H p=none):Same H (upd H p o):=fun b u e=>by rw [bA (aL e h)];exact e
theorem Same.tups {H H':Hp} (e:Same H H'):∀a xs,H a=some (HO.tup xs)->H' a=some (HO.tup xs):=fun a xs h=>e _ _ h
theorem Same.Yp {K:PySem.W.Frag} {H H':Hp} (e:Same H H'):∀a xs,aZ K H a xs->aZ K H' a xs:=fun a xs h=>e.seq h
theorem Kp.tups {H H':Hp} {r:Addr} {ys:List V} (e:Kp r H H') (hr:H r=some (.lst ys)):∀a xs,H a=some (HO.tup xs)->H' a=some (HO.tup xs):=fun a xs h=>e _ _ h (iK h hr (by intro z;cases z))
theorem Kp.tups' {H H':Hp} {r:Addr} {kvs:List (Key×V)} (e:Kp r H H') (hr:H r=some (.dK kvs)):∀a xs,H a=some (HO.tup xs)->H' a=some (HO.tup xs):=fun a xs h=>e _ _ h (iK h hr (by intro z;cases z))
end L2
namespace L2
open PySem PySem.Spec PyProof.Rows
section
variable {X:Cx} {K:PySem.W.Frag}
theorem aM (h:X.K=K):Jg X (SJ K):=by subst h;exact Fy
theorem aG (h:X.K=K):Jg X (yh K):=by subst h;exact Lg
theorem Pz (h:X.K=K):Jg X (rIx K):=by subst h;exact T_
theorem oN (h:X.K=K):X3 X (Vz K):=by subst h;exact NZ
theorem gj (h:X.K=K):X3 X (Vy K):=by subst h;exact Sd
def aa4 (K:PySem.W.Frag):List V->Hp->VK->Prop:=fun xs H Q=>∃(p:Addr) (ys:List V),xs=[.ref p]/\(aZ K H p ys\/bL K H p ys)/\Q (.int ys.length) H
theorem aU (h:X.K=K):ig X (.builtin "len") (aa4 K):=by subst h;exact yM
def N8 (K:PySem.W.Frag):List V->Hp->VK->Prop:=fun xs H Q=>∃(p:Addr) (ys:List V),xs=[.ref p]/\(aZ K H p ys\/bL K H p ys) /\ ∀l,H l=none->Q (.ref l) (upd H l (.lst ys))
theorem dJ (h:X.K=K):ig X (.type "list") (N8 K):=by subst h;exact yL
def VL (K:PySem.W.Frag):List V->Hp->VK->Prop:=fun xs H Q=>∃(p:Addr) (bs:List Bool),xs=[.ref p]/\aZ K H p (bs.map V.bl)/\Q (.bl (bs.all id)) H
theorem bZ (h:X.K=K) (hc:X.calm=true):ig X (.builtin "all") (VL K):=by subst h;exact uQ hc
theorem yt (h:X.K=K) (hu:X.A.units+64<cLine):lR X (compareOp .Eq) (Ob false):=by subst h;exact Tg hu
theorem m_ (h:X.K=K) (hu:X.A.units+64<cLine):lR X (compareOp .NotEq) (Ob true):=by subst h;exact Te hu
theorem bM {tg l:Expr} {tl:TE} (h:X.K=K) (hl:PE X l tl):PI X tg l (Rb K tl):=by subst h;exact Oj hl
theorem Oi {tg l:Expr} {tl:TE} (h:X.K=K) (hl:PE X l tl):PI X tg l (Wh K tl):=by subst h;exact SX hl
def aa5 (K:PySem.W.Frag) (c:Value) (cv:V):List V->Hp->VK->Prop:=fun xs H Q=>∃x t b,xs=[x,cv]/\pR K H x t/\PySem.W.kitOne K t c=some b/\Q (.bl b) H
theorem j8 {c:Value} {cv:V} (h:X.K=K) (rc:RelV cv c):ig X (.builtin "isinstance") (aa5 K c cv):=by subst h;exact Mq rc
theorem jB {o e:Expr} {to:TE} {t:TA} {apos cpos:Pos} (h:X.K=K) (ho:PE X o to) (ha:PA X [e] t)
 (hbase:attributeBase o "append" X.env (eval o X.env)=eval o X.env:=by rfl)
 (hfew:((backTo cpos (starEach [e] X.env)).all (fun x=> !x.1)&&(backToKw cpos (keywordEach [] X.env)).all (fun x=>x.1.isSome)
   && decide (([e]:List Expr).length+([]:List Keyword).length+(if ([]:List Keyword).isEmpty then 0 else 1)<30))=true:=by rfl)
 (hline:(apos.endLine==cpos.line)=true:=by rfl) (hs:starEach [e] X.env=(false,eval e X.env)::starEach [] X.env:=by rfl) (hplain:(backTo cpos (starEach [] X.env)).any (·.1)=false:=by rfl):
 PE X (.Call (.Attribute o "append" apos) [e] [] cpos) (Ym K "list" Fb to t):=by
 subst h;exact QZ PySem.F.plainAttrs_list PySem.F.slot_list_append PySem.F.type_list_append wG ho ha hbase hfew hline hs hplain
end
end L2
namespace L2
open PySem
section
variable {K:PySem.W.Frag} {a D:Addr} {xs:List V} {g:TG} {tc:TT} {te:TE} {Q:VK} {σ0:St} {H1:Hp}
theorem wV (Pv:Nat->St->Hp->Prop) (h0:Pv 0 σ0 (upd H1 D (.lst []))) (hl:∀i σ H,i<=xs.length->Pv i σ H->aZ K H a xs)
 (hs:∀i x σ H,xs[i]? = some x->Pv i σ H->g x σ H fun σ2 H2=>tc σ2 H2 fun b H3=>
   if b=true then te σ2 H3 fun y H4=>∃acc,H4 D=some (.lst acc)/\acc.length<sizeLine/\Pv (i+1) σ2 (upd H4 D (.lst (acc++[y]))) else Pv (i+1) σ2 H3)
 (hd:∀σ H,Pv xs.length σ H->Q (.ref D) H):nQ (Rt K a) g tc te Q D σ0 H1:=by
 refine ⟨fun i m σ H=>m=xs.length - i/\i<=xs.length/\Pv i σ H,⟨xs.length,by simp,Nat.zero_le _,h0⟩, ?_⟩;rintro i m σ H ⟨rfl,hi,p⟩;have q:=hl i σ H hi p
 by_cases hlt:i<xs.length
 ·refine .inr ⟨⟨xs,xs[i],q,by simp [hlt]⟩,Pv (i+1),fun σ' H' p'=>⟨xs.length - (i+1),by omega,rfl,hlt,p'⟩,fun x H' y=> ?_⟩
  obtain ⟨e,y⟩:=y;subst e;exact hs i x σ _ (y xs q) p
 ·have e:i=xs.length:=by omega
  subst e;exact .inl ⟨⟨xs,q,Nat.le_refl _⟩,hd σ H p⟩
theorem Ml (Pv:Nat->St->Hp->Prop) (h0:Pv 0 σ0 (upd H1 D (.lst []))) (hl:∀i σ H,i<=xs.length->Pv i σ H->bL K H a xs)
 (hs:∀i x σ H,xs[i]? = some x->Pv i σ H->g x σ H fun σ2 H2=>tc σ2 H2 fun b H3=>
   if b=true then te σ2 H3 fun y H4=>∃acc,H4 D=some (.lst acc)/\acc.length<sizeLine/\Pv (i+1) σ2 (upd H4 D (.lst (acc++[y]))) else Pv (i+1) σ2 H3)
 (hd:∀σ H,Pv xs.length σ H->Q (.ref D) H):nQ (Itt K a) g tc te Q D σ0 H1:=by
 refine ⟨fun i m σ H=>m=xs.length - i/\i<=xs.length/\Pv i σ H,⟨xs.length,by simp,Nat.zero_le _,h0⟩, ?_⟩;rintro i m σ H ⟨rfl,hi,p⟩;have q:=hl i σ H hi p
 by_cases hlt:i<xs.length
 ·refine .inr ⟨⟨xs,xs[i],q,by simp [hlt]⟩,Pv (i+1),fun σ' H' p'=>⟨xs.length - (i+1),by omega,rfl,hlt,p'⟩,fun x H' y=> ?_⟩
  obtain ⟨e,y⟩:=y;subst e;exact hs i x σ _ (y xs q) p
 ·have e:i=xs.length:=by omega
  subst e;exact .inl ⟨⟨xs,q,Nat.le_refl _⟩,hd σ H p⟩
theorem uL {lo:Int} {n:Nat} (Pv:Nat->St->Hp->Prop) (h0:Pv 0 σ0 (upd H1 D (.lst [])))
 (hs:∀i σ H,i<n->Pv i σ H->g (.int (lo+i)) σ H fun σ2 H2=>tc σ2 H2 fun b H3=>
   if b=true then te σ2 H3 fun y H4=>∃acc,H4 D=some (.lst acc)/\acc.length<sizeLine/\Pv (i+1) σ2 (upd H4 D (.lst (acc++[y]))) else Pv (i+1) σ2 H3)
 (hd:∀σ H,Pv n σ H->Q (.ref D) H):nQ (Rr lo n) g tc te Q D σ0 H1:=by
 refine ⟨fun i m σ H=>m=n - i/\i<=n/\Pv i σ H,⟨n,by simp,Nat.zero_le _,h0⟩, ?_⟩;rintro i m σ H ⟨rfl,hi,p⟩
 by_cases hlt:i<n
 ·refine .inr ⟨hlt,Pv (i+1),fun σ' H' p'=>⟨n - (i+1),by omega,rfl,hlt,p'⟩,fun x H' y=> ?_⟩
  obtain ⟨e,y⟩:=y;subst e y;exact hs i σ _ hlt p
 ·have e:i=n:=by omega
  subst e;exact .inl ⟨Nat.le_refl _,hd σ H p⟩
end
end L2
set_option Elab.async false
set_option linter.all false
set_option maxRecDepth 100000
set_option maxHeartbeats 4000000
namespace L2
open PySem PySem.Spec PyProof.Rows
section
variable {α:Type} (f:α->PyData)
theorem uP:∀(l:List α),(∀x∈l,(f x).canLay0=true)->PyData.canLayAll0 (l.map f)=true
 | [],_=>rfl
 | a::l,h=>by
   show (PyData.canLay0 (f a)&&PyData.canLayAll0 (l.map f))=true;rw [h a List.mem_cons_self,uP l fun x hx=>h x (List.mem_cons_of_mem _ hx)];rfl
theorem pL (k:Nat):∀(l:List α),(∀x∈l,(f x).depth<=k)->PyData.depthAll (l.map f)<=k
 | [],_=>Nat.zero_le _
 | a::l,h=>by
   show max (PyData.depth (f a)) (PyData.depthAll (l.map f))<=k;exact Nat.max_le.mpr ⟨h a List.mem_cons_self,pL k l fun x hx=>h x (List.mem_cons_of_mem _ hx)⟩
theorem qT {l:List α} (k:Nat) (hk:k<64) (h1:∀x∈l,(f x).canLay0=true) (h2:∀x∈l,(f x).depth<=k):SeqAt.shaped (.list (l.map f))=true:=by
 unfold SeqAt.shaped;have e1:PyData.canLay0 (.list (l.map f))=true:=uP f l h1
 have e2:PyData.depth (.list (l.map f))<=64:=by
  show PyData.depthAll (l.map f)+1<=64;have:=pL f k l h2;omega
 rw [e1,decide_eq_true e2];rfl
theorem uF [DecidableEq α] (h:∀x y,PyData.eqv (f x) (f y)=decide (x=y)):∀(l m:List α),PyData.eqvAll (l.map f) (m.map f)=decide (l=m)
 | [],[]=>rfl
 | [],_::_=>by simp only [List.map_nil,List.map_cons,PyData.eqvAll];exact (decide_eq_false (by intro z;cases z)).symm
 | _::_,[]=>by simp only [List.map_nil,List.map_cons,PyData.eqvAll];exact (decide_eq_false (by intro z;cases z)).symm
 | a::l,b::m=>by
   simp only [List.map_cons,PyData.eqvAll];rw [h a b,uF h l m]
   by_cases e1:a=b
   ·subst e1
    by_cases e2:l=m
    ·subst e2;simp
    ·simp [e2]
   ·simp [e1]
theorem gQ [DecidableEq α] (h:∀x y,PyData.eqv (f x) (f y)=decide (x=y)) (l m:List α):PyData.eqv (.list (l.map f)) (.list (m.map f))=decide (l=m):=by
 simp only [PyData.eqv];exact uF f h l m
end
theorem gR {H:Hp} {a:Addr} {vs:List V} {ds:List PyData} (h:H a=some (.lst vs)) (d:aF H vs ds):Dat H (.ref a) (.list ds):=by
 simp only [Dat];exact ⟨a,vs,rfl,h,d⟩
theorem Ak (K:PySem.W.Frag):PySem.W.kitOne K (.type "int") (.type "int")=some true:=rfl
theorem yG (K:PySem.W.Frag):PySem.W.kitOne K (.type "int") (.type "bool")=some false:=by kernel_rfl
theorem nM (K:PySem.W.Frag):PySem.W.kitOne K (.type "list") (.type "list")=some true:=rfl
theorem rF (K:PySem.W.Frag):PySem.W.kitOne K (.type "tuple") (.type "tuple")=some true:=rfl
end L2
namespace L2
open PySem
theorem pO (xs:List V) (k:Nat):iQ xs none (some (k:Int))=xs.take k:=by
 unfold iQ;rw [HT.zO,HT.Eu,List.drop_zero,Nat.sub_zero]
 by_cases h:k<=xs.length
 ·rw [Nat.min_eq_left h]
 ·rw [Nat.min_eq_right (by omega),List.take_of_length_le (Nat.le_refl _),List.take_of_length_le (by omega)]
theorem Ba (xs:List V) (k:Nat):iQ xs (some (k:Int)) none=xs.drop k:=by
 unfold iQ;rw [HT.zO,HT.Eu]
 by_cases h:k<=xs.length
 ·rw [Nat.min_eq_left h,List.take_of_length_le (by rw [List.length_drop];exact Nat.le_refl _)]
 ·rw [Nat.min_eq_right (by omega),Nat.sub_self,List.take_zero,List.drop_of_length_le (by omega)]
end L2
set_option Elab.async false
set_option linter.all false
set_option maxRecDepth 100000
set_option maxHeartbeats 4000000
namespace PySem.W
open PySem PySem.Spec PySem.Calls PyProof.Rows
section
variable {prog:Program} {w:World} {A:Around} {E:Value->Shared->Prop} {s:Shared} {K:Frag} {x D:Addr} {ox:Obj} {odo:Option Obj} {name:Str}
end
end PySem.W
set_option Elab.async false
set_option linter.all false
set_option maxRecDepth 100000
set_option maxHeartbeats 4000000
namespace L2
open PySem PySem.Spec PyProof.Rows
section
variable {M:Model} {A:Around} {E:Value->Shared->Prop} {s:Shared} {base:Heap} {env:Env} {outer:List Env} {L e:Addr}
end
section
variable {X:Cx} {pins:List (Addr×Obj)} {σ:St} {H:Hp} {s:Shared} {e:Addr}
end
end L2
set_option Elab.async false
set_option linter.all false
set_option maxRecDepth 100000
set_option maxHeartbeats 4000000
namespace L2
open PySem PySem.Spec PyProof.Rows
section
variable {X:Cx} {k:Nat} {x:Str} {ps:List Str} {sp:Sp} {e:Expr} {es:List Expr} {t:TA} {p pos:Pos} {E:St->XK}
end
section
variable {P:Program} {w:World} {K:PySem.W.Frag} {mg:Str->Option Value} {base:Heap}
end
section
variable {X:Cx} {E:St->XK} {x:Str} {C:Addr} {B newId initId:String} {bmB:List Value} {e0:Expr} {rest:List Expr} {ta:TA} {np cpos pos:Pos}
end
section
variable {X:Cx} {pins:List (Addr×Obj)} {σ:St} {H:Hp} {s:Shared}
end
section
variable {M:Model} {A:Around} {Er:Value->Shared->Prop} {s:Shared} {K:PySem.W.Frag} {e C D:Addr}
end
end L2
set_option Elab.async false
set_option linter.all false
set_option maxRecDepth 100000
set_option maxHeartbeats 4000000
namespace L2
open PySem PySem.Spec PyProof.Rows
section
variable {X:Cx} {pins:List (Addr×Obj)} {σ:St} {H:Hp} {s:Shared}
end
section
variable {X:Cx} {body suite:List Stmt} {b0:Stmt} {n cn:Str} {i:Nat} {Dc:Addr} {tb:(St->XK)->TS} {th:TS} {cp hpos pos:Pos}
end
section
variable {X:Cx} {K:PySem.W.Frag}
theorem Gr {cs:List Addr}:∀{us:List Value},Vals (cs.map V.ref) us->us=cs.map Value.ref:=by
 induction cs with
 | nil=>intro us r;cases r;rfl
 | cons c cs ih=>
   intro us r;cases r with
   | cons r rs=>cases (show _=Value.ref c from r);rw [ih rs];rfl
end
end L2
set_option Elab.async false
set_option linter.all false
set_option maxRecDepth 100000
set_option maxHeartbeats 4000000
namespace L2
open PySem PySem.Spec PyProof.Rows
section
variable {X:Cx} {K:PySem.W.Frag}
end
end L2
namespace L2
open PySem
end L2
set_option Elab.async false
set_option linter.all false
set_option maxRecDepth 100000
set_option maxHeartbeats 4000000
namespace L2
open PySem PySem.Spec PyProof.Rows
section
variable {X:Cx} {pins:List (Addr×Obj)} {σ:St} {H:Hp} {s:Shared} {h':Heap}
theorem Inv.rO {t':Nat} {fp:List Addr} (I:Inv X pins σ H s) (hf:∀b∈fp,nG X pins H b) (k:∀b o,b∉fp->s.heap.get? b=some o->h'.get? b=some o):Inv X pins σ H {s with heap:=h',toks:=t'}:=by
 have Pa:∀b u,H b=some u->b∉fp:=fun b u e z=>by rw [(hf b z).1] at e;cases e
 refine I.step (g':=s.gens) (d':=s.drawn) (ch:=fp) (fun b hb=> ?_) (fun b o _ _ hc e _=>k b o hc e) (fun b o _ _ hc e _=>⟨o.slots,k b o hc e⟩) (fun _ _ _ _ n=>n)
  (fun b o hc e=>⟨o,k b o hc e⟩) (fun _ _ e=>e) (fun _ _ _ e=>e) (fun b ps e=>⟨#[],by rw [e];simp⟩) (fun m hm=> ?_) (fun b u e=> ?_) I.bare
 ·obtain ⟨f0,f1,f2,f3,f4,f5⟩:=hf b hb
  exact ⟨f3,f1,f4,f5⟩
 ·obtain ⟨o,es,ep,ho,r⟩:=hm
  exact ⟨o,es,ep,k _ o (fun z=>(hf _ z).2.1 rfl) ho,r⟩
 ·refine (I.hok b u e).stay (fun c v hc q=>k c v ?_ q) (fun _ q=>q) fun _ _ q=>q
  rcases hc with z|z
  ·rw [z];exact Pa b u e
  ·exact Pa c _ z
theorem nG.upd {b p:Addr} {o:HO} (h:nG X pins H b) (n:b≠p):nG X pins (upd H p o) b:=by
 obtain ⟨f0,r⟩:=h;exact ⟨by rw [bA n];exact f0,r⟩
theorem Ar {h:Heap} {o u:Obj} {b:Addr} (ho:o.isFreed=false) (e:(h.push o).get? b=some u):(b=h.objs.size/\u=o)\/h.get? b=some u:=by
 by_cases hb:b=h.objs.size
 ·subst hb
  rw [Heap.get?_push_size _ ho] at e;exact .inl ⟨rfl,(Option.some.inj e).symm⟩
 ·refine .inr ?_
  have lt:=Heap.lt_size e
  have YC:b<h.objs.size:=by
   have:(h.push o).objs.size=h.objs.size+1:=by simp [Heap.push]
   rw [this] at lt;exact Nat.lt_of_le_of_ne (Nat.le_of_lt_succ lt) hb
  have:(h.push o).get? b=h.get? b:=by
   simp only [Heap.get?,Heap.push];rw [Array.getElem?_push_lt YC,Array.getElem?_eq_getElem YC]
  rw [←this];exact e
end
def Ite (K:PySem.W.Frag) (l:Addr):It:=
 ⟨fun i H=>∃xs x,aZ K H l xs/\xs[i]? = some x,fun i H x H'=>∃(p:Addr) (y:V),x = .ref p/\H p=none/\(∀xs,aZ K H l xs->xs[i]? = some y)/\H'=upd H p (.tup [.int i,y]),fun i H=>∃xs,aZ K H l xs/\xs.length<=i⟩
theorem Gw {P:Program} {w:World} {K:PySem.W.Frag} {elts:List Expr} {x1:Nat} {pos:Pos} (l e it:Addr) (hne:e≠it):Turn P w K (.Tuple elts x1 pos) (Ite K l) [e,it] e (fun i h=>(∃old,IsEnum h e it i old)/\h.IsListIter it l i) where
 mem:=by simp
 obj:=fun i h st b hb=>by
  obtain ⟨⟨old,he⟩,o,ho,c,d⟩:=st;have hb':b=e\/b=it:=by simpa using hb
  rcases hb' with rfl|rfl
  ·exact ⟨_,he,fun v z=>by cases z⟩
  ·exact ⟨o,ho,fun v z=>by rw [d] at z;cases z⟩
 keep:=fun i h h' st k=>by
  obtain ⟨⟨old,he⟩,o,ho,c,d⟩:=st;exact ⟨⟨old,k e (by simp) _ he⟩,o,k it (by simp) _ ho,c,d⟩
 item:=by
  intro X hP hw hK hc i pins s σ H E I hf st hg;subst hP hw hK;obtain ⟨xs,x,hq,hx⟩:=hg;obtain ⟨its,rv,p,hz⟩:=I.list hq;obtain ⟨u,hu,ru⟩:=rv.get hx;obtain ⟨⟨old,he⟩,hi⟩:=st;have elt:=Heap.lt_size he;have ilt:it<s.heap.objs.size:=by obtain ⟨o,ho,_⟩:=id hi;exact Heap.lt_size ho
  refine wpAny_pyNext_enum_item he hi p.isList (x:=u) (by simpa using hu) hne fun h' hout hit htup hsz hk=> ?_;refine ⟨_,rfl, ?_⟩;refine wpAny_letOwnedTupleGo_enum hout fun h2 he2 sb=> ?_;have hfr:H s.heap.objs.size=none:=I.hok.fresh (Nat.le_refl _)
  have I0:Inv X pins σ (upd H s.heap.objs.size (.tup [.int i,x])) {s with heap:=s.heap.push {cls:= .type "tuple",data:= .seq #[.int i s.toks,u]}}:=
   I.laid (t':=s.toks) (fun b u e=>Heap.get?_push_of_some _ e) (Nat.le_refl _) ⟨by show 2<=sizeLine;decide,[.int i s.toks,u],.cons ⟨_,rfl⟩ (.cons ru .nil),⟨_,Heap.get?_push_size _ rfl,rfl,_,rfl⟩⟩
  have ne1:e≠s.heap.objs.size:=Nat.ne_of_lt elt;have ne2:it≠s.heap.objs.size:=Nat.ne_of_lt ilt
  have Wz:∀b∈[e,it],nG X pins (upd H s.heap.objs.size (.tup [.int i,x])) b:=fun b hb=>by
   have hb':b=e\/b=it:=by simpa using hb
   rcases hb' with rfl|rfl
   ·exact (hf _ (by simp)).upd ne1
   ·exact (hf _ (by simp)).upd ne2
  have I1:=I0.rO (h':=h2) (t':=s.toks+1) Wz (fun b o hb eb=>by
   have b1:b≠e:=fun z=>hb (by simp [z]);have b2:b≠it:=fun z=>hb (by simp [z]);rw [sb.2 b b1];rcases Ar rfl eb with ⟨rfl,rfl⟩|eb
   ·exact htup
   ·exact hk b o b1 b2 eb)
  refine ⟨.ref s.heap.objs.size,_,I1,rfl,⟨s.heap.objs.size,x,rfl,hfr,fun ys hy=>by rw [I.pC hy hq];exact hx,rfl⟩,⟨⟨u,he2⟩, ?_⟩,fun b hb=>(Wz b hb).1⟩;obtain ⟨o,ho,c,d⟩:=hit;exact ⟨o,(sb.2 it (Ne.symm hne)).trans ho,c,d⟩
 done:=by
  intro X hP hw hK hc i pins s σ H E I hf st hg;subst hP hw hK;obtain ⟨xs,hq,hx⟩:=hg;obtain ⟨its,rv,p,hz⟩:=I.list hq;obtain ⟨⟨old,he⟩,hi⟩:=st;have hl:=rv.length;exact wpAny_pyNext_enum_end (I.ok.hd hc) he hi p.isList (by simp;omega) fun h' eb=>⟨rfl,I.rO (t':=s.toks) hf (fun b o hb e=>eb b o (fun z=>hb (by simp [z])) e)⟩
 self:=fun _ _ _ _ _ st h=>by
  obtain ⟨⟨old,he⟩,_⟩:=st;exact wpAny_pyIter_enum he h
section
variable {X:Cx}
def Wk (K:PySem.W.Frag) (ta:TA):TI:=fun σ H R=>ta σ H fun vs H1=>∃l xs,vs=[.ref l]/\aZ K H1 l xs/\R (Ite K l) H1
theorem yN:bootBuiltins "enumerate" = some (.type "enumerate"):=by kernel_rfl
theorem J_ {K:PySem.W.Frag} {a:Expr} {ta:TA} {p pos:Pos} {elts:List Expr} {x1:Nat} {tpos:Pos} (hK:X.K=K) (hg:Gl X "enumerate") (hm:X.mg "enumerate" = none) (ha:PA X [a] ta) (hs:starEach [a] X.env=[(false,eval a X.env)]:=by rfl):PI X (.Tuple elts x1 tpos) (.Call (.Name "enumerate" p) [a] [] pos) (Wk K ta):=by
 subst hK;intro pins s σ H R I h;refine Call_ (oh I hg hm yN (PyProof.Rows.callWith_type1 (cF (ha pos pins s σ H _ I h) fun us s1 ⟨vs,H1,I1,r1,q1⟩=> ?_) hs rfl));obtain ⟨l,xs,e,hq,q⟩:=q1;subst e;cases r1 with
 | cons r rr=>
   cases rr;cases r;obtain ⟨its,rv,pl,hz⟩:=I1.list hq;refine call_enumerate_list pl.isList fun h' hE hI hsz hk=> ?_;refine wpAny_pyIter_enum hE ?_;have I2:Inv X pins σ H1 {s1 with heap:=h'}:=I1.kept (t':=s1.toks) hk;refine ⟨s1.heap.objs.size+1,[s1.heap.objs.size+1,s1.heap.objs.size],_,_,H1,rfl,I2,Gw l _ _ (by simp),⟨⟨_,hE⟩,hI⟩,fun b hb=> ?_,q⟩;have hb':b=s1.heap.objs.size+1\/b=s1.heap.objs.size:=by simpa using hb
   rcases hb' with rfl|rfl
   ·exact I1.uy (Nat.le_succ _) (I1.hok.fresh (Nat.le_succ _))
   ·exact I1.uy (Nat.le_refl _) (I1.hok.fresh (Nat.le_refl _))
end
def Itz (K:PySem.W.Frag) (l1 l2:Addr):It:=
 ⟨fun i H=>∃xs ys x y,aZ K H l1 xs/\aZ K H l2 ys/\xs[i]? = some x/\ys[i]? = some y,
  fun i H x H'=>∃(p:Addr) (y z:V),x = .ref p/\H p=none/\(∀xs,aZ K H l1 xs->xs[i]? = some y)/\(∀ys,aZ K H l2 ys->ys[i]? = some z)/\H'=upd H p (.tup [y,z]),
  fun i H=>∃xs ys,aZ K H l1 xs/\aZ K H l2 ys/\(xs.length<=i\/ys.length<=i)⟩
theorem Jv {P:Program} {w:World} {K:PySem.W.Frag} {elts:List Expr} {x1:Nat} {pos:Pos} (z TI TO i1 i2 l1 l2:Addr) (ap:ZipApart z TI TO i1 i2 l1 l2):Turn P w K (.Tuple elts x1 pos) (Itz K l1 l2) [z,TI,TO,i1,i2] z
 (fun i h=>IsZip h z TI TO .none/\IsPair h TI (.ref i1) (.ref i2)/\(∃a b,IsPair h TO a b)/\h.IsListIter i1 l1 i/\h.IsListIter i2 l2 i) where
 mem:=by simp
 obj:=fun i h st b hb=>by
  obtain ⟨hz,hTI,⟨a,c,hTO⟩,⟨o1,h1,c1,d1⟩,⟨o2,h2,c2,d2⟩⟩:=st;have hb':b=z\/b=TI\/b=TO\/b=i1\/b=i2:=by simpa using hb
  rcases hb' with rfl|rfl|rfl|rfl|rfl
  ·exact ⟨_,hz,fun v z=>by cases z⟩
  ·exact ⟨_,hTI,fun v z=>by cases z⟩
  ·exact ⟨_,hTO,fun v z=>by cases z⟩
  ·exact ⟨_,h1,fun v z=>by rw [d1] at z;cases z⟩
  ·exact ⟨_,h2,fun v z=>by rw [d2] at z;cases z⟩
 keep:=fun i h h' st k=>by
  obtain ⟨hz,hTI,⟨a,c,hTO⟩,⟨o1,h1,c1,d1⟩,⟨o2,h2,c2,d2⟩⟩:=st;exact ⟨k z (by simp) _ hz,k TI (by simp) _ hTI,⟨a,c,k TO (by simp) _ hTO⟩,⟨o1,k i1 (by simp) _ h1,c1,d1⟩,⟨o2,k i2 (by simp) _ h2,c2,d2⟩⟩
 item:=by
  intro X hP hw hK hc i pins s σ H E I hf st hg;subst hP hw hK;obtain ⟨xs,ys,x,y,hq1,hq2,hx,hy⟩:=hg;obtain ⟨Wc,Ys,p1,hz1⟩:=I.list hq1;obtain ⟨its2,Yr,p2,hz2⟩:=I.list hq2;obtain ⟨u1,hu1,ru1⟩:=Ys.get hx;obtain ⟨u2,hu2,ru2⟩:=Yr.get hy;obtain ⟨hz,hTI,⟨a,c,hTO⟩,hi1,hi2⟩:=st;have zlt:=Heap.lt_size hz;have ag9:=Heap.lt_size hTI;have ag8:=Heap.lt_size hTO;have aem:i1<s.heap.objs.size:=by obtain ⟨o,ho,_⟩:=id hi1;exact Heap.lt_size ho
  have ael:i2<s.heap.objs.size:=by obtain ⟨o,ho,_⟩:=id hi2;exact Heap.lt_size ho
  refine wpAny_pyNext_zip_item ap hz hTI hTO hi1 hi2 p1.isList p2.isList (x:=u1) (y:=u2) (by simpa using hu1) (by simpa using hu2) fun h' hz' aeI aeE hi2' hnew hsz hk=> ?_;refine ⟨_,rfl, ?_⟩;refine wpAny_letOwnedTupleGo_zip hz' fun h2 aeo sb=> ?_;have hfr:H s.heap.objs.size=none:=I.hok.fresh (Nat.le_refl _)
  have I0:Inv X pins σ (upd H s.heap.objs.size (.tup [x,y])) {s with heap:=s.heap.push {cls:= .type "tuple",data:= .seq #[u1,u2]}}:=
   I.laid (t':=s.toks) (fun b u e=>Heap.get?_push_of_some _ e) (Nat.le_refl _) ⟨by show 2<=sizeLine;decide,[u1,u2],.cons ru1 (.cons ru2 .nil),⟨_,Heap.get?_push_size _ rfl,rfl,_,rfl⟩⟩
  have Wz:∀b∈[z,TI,TO,i1,i2],nG X pins (upd H s.heap.objs.size (.tup [x,y])) b:=fun b hb=>by
   refine (hf b hb).upd ?_;have hb':b=z\/b=TI\/b=TO\/b=i1\/b=i2:=by simpa using hb
   rcases hb' with rfl|rfl|rfl|rfl|rfl
   ·exact Nat.ne_of_lt zlt
   ·exact Nat.ne_of_lt ag9
   ·exact Nat.ne_of_lt ag8
   ·exact Nat.ne_of_lt aem
   ·exact Nat.ne_of_lt ael
  have I1:=I0.rO (h':=h2) (t':=s.toks) Wz (fun b o hb eb=>by
   have b1:b≠z:=fun e=>hb (by simp [e]);have b2:b≠TO:=fun e=>hb (by simp [e]);have b3:b≠i1:=fun e=>hb (by simp [e]);have b4:b≠i2:=fun e=>hb (by simp [e]);rw [sb.2 b b1];rcases Ar rfl eb with ⟨rfl,rfl⟩|eb
   ·exact hnew
   ·exact hk b o b1 b2 b3 b4 eb)
  refine ⟨.ref s.heap.objs.size,_,I1,rfl,⟨s.heap.objs.size,x,y,rfl,hfr,fun ys hy=>by rw [I.pC hy hq1];exact hx,fun ys' hy'=>by rw [I.pC hy' hq2];exact hy,rfl⟩, ?_,fun b hb=>(Wz b hb).1⟩;obtain ⟨o1,ho1,c1,d1⟩:=aeE;obtain ⟨o2,ho2,c2,d2⟩:=hi2';exact ⟨aeo,(sb.2 TI ap.TIz).trans (hk TI _ ap.TIz ap.TITO ap.TIi1 ap.TIi2 hTI),⟨_,_,(sb.2 TO ap.TOz).trans aeI⟩,⟨o1,(sb.2 i1 ap.i1z).trans ho1,c1,d1⟩,⟨o2,(sb.2 i2 ap.i2z).trans ho2,c2,d2⟩⟩
 done:=by
  intro X hP hw hK hc i pins s σ H E I hf st hg;subst hP hw hK;obtain ⟨xs,ys,hq1,hq2,hx⟩:=hg;obtain ⟨Wc,Ys,p1,hz1⟩:=I.list hq1;obtain ⟨its2,Yr,p2,hz2⟩:=I.list hq2;obtain ⟨hz,hTI,⟨a,c,hTO⟩,hi1,hi2⟩:=st;have hl1:=Ys.length;have hl2:=Yr.length;refine wpAny_pyNext_zip_end (I.ok.hd hc) ap hz hTI hTO hi1 hi2 p1.isList p2.isList ?_ fun h' eb=>⟨rfl,I.rO (t':=s.toks) hf (fun b o hb e=>eb b o (fun z=>hb (by simp [z])) (fun z=>hb (by simp [z])) (fun z=>hb (by simp [z])) (fun z=>hb (by simp [z])) e)⟩;rcases hx with hx|hx
  ·exact .inl (by simp;omega)
  ·exact .inr (by simp;omega)
 self:=fun _ _ _ _ _ st h=>wpAny_pyIter_zip st.1 h
section
variable {X:Cx}
def aek (K:PySem.W.Frag) (ta:TA):TI:=fun σ H R=>ta σ H fun vs H1=>∃l1 l2 xs ys,vs=[.ref l1,.ref l2]/\aZ K H1 l1 xs/\aZ K H1 l2 ys/\R (Itz K l1 l2) H1
theorem Fj {K:PySem.W.Frag} {a b:Expr} {ta:TA} {p pos:Pos} {elts:List Expr} {x1:Nat} {tpos:Pos} (hK:X.K=K) (hg:Gl X "zip") (hm:X.mg "zip" = none) (ha:PA X [a,b] ta) (hs:starEach [a,b] X.env=[(false,eval a X.env),(false,eval b X.env)]:=by rfl) (hs2:starEach [b] X.env=[(false,eval b X.env)]:=by rfl):PI X (.Tuple elts x1 tpos) (.Call (.Name "zip" p) [a,b] [] pos) (aek K ta):=by
 subst hK;intro pins s σ H R I h;refine Call_ (oh I hg hm boot_zip (PyProof.Rows.callWith_type1 (cF (ha pos pins s σ H _ I h) fun us s1 ⟨vs,H1,I1,r1,q1⟩=> ?_) (by rw [hs,hs2]) (by rw [hs2];rfl)));obtain ⟨l1,l2,xs,ys,e,hq1,hq2,q⟩:=q1;subst e;cases r1 with
 | cons r rr=>
   cases rr with
   | cons r' rr=>
     cases rr;cases r;cases r';obtain ⟨Wc,Ys,Yu,hz1⟩:=I1.list hq1;obtain ⟨its2,Yr,pl2,hz2⟩:=I1.list hq2;have lt1:l1<s1.heap.objs.size:=by obtain ⟨o,ho,_⟩:=Yu.isList;exact Heap.lt_size ho
     have YC:l2<s1.heap.objs.size:=by obtain ⟨o,ho,_⟩:=pl2.isList;exact Heap.lt_size ho
     refine call_zip_2 Yu.isList pl2.isList fun h' hZ hTI hTO hi1 hi2 hsz hk=> ?_;refine wpAny_pyIter_zip hZ ?_;have I2:Inv X pins σ H1 {s1 with heap:=h'}:=I1.kept (t':=s1.toks) hk;refine ⟨s1.heap.objs.size+4,[s1.heap.objs.size+4,s1.heap.objs.size+2,s1.heap.objs.size+3,s1.heap.objs.size,s1.heap.objs.size+1],_,_,H1,rfl,I2,Jv _ _ _ _ _ l1 l2 (zipApart_new lt1 YC),⟨hZ,hTI,⟨_,_,hTO⟩,hi1,hi2⟩,fun b hb=> ?_,q⟩
     have hb':s1.heap.objs.size<=b:=by
      have:b=s1.heap.objs.size+4\/b=s1.heap.objs.size+2\/b=s1.heap.objs.size+3\/b=s1.heap.objs.size\/b=s1.heap.objs.size+1:=by simpa using hb
      rcases this with rfl|rfl|rfl|rfl|rfl
      ·exact Nat.le_add_right _ _
      ·exact Nat.le_add_right _ _
      ·exact Nat.le_add_right _ _
      ·exact Nat.le_refl _
      ·exact Nat.le_add_right _ _
     exact I1.uy hb' (I1.hok.fresh hb')
end
end L2
set_option Elab.async false
set_option linter.all false
set_option maxRecDepth 100000
set_option maxHeartbeats 4000000
namespace L2
open PySem PySem.Spec PyProof.Rows
section
variable {K:PySem.W.Frag} {a l1 l2 D:Addr} {xs ys:List V} {g:TG} {tc:TT} {te:TE} {Q:VK} {σ0:St} {H1:Hp}
theorem Mj {n:Nat} (hn1:xs.length=n) (hn2:ys.length=n) (Pv:Nat->St->Hp->Prop) (h0:Pv 0 σ0 (upd H1 D (.lst []))) (hl:∀i σ H,i<=n->Pv i σ H->aZ K H l1 xs/\aZ K H l2 ys)
 (hs:∀i x y σ H p,xs[i]? = some x->ys[i]? = some y->Pv i σ H->H p=none->g (.ref p) σ (upd H p (.tup [x,y])) fun σ2 H2=>tc σ2 H2 fun b H3=>
   if b=true then te σ2 H3 fun y H4=>∃acc,H4 D=some (.lst acc)/\acc.length<sizeLine/\Pv (i+1) σ2 (upd H4 D (.lst (acc++[y]))) else Pv (i+1) σ2 H3)
 (hd:∀σ H,Pv n σ H->Q (.ref D) H):nQ (Itz K l1 l2) g tc te Q D σ0 H1:=by
 refine ⟨fun i m σ H=>m=n - i/\i<=n/\Pv i σ H,⟨n,by simp,Nat.zero_le _,h0⟩, ?_⟩;rintro i m σ H ⟨rfl,hi,p⟩;obtain ⟨q1,q2⟩:=hl i σ H hi p
 by_cases hlt:i<n
 ·refine .inr ⟨⟨xs,ys,xs[i],ys[i],q1,q2,by simp [hn1,hlt],by simp [hn2,hlt]⟩,Pv (i+1),fun σ' H' p'=>⟨n - (i+1),by omega,rfl,hlt,p'⟩,fun x H' y=> ?_⟩
  obtain ⟨t,z,u,rfl,ht,hz,hu,rfl⟩:=y;exact hs i z u σ _ t (hz xs q1) (hu ys q2) p ht
 ·have e:i=n:=by omega
  subst e;exact .inl ⟨⟨xs,ys,q1,q2,.inl (by omega)⟩,hd σ H p⟩
end
section
variable {K:PySem.W.Frag} {a l1 l2:Addr} {xs ys:List V} {g:TG} {tb:TS} {D:Ends} {σ:St} {H:Hp}
theorem Ly (Pv:Nat->St->Hp->Prop) (h0:Pv 0 σ H) (hl:∀i σ H,i<=xs.length->Pv i σ H->aZ K H a xs)
 (hs:∀i x σ H p,xs[i]? = some x->Pv i σ H->H p=none->g (.ref p) σ (upd H p (.tup [.int i,x])) fun σ2 H2=>tb {D with nx:=Pv (i+1),ct:=Pv (i+1),bk:=D.nx} σ2 H2) (hd:∀σ H,Pv xs.length σ H->D.nx σ H):
 ∃W:Nat->Nat->St->Hp->Prop,(∃m,W 0 m σ H) /\ ∀i m σ H,W i m σ H ->
  ((Ite K a).stop i H/\D.nx σ H)\/((Ite K a).go i H /\ ∃N:St->Hp->Prop,(∀σ' H',N σ' H' -> ∃m',m'<m/\W (i+1) m' σ' H') /\ ∀x H',(Ite K a).Nk i H x H'->g x σ H' fun σ2 H2=>tb {D with nx:=N,ct:=N,bk:=D.nx} σ2 H2):=by
 refine ⟨fun i m σ H=>m=xs.length - i/\i<=xs.length/\Pv i σ H,⟨xs.length,by simp,Nat.zero_le _,h0⟩, ?_⟩;rintro i m σ H ⟨rfl,hi,p⟩;have q:=hl i σ H hi p
 by_cases hlt:i<xs.length
 ·refine .inr ⟨⟨xs,xs[i],q,by simp [hlt]⟩,Pv (i+1),fun σ' H' p'=>⟨xs.length - (i+1),by omega,rfl,hlt,p'⟩,fun x H' y=> ?_⟩
  obtain ⟨t,z,rfl,ht,hz,rfl⟩:=y;exact hs i z σ _ t (hz xs q) p ht
 ·have e:i=xs.length:=by omega
  subst e;exact .inl ⟨⟨xs,q,Nat.le_refl _⟩,hd σ H p⟩
end
section
variable {X:Cx}
def N_:V->List V->Hp->VK->Prop:=fun x vs H Q=>∃l xs i y,x = .ref l/\vs=[.int i,y]/\H l=some (.lst xs)/\0<=i/\i<=xs.length/\xs.length<sizeLine/\Q .non (upd H l (.lst (xs.take i.toNat++y::xs.drop i.toNat)))
theorem wF:X_ X "list.insert" N_:=by
 intro pins s σ H x vs v us Q I rx rv h;obtain ⟨l,xs,i,y,rfl,rfl,hH,i0,i1,hz,q⟩:=h;cases rx;obtain ⟨u,u2,rfl,ru,ru2⟩:=rv.two;obtain ⟨t,rfl⟩:=ru;obtain ⟨z,its,n,r,hl,e⟩:=I.Ae hH;have l63:=mJ
 refine call_meets F.slot_list_insert ⟨_,e,rfl⟩ F.entry_list_insert (F.args_list_insert_3 _ _ _)
  (AutoSeq1.list_insert_list_int_val_1 l its.toArray n i t u2 (by rw [show Builtin.List.listFitsIndex i=true from fitsIndex_both (by omega) (by omega)];decide) (by rw [List.size_toArray];omega)) ⟨e, ?_⟩
 refine ⟨.non,_,I.K5 (its':=its.take i.toNat++u2::its.drop i.toNat) hH e ?_ ((r.take _).append (.cons ru2 (r.drop _))) ?_,rfl,q⟩
 ·have hi:¬i<0:=by omega
  simp only [hi,if_false];have hm:min i.toNat its.toArray.size=i.toNat:=by rw [List.size_toArray];omega
  simp only [hm];apply Array.ext';simp [List.extract_eq_drop_take,List.take_of_length_le]
 ·simp only [List.length_append,List.length_cons,List.length_take,List.length_drop]
  omega
theorem zA:∀{ns:List Int} {us:List Value},Vals (ns.map V.int) us->IntsAre us ns
 | [],us,r=>by cases r;exact .nil
 | n::ns,us,r=>by
   cases r with
   | cons r rs=>
     obtain ⟨t,rfl⟩:=r;exact .cons n t (zA rs)
def Oc:V->List V->Hp->VK->Prop:=fun x vs H Q=>∃(l:Addr) (ns:List Int) (i:Int),x = .ref l/\vs=[.int i]/\aZ X.K H l (ns.map V.int)/\Q (.int (ns.count i)) H
theorem K3:Z_ X "list.count" (Oc (X:=X)):=by
 intro pins s σ H x vs v us Q I rx rv h;obtain ⟨l,ns,i,rfl,rfl,hq,q⟩:=h;cases rx;obtain ⟨u,rfl,ru⟩:=rv.one;obtain ⟨t,rfl⟩:=ru;obtain ⟨its,r',pl,hz⟩:=I.list hq;exact count_list_ints pl.isList (zA r') ⟨.int _,H,I.tok _,⟨_,rfl⟩,q⟩
theorem lA {K:PySem.W.Frag} {T name id:String} {r:V->List V->Hp->VK->Prop} {o e:Expr} {es:List Expr} {to:TE} {t:TA} {apos cpos:Pos} (h:X.K=K) (pa:PlainAttrs T) (slot:Slot T name id) (hty:typeOf (.builtin id)=pure (.type "method_descriptor")) (hm:Z_ X id r) (ho:PE X o to) (ha:PA X (e::es) t)
 (hbase:attributeBase o name X.env (eval o X.env)=eval o X.env:=by rfl)
 (hfew:((backTo cpos (starEach (e::es) X.env)).all (fun x=> !x.1)&&(backToKw cpos (keywordEach [] X.env)).all (fun x=>x.1.isSome)
   && decide ((e::es).length+([]:List Keyword).length+(if ([]:List Keyword).isEmpty then 0 else 1)<30))=true:=by rfl)
 (hline:(apos.endLine==cpos.line)=true:=by rfl) (hs:starEach (e::es) X.env=(false,eval e X.env)::starEach es X.env:=by rfl) (hplain:(backTo cpos (starEach es X.env)).any (·.1)=false:=by rfl):
 PE X (.Call (.Attribute o name apos) (e::es) [] cpos) (Ym K T r to t):=by
 subst h;exact QZ pa slot hty hm ho ha hbase hfew hline hs hplain
def SN (K:PySem.W.Frag):V->List V->Hp->VK->Prop:=fun x vs H Q=>∃(l:Addr) (ns:List Int) (i:Int),x = .ref l/\vs=[.int i]/\aZ K H l (ns.map V.int)/\Q (.int (ns.count i)) H
theorem ni {K:PySem.W.Frag} (h:X.K=K):Z_ X "list.count" (SN K):=by subst h;exact K3
theorem yq {K:PySem.W.Frag} {es:List Expr} {k:Nat} {t:Ro} {n:Nat} {pos:Pos} (hK:X.K=K) (hc:X.calm=true) (h:X5 X es t)
 (hn:(assignEach es X.env).length=n:=by rfl) (hst:(assignEach es X.env).findIdx? (·.1)=none:=by rfl):PG X (.Tuple es k pos) (Ug K n t):=by subst hK;exact S_ hc h hn hst
end
end L2
set_option Elab.async false
set_option linter.all false
set_option maxRecDepth 100000
set_option maxHeartbeats 4000000
namespace L2
open PySem
section
variable {K:PySem.W.Frag} {a D:Addr} {xs:List V} {tc:TT} {te:TE} {Q:VK} {rest:St} {H1:Hp}
theorem gn {α:Type} (f:Nat->Option α) (n:Nat):(List.range (n+1)).filterMap f=(List.range n).filterMap f++(f n).toList:=by
 rw [List.range_succ,List.filterMap_append];cases h:f n<;>simp [h]
theorem uD {α:Type} (f:Nat->Option α) (n:Nat):((List.range n).filterMap f).length<=n:=by
 have:=List.length_filterMap_le f (List.range n);simpa using this
theorem Same.newly {H H1:Hp} {D:Addr} {o:HO} (h:Same H H1) (n:H D=none):Same H (upd H1 D o):=fun b u e=>by rw [bA (aL e n)];exact h b u e
theorem eN (f:Nat->Option V) (hD:H1 D=none) (hq:aZ K H1 a xs) (hx:xs.length<=100000)
 (hs:∀i x H (G:Hp->Prop) (F:VK),xs[i]? = some x->Same H1 H->(∀H',Same H H'->f i=none->G H')->(∀y H',Same H H'->f i=some y->F y H')->tc (some x::rest) H fun b H3=>if b=true then te (some x::rest) H3 F else G H3)
 (hd:∀H,Same H1 H->H D=some (.lst ((List.range xs.length).filterMap f))->Q (.ref D) H):nQ (Rt K a) (mK 0) tc te Q D (none::rest) H1:=by
 refine wV (K:=K) (xs:=xs) (fun i σ H=>(∃v,σ=v::rest)/\Same H1 H/\H D=some (.lst ((List.range i).filterMap f))) ⟨⟨none,rfl⟩,aD hD,au⟩ (fun i σ H _ ⟨_,sm,_⟩=>sm.Yp _ _ hq) ?_ (fun σ H ⟨_,sm,e⟩=>hd H sm e);rintro i x σ H hi ⟨⟨v,rfl⟩,sm,e⟩;have hil:i<xs.length:=(List.getElem?_eq_some_iff.mp hi).1;refine hs i x H _ _ hi sm (fun H3 s3 ef=>⟨⟨_,rfl⟩,sm.trans s3,by rw [s3 _ _ e,gn,ef];simp⟩) (fun y H4 s4 ef=> ?_);refine ⟨_,s4 _ _ e, ?_,⟨_,rfl⟩,(sm.trans s4).newly hD, ?_⟩
 ·have:=uD f i
  rw [sizeLine_eq];omega
 ·rw [au,gn,ef];rfl
theorem Io (f:Nat->Option V) (hD:H1 D=none) (hq:H1 a=some (.tup xs)) (hx:xs.length<=100000)
 (hs:∀i x H (G:Hp->Prop) (F:VK),xs[i]? = some x->Same H1 H->(∀H',Same H H'->f i=none->G H')->(∀y H',Same H H'->f i=some y->F y H')->tc (some x::rest) H fun b H3=>if b=true then te (some x::rest) H3 F else G H3)
 (hd:∀H,Same H1 H->H D=some (.lst ((List.range xs.length).filterMap f))->Q (.ref D) H):nQ (Itt K a) (mK 0) tc te Q D (none::rest) H1:=by
 refine Ml (K:=K) (xs:=xs) (fun i σ H=>(∃v,σ=v::rest)/\Same H1 H/\H D=some (.lst ((List.range i).filterMap f))) ⟨⟨none,rfl⟩,aD hD,au⟩ (fun i σ H _ ⟨_,sm,_⟩=>bL.of (sm.tups _ _ hq)) ?_ (fun σ H ⟨_,sm,e⟩=>hd H sm e);rintro i x σ H hi ⟨⟨v,rfl⟩,sm,e⟩;have hil:i<xs.length:=(List.getElem?_eq_some_iff.mp hi).1;refine hs i x H _ _ hi sm (fun H3 s3 ef=>⟨⟨_,rfl⟩,sm.trans s3,by rw [s3 _ _ e,gn,ef];simp⟩) (fun y H4 s4 ef=> ?_);refine ⟨_,s4 _ _ e, ?_,⟨_,rfl⟩,(sm.trans s4).newly hD, ?_⟩
 ·have:=uD f i
  rw [sizeLine_eq];omega
 ·rw [au,gn,ef];rfl
theorem j7 {n:Nat} (f:Nat->Option V) (hD:H1 D=none) (hx:n<=100000)
 (hs:∀i H (G:Hp->Prop) (F:VK),i<n->Same H1 H->(∀H',Same H H'->f i=none->G H')->(∀y H',Same H H'->f i=some y->F y H')->tc (some (.int (0+i))::rest) H fun b H3=>if b=true then te (some (.int (0+i))::rest) H3 F else G H3)
 (hd:∀H,Same H1 H->H D=some (.lst ((List.range n).filterMap f))->Q (.ref D) H):nQ (Rr 0 n) (mK 0) tc te Q D (none::rest) H1:=by
 refine uL (lo:=0) (n:=n) (fun i σ H=>(∃v,σ=v::rest)/\Same H1 H/\H D=some (.lst ((List.range i).filterMap f))) ⟨⟨none,rfl⟩,aD hD,au⟩ ?_ (fun σ H ⟨_,sm,e⟩=>hd H sm e);rintro i σ H hi ⟨⟨v,rfl⟩,sm,e⟩;refine hs i H _ _ hi sm (fun H3 s3 ef=>⟨⟨_,rfl⟩,sm.trans s3,by rw [s3 _ _ e,gn,ef];simp⟩) (fun y H4 s4 ef=> ?_);refine ⟨_,s4 _ _ e, ?_,⟨_,rfl⟩,(sm.trans s4).newly hD, ?_⟩
 ·have:=uD f i
  rw [sizeLine_eq];omega
 ·rw [au,gn,ef];rfl
theorem wU {l1 l2:Addr} {ys:List V} {n:Nat} (hn1:xs.length=n) (hn2:ys.length=n) (f:Nat->Option V) (hD:H1 D=none) (hq1:aZ K H1 l1 xs) (hq2:aZ K H1 l2 ys) (hx:n<=100000)
 (hs:∀i x y H (G:Hp->Prop) (F:VK),xs[i]? = some x->ys[i]? = some y->Same H1 H->(∀H',Same H H'->f i=none->G H')->(∀y H',Same H H'->f i=some y->F y H')->tc (some x::some y::rest) H fun b H3=>if b=true then te (some x::some y::rest) H3 F else G H3)
 (hd:∀H,Same H1 H->H D=some (.lst ((List.range n).filterMap f))->Q (.ref D) H):nQ (Itz K l1 l2) (Ug K 2 (Lx (mK 0) (Lx (mK 1) WM))) tc te Q D (none::none::rest) H1:=by
 refine Mj (K:=K) (xs:=xs) (ys:=ys) hn1 hn2 (fun i σ H=>(∃u v,σ=u::v::rest)/\Same H1 H/\H D=some (.lst ((List.range i).filterMap f))) ⟨⟨none,none,rfl⟩,aD hD,au⟩ (fun i σ H _ ⟨_,sm,_⟩=>⟨sm.Yp _ _ hq1,sm.Yp _ _ hq2⟩) ?_ (fun σ H ⟨_,sm,e⟩=>hd H sm e);rintro i x y σ H p hix hiy ⟨⟨u,v,rfl⟩,sm,e⟩ hp;have sp:=aD (o:=HO.tup [x,y]) hp;refine ⟨p,[x,y],rfl,bL.of au,rfl,_,_,rfl,_,_,rfl,rfl, ?_⟩;have hil:i<xs.length:=(List.getElem?_eq_some_iff.mp hix).1;refine hs i x y _ _ _ hix hiy (sm.trans sp) (fun H3 s3 ef=>⟨⟨_,_,rfl⟩,(sm.trans sp).trans s3,by rw [s3 _ _ (sp _ _ e),gn,ef];simp⟩) (fun y H4 s4 ef=> ?_);refine ⟨_,s4 _ _ (sp _ _ e), ?_,⟨_,_,rfl⟩,((sm.trans sp).trans s4).newly hD, ?_⟩
 ·have:=uD f i
  rw [sizeLine_eq];omega
 ·rw [au,gn,ef];rfl
theorem j6 {α β:Type} {f g:α->Option β}:∀(l:List α) (_:True) (h:∀x∈l,f x=g x),l.filterMap f=l.filterMap g
 | [],_,_=>rfl
 | x::l,_,h=>by
   rw [List.filterMap_cons,List.filterMap_cons,h x (by simp),j6 l trivial fun y hy=>h y (by simp [hy])]
theorem snocInd {α:Type} {P:List α->Prop} (h0:P []) (hs:∀xs x,P xs->P (xs++[x])) (xs:List α):P xs:=by
 rw [←List.reverse_reverse xs]
 induction xs.reverse with
 | nil=>exact h0
 | cons x l ih=>rw [List.reverse_cons];exact hs _ _ ih
theorem sE {α β:Type} (xs:List α) (g:α->β):(List.range xs.length).filterMap (fun i=>(xs[i]?).map g)=xs.map g:=by
 refine snocInd (P:=fun xs=>(List.range xs.length).filterMap (fun i=>(xs[i]?).map g)=xs.map g) rfl (fun xs x ih=> ?_) xs
 ·show (List.range (xs++[x]).length).filterMap (fun i=>((xs++[x])[i]?).map g)=(xs++[x]).map g
  rw [List.length_append,List.length_singleton,gn,List.map_append];congr 1
  ·rw [←ih]
   refine j6 _ trivial fun i hi=> ?_;have:i<xs.length:=by simpa using hi
   rw [List.getElem?_append_left this]
  ·simp
end
end L2
namespace L2
open PySem
section
variable {X:Cx} {K:PySem.W.Frag}
theorem zV (h:X.K=K):lR X (binaryOp .Add) (QV K):=by subst h;exact Ox
end
end L2
namespace L2
open PySem
theorem yd {a b:TS} {D:Ends} {σ:St} {H:Hp} (P:St->Hp->Prop) (h1:∀D':Ends,(∀σ' H',P σ' H'->D'.nx σ' H')->D'.rt=D.rt->a D' σ H) (h2:∀σ' H',P σ' H'->b D σ' H'):RB a b D σ H:=h1 _ h2 rfl
end L2
namespace L2
open PySem PySem.Spec PyProof.Rows
section
variable {X:Cx} {K:PySem.W.Frag} {a:Expr} {ta:TE} {pos:Pos}
def aan (K:PySem.W.Frag) (ta:TE):TT:=fun σ H Q=>ta σ H fun x H'=>∃k,Qt K x H' k/\Q k H'
def Vl (K:PySem.W.Frag) (ta:TE):TE:=fun σ H Q=>ta σ H fun x H'=>∃k,Qt K x H' k/\Q (.bl (!k)) H'
theorem m9 (h:X.K=K) (ha:PE X a ta) (he:∀whole,isTrue a X.env whole=(do let v ←whole;standAt a.pos;holding [v] (truthy v)):=by intro _;rfl):PT X a (aan K ta):=by
 subst h;exact J3 ha he
theorem Om (h:X.K=K) (ha:PE X a ta):PE X (.UnaryOp .Not a pos) (Vl K ta):=by
 subst h;intro pins s σ H Q I h;refine UnaryOp_ (cF (ha pins s σ H _ I h) fun v s1 ⟨x,H1,I1,r1,q1⟩=> ?_);obtain ⟨k,e,q1⟩:=q1;exact not_of (cF (Jx pins s1 σ H1 x v (fun b H=>Q (.bl (!b)) H) I1 r1 ⟨k,e,q1⟩) fun b s2 ⟨H2,I2,q2⟩=>⟨.bl (!b),H2,I2,rfl,q2⟩)
end
end L2
set_option Elab.async false
set_option linter.all false
set_option maxRecDepth 100000
set_option maxHeartbeats 4000000
namespace L2
open PySem PySem.Spec PyProof.Rows
section
variable {X:Cx} {K:PySem.W.Frag}
def aa6:R2:=fun x y H Q=>∃a b,x = .bl a/\y = .bl b/\Q (.bl (a==b)) H
def VF:R2:=fun x y H Q=>∃a b,x = .bl a/\y = .bl b/\Q (.bl (!(a==b))) H
theorem Tf:lR X (compareOp .Is) aa6:=by
 intro pins s σ H x y v u Q I rx ry h;obtain ⟨a,b,rfl,rfl,q⟩:=h;cases rx;cases ry;exact is_bool (bK I q rfl)
theorem yr:lR X (compareOp .IsNot) VF:=by
 intro pins s σ H x y v u Q I rx ry h;obtain ⟨a,b,rfl,rfl,q⟩:=h;cases rx;cases ry;exact isnot_bool (bK I q rfl)
end
section
variable {K:PySem.W.Frag} {a D:Addr} {xs:List V} {te:TE} {Q:VK} {rest:St} {H1:Hp}
theorem wN {H:Hp} {vs:List V} {ds:List PyData} {v:V} {d:PyData} (h:aF H vs ds) (hd:Dat H v d):aF H (vs++[v]) (ds++[d]):=aF.append h (by simp only [aF,and_true];exact hd)
end
end L2
set_option Elab.async false
set_option linter.all false
namespace L2
open PySem
def Gv (mg:Str->Option Value) (x:Str) (v:V):Prop:=∃u,mg x=some u/\RelV v u
end L2
set_option Elab.async false
set_option linter.all false
set_option maxRecDepth 100000
set_option maxHeartbeats 4000000
namespace L2
open PySem PySem.Spec PyProof.Rows
section
variable {prog:Program} {w:World} {K:Type} [DecidableEq K] {knd:HeapKind prog w K}
theorem DY {xs:List (K×Addr×Value)} {k:K} (h:∀(j:Nat) (p:Addr×Value),xs[j]? ≠ some (k,p)):atKey xs k=none:=by
 unfold atKey;rw [Option.map_eq_none_iff,List.find?_eq_none];intro x hx e;obtain ⟨j,hj⟩:=List.getElem?_of_mem hx;have e':x.1=k:=of_decide_eq_true e;exact h j x.2 (by rw [hj,←e'])
theorem DX {xs:List (K×Addr×Value)} {k:K} {j:Nat} {p:Addr×Value} (hn:(xs.map (·.1)).Nodup) (h:xs[j]? = some (k,p)):atKey xs k=some p:=by
 unfold atKey
 induction xs generalizing j with
 | nil=>cases h
 | cons x xs ih=>
   rw [List.find?_cons];cases j with
   | zero=>
     have:x=(k,p):=by simpa using h
     subst this;simp
   | succ j=>
     have hj:xs[j]? = some (k,p):=by simpa using h
     have hn':=List.nodup_cons.mp (by simpa using hn:(x.1::xs.map (·.1)).Nodup);have ne:¬x.1=k:=fun z=>hn'.1 (by rw [z];exact List.mem_map.mpr ⟨(k,p),List.mem_of_getElem? hj,rfl⟩);rw [decide_eq_false ne];exact ih hn'.2 hj
theorem nF {A:Around} {E:Value->Shared->Prop} {s:Shared} {d a:Addr} {xs:List (K×Addr×Value)} {k:K} {dflt:Value} {Q:Value->Shared->Prop}
 (hr:knd.room A) (hk:knd.is s.heap k a) (dd:Heap.DictOfH knd s.heap d xs) (hz:xs.length<=sizeLine)
 (h1:∀p,atKey xs k=some p->Q p.2 {s with toks:=s.toks+knd.draws k})
 (h2:atKey xs k=none -> ∀h',Heap.DictOfH knd h' d (xs++[(k,a,dflt)])->Heap.SameBut d s.heap h'->Q dflt {s with heap:=h',toks:=s.toks+knd.draws k}):
 wpAny (model prog w) A (dictSetDefault d (.ref a) dflt) Q E s:=by
 unfold dictSetDefault;refine wpAny_holding (wpAny_bind (knd.pyHash hr hk ?_));obtain ⟨o,es,ep,ho,hx,hd,he,hi,hn⟩:=id dd;have hl:es.size=xs.length:=by rw [←Array.length_toList,he,List.length_map]
 refine wpAny_bind (wpAny_dictFind_heap (s:={s with toks:=s.toks+knd.draws k}) hr hk ho hd he hi hn (fun hno=> ?_) (fun j p hj=> ?_))
 ·refine wpAny_bind (wpAny_rule ?_)
  have an:=DY hno;refine wpAny_bind (wpAny_updateDictKeys (s:={s with toks:=s.toks+knd.draws k}) ho hd ?_ (by omega) (by simp));refine wpAny_pure ?_;have sb:=Heap.SameBut.update s.heap d (Obj.mapDictKeys fun x=>x.push {hash:=knd.hash k,key:= .ref a,val:=dflt});refine h2 an _ ?_ sb;obtain ⟨oc,od,aiZ,osl⟩:=o;simp only at hd;subst hd;refine ⟨_,es.push {hash:=knd.hash k,key:= .ref a,val:=dflt},ep+1,Heap.get?_update_self _ ho ?_,hx,rfl, ?_, ?_, ?_⟩
  ·obtain ⟨c1,c2,c3⟩:=hx
   simp only at c1;subst c1;rfl
  ·rw [Array.toList_push,he,List.map_append];rfl
  ·intro x Rc
   rcases List.mem_append.mp Rc with Rc|Rc
   ·exact knd.keeps (hi x Rc) ho rfl sb
   ·have:x=(k,a,dflt):=by simpa using Rc
    subst this;exact knd.keeps hk ho rfl sb
  ·rw [List.map_append]
   refine List.nodup_append.mpr ⟨hn,by simp, ?_⟩;intro y hy z hz' e;have:z=k:=by simpa using hz'
   subst this;subst e;obtain ⟨x,hx',rfl⟩:=List.mem_map.mp hy;obtain ⟨j,hj⟩:=List.getElem?_of_mem hx';exact hno j x.2 hj
 ·refine wpAny_bind (wpAny_dictEntries (s:={s with toks:=s.toks+knd.draws k}) ho hd ?_)
  have ej:es[j]? = some (entryOfKey knd (k,p)):=by
   rw [←Array.getElem?_toList,he,List.getElem?_map,hj];rfl
  rw [ej];exact wpAny_bind (wpAny_rule (wpAny_pure (h1 p (DX hn hj))))
theorem pB (knd:HeapKind prog w K) (d a:Addr) (hd:(d==sysModules)=false) (dflt:Value):MeetsIn prog w (Builtin.«dict.setdefault» {pos:=[.ref d,.ref a,dflt]}) fun A R s=>
 knd.room A.in1 /\ ∃k xs,knd.is s.heap k a/\Heap.DictOfH knd s.heap d xs/\xs.length<=sizeLine/\(∀p,atKey xs k=some p->R (.ok (.ret p.2)) {s with toks:=s.toks+knd.draws k}) /\
  (atKey xs k=none -> ∀h',Heap.DictOfH knd h' d (xs++[(k,a,dflt)])->Heap.SameBut d s.heap h'->R (.ok (.ret dflt)) {s with heap:=h',toks:=s.toks+knd.draws k}):=by
 rintro A R s ⟨hr,k,xs,hk,dd,hz,h1,h2⟩;obtain ⟨o,es,ep,ho,hx,hdat,_⟩:=id dd;unfold Builtin.«dict.setdefault»;have ht:s.TypeIs (.ref d) "dict" :=⟨o,ho,hx.1⟩;refine wpAny_bind ?_;unfold Builtin.Dict.keyAndDefault;refine wpAny_bind ?_;unfold Builtin.Dict.notOrdered;rw [if_pos (by decide)];refine wpAny_bind (wpAny_typeOf ht ?_);rw [if_neg (by decide)];refine wpAny_pure ?_;refine wpAny_bind ?_;unfold Builtin.Dict.nameIsSure;rw [if_neg (by show ¬(false=true);decide)];refine wpAny_pure ?_;refine wpAny_bind ?_;unfold selfAndSome noKeywords;refine wpAny_bind ?_;rw [if_pos (by rfl)];refine wpAny_pure ?_;show wpAny (model prog w) A.in1 (checkCount "setdefault" 1 2 2 >>= fun _=>pure (Value.ref d,[Value.ref a,dflt])) _ _ s;refine wpAny_bind ?_;have ck:checkCount "setdefault" 1 2 2=pure ():=rfl;rw [ck];refine wpAny_pure (wpAny_pure ?_);show wpAny (model prog w) A.in1 (Builtin.Dict.addrOf (.ref d) >>= fun x=>pure (x,Value.ref a,some dflt)) _ _ s;refine wpAny_bind (wpAny_pure (wpAny_pure ?_));show wpAny (model prog w) A.in1 (if (d==sysModules)=true then _ else (dictSetDefault d (.ref a) dflt >>= fun v=>ret v)) _ _ s;rw [if_neg (by rw [hd];decide)];refine wpAny_bind (nF hr hk dd hz (fun p hp=>wpAny_pure (h1 p hp)) (fun hn h' Mf sb=>wpAny_pure (h2 hn h' Mf sb)))
end
section
variable {X:Cx} {o e f:Expr} {td ty tx:TE} {apos cpos:Pos}
def RK (td ty tx:TE):TE:=fun σ H Q=>td σ H fun x H1=>∃a,x = .ref a/\IsD H1 a/\ty σ H1 fun y H2=>tx σ H2 fun z H3=>∃kvs k b,H3 a=some (.dT kvs)/\y = .ref b/\H3 b=some (.tup (k.map kV))/\kvs.length<sizeLine /\
 (∀v,cD kvs k=some v->Q v H3)/\(cD kvs k=none->Q z (upd H3 a (.dT (putK kvs k z))))
theorem Kd (hu:X.A.units+1<cLine) (ho:PE X o td) (he:PE X e ty) (hf:PE X f tx) (m:M2 X o "setdefault" apos e f cpos):PE X (.Call (.Attribute o "setdefault" apos) [e,f] [] cpos) (RK td ty tx):=by
 intro pins s σ H Q I h;refine wpAny_Call_method m.base m.few m.line PySem.F.plainAttrs_dict PySem.F.slot_dict_setdefault PySem.F.type_dict_setdefault (cF (ho pins s σ H _ I h) fun u s1 ⟨x,H1,I1,rx,a,ex,d,q1⟩=> ?_);subst ex;obtain rfl:u=Value.ref a:=rx;obtain ⟨t1,t2,_⟩:=Dk I1 d;refine ⟨t1,t2, ?_⟩;rw [m.trees]
 refine Calls.callWith_builtin rfl (Calls.evalArgs_plain (Calls.spliced_cons (cF (he pins s1 σ H1 _ I1 q1) fun iv s2 ⟨y,H2,I2,ry,q2⟩=>
  Calls.spliced_cons (cF (hf pins s2 σ H2 _ I2 q2) fun fv s3 ⟨z,H3,I3,rz,kvs,k,b,ea,ey,eb,hl,q3,q4⟩=>Calls.spliced_nil ?_))))
 subst ey;cases (show iv=Value.ref b from ry);obtain ⟨hz,hd,xs,rel,dd⟩:=Ri I3.hok ea;have hz':xs.length<=sizeLine:=by rw [←Paired.length rel];exact hz
 have rv:=rel.val k;refine call_meetsIn PySem.F.slot_dict_setdefault dd.typeIs PySem.F.entry_dict_setdefault (PySem.F.args_dict_setdefault_3 _ _ _) (pB (tupleKind (bD X.prog X.w)) a b hd fv) ⟨tupleKind_room_in1 hu,k,xs,lD I3.hok eb,dd,hz',fun p hp=> ?_,fun hn h' Mf sb=> ?_⟩
 ·rw [hp] at rv
  cases lv:cD kvs k with
  | none=>rw [lv] at rv;exact absurd rv (by simp [oE])
  | some v=>
    rw [lv] at rv;exact ⟨v,H3,I3.tok _,rv,q3 v lv⟩
 ·rw [hn] at rv
  have lv:cD kvs k=none:=by
   cases lv:cD kvs k with
   | none=>rfl
   | some v=>rw [lv] at rv;exact absurd rv (by simp [oE])
  have hl':(putK kvs k z).length<=sizeLine:=by have:=dG kvs k z;omega
  obtain ⟨q,es,ep,hq,h2,h3,h4,_,h5⟩:=Mf;have est:storedH xs k b fv=xs++[(k,b,fv)]:=by unfold storedH;rw [hn];rfl
  have rp:=rel.put k eb rz;rw [est] at rp;refine ⟨z,upd H3 a (.dT (putK kvs k z)),pN (ob:= .dT (putK kvs k z)) I3 (by rw [ea];exact True.intro) sb ⟨q,hq⟩ ⟨hl',hd,_,rp.keeps fun c ys ec=> ?_,q,es,ep,hq,h2,h3,h4,h5⟩,rz,q4 lv⟩;rw [bA (iK ec ea (fun z=>nomatch z))];exact ec
end
end L2
namespace L2
open PySem PySem.Spec PyProof.Rows
section
variable {X:Cx} {K:PySem.W.Frag}
def VJ (K:PySem.W.Frag):V->V->Hp->VK->Prop:=fun x y H Q=>∃p xs i v,x = .ref p/\y = .int i/\aZ K H p xs/\0<=i/\xs[i.toNat]? = some v/\Q v H
theorem tU (h:X.K=K):X6 X (VJ K):=by
 subst h;intro pins s σ H o i ov iv Q I ro ri h;obtain ⟨p,xs,k,v,rfl,rfl,hq,k0,he,q⟩:=h;cases ro;obtain ⟨t,rfl⟩:=ri;obtain ⟨its,r,pl,hz⟩:=I.list hq;obtain ⟨w,ew,rw'⟩:=r.get he;have hl:=r.length;have hn:=mJ;have:k.toNat<xs.length:=(List.getElem?_eq_some_iff.mp he).1;exact getItem_listL pl.isList k0 (by omega) ew ⟨v,H,I,rw',q⟩
end
end L2
namespace L2
open PySem
theorem Ax {K:PySem.W.Frag} {T:String} {r:V->List V->Hp->VK->Prop} {to:TE} {t:TA} {D:Ends} {σ:St} {H:Hp} (P:V->Hp->Prop) (h1:∀Q':VK,(∀v H',P v H'->Q' v H')->to σ H Q') (h2:∀v H',P v H'->tyV K T v H'/\t σ H' fun xs H2=>r v xs H2 fun _ H3=>D.nx σ H3):QK (Ym K T r to t) D σ H:=h1 _ h2
end L2
set_option Elab.async false
set_option linter.all false
set_option maxRecDepth 100000
set_option maxHeartbeats 4000000
namespace L2
open PySem PySem.Spec PyProof.Rows
section
variable {X:Cx} {K:PySem.W.Frag}
end
def cat:List Str->Str
 | []=>Str.empty
 | x::xs=>x++cat xs
end L2
set_option Elab.async false
set_option linter.all false
set_option maxRecDepth 100000
set_option maxHeartbeats 4000000
namespace L2
open PySem PySem.Spec PyProof.Rows
section
variable {X:Cx} {body suite:List Stmt} {b0:Stmt} {cn:Str} {Dc:Addr} {tb:(St->XK)->TS} {th:TS} {cp hpos pos:Pos}
end
end L2
namespace L2
open PySem PySem.Spec PyProof.Rows
section
variable {X:Cx}
def Yg (i j:Int):Prop:=0<j/\j<1329227995784915872903807060280344576
theorem Km:lR X (binaryOp .FloorDiv) (rI Yg fun i j=> .int (i / j)):=V1 fun i j _ _ _ _ _ hc q=>by
 have h1:(0:Int)<j:=hc.1;have h2:j<1329227995784915872903807060280344576:=hc.2;refine floordiv_int (by omega) (by rw [Int.fdiv_eq_ediv_of_nonneg i (by omega)];exact q) (.inl ?_);unfold Builtin.divisionGoesByPylong;have hn:j.natAbs<2 ^ 120:=by omega
 have hl:j.natAbs.log2<120:=(Nat.log2_lt (by omega)).mpr hn
 have hz:(j==0)=false:=by
  rw [beq_eq_false_iff_ne];omega
 simp only [hz,Bool.false_eq_true,if_false];have:¬j.natAbs.log2 / 30+1>300:=by omega
 rw [decide_eq_false this,Bool.false_and]
end
end L2
set_option Elab.async false
set_option linter.all false
set_option maxRecDepth 100000
set_option maxHeartbeats 4000000
namespace L2
open PySem PySem.Spec PyProof.Rows
section
variable {X:Cx} {pins:List (Addr×Obj)} {σ:St} {H:Hp} {s:Shared} {d:Addr} {u u':HO}
theorem Inv.EY (I:Inv X pins σ H s) (e:H d=some u) (h1:∀xs,u ≠ .tup xs) (h2:∀a,u ≠ .own a) (h3:∀ps,u ≠ .QJ ps) (hz:∀o v,X.H₀ d≠some (.iV o v)) (ok:bY X.prog X.w (upd H d u') s.heap d u'):Inv X pins σ (upd H d u') s:=by
 have nd:∀{b:Addr},H b=none->b≠d:=fun q z=>by rw [z,e] at q;cases q
 have ht:∀b xs,H b=some (HO.tup xs)->(upd H d u') b=some (HO.tup xs):=fun b xs q=>by
  have:b≠d:=fun z=>by rw [z,e] at q;exact h1 xs (Option.some.inj q)
  rw [bA this];exact q
 refine ⟨I.ok,I.os,I.bare,⟨I.base.keep,I.base.slot,fun b o q n hx=> ?_,I.base.there,fun b xs q=>ht b xs (I.base.tups b xs q),fun b o v q=> ?_,fun b ps q=> ?_⟩,I.loc,I.cell, ?_,fun x c q=> ?_,fun p hp=> ?_,fun b v q=> ?_,I.len⟩
 ·have:=I.base.free b o q n hx
  rw [bA (nd this)];exact this
 ·have:=I.base.qF b o v q
  have nb:b≠d:=fun z=>by rw [z] at q;exact hz o v q
  rw [bA nb];exact this
 ·obtain ⟨more,r⟩:=I.base.vB b ps q
  have nb:b≠d:=fun z=>by rw [z,e] at r;exact h3 _ (Option.some.inj r)
  exact ⟨more,by rw [bA nb];exact r⟩
 ·rw [bA (nd I.free)];exact I.free
 ·rw [bA (nd (I.lN x c q))];exact I.lN x c q
 ·obtain ⟨q1,q2,q3⟩:=I.pin p hp
  exact ⟨q1,by rw [bA (nd q2)];exact q2,q3⟩
 ·by_cases hb:b=d
  ·subst hb
   rw [au] at q;cases q;exact ok
  ·rw [bA hb] at q
   refine (I.hok b v q).stay (fun _ _ _ r=>r) (fun c r=> ?_) ht;have:c≠d:=fun z=>by rw [z,e] at r;exact h2 _ (Option.some.inj r)
   rw [bA this];exact r
theorem Inv.Q7 {kvs:List (Key×V)} (I:Inv X pins σ H s) (e:H d=some (.dK kvs)):∀o v,X.H₀ d≠some (.iV o v):=fun o v q=>by
 have:=I.base.qF d o v q;rw [e] at this;cases this
theorem Inv.freeze {kvs:List (Key×V)} {o:Obj} (I:Inv X pins σ H s) (e:H d=some (.dK kvs)) (ho:s.heap.get? d=some o):Inv X pins σ (upd H d (.iV o (.dK kvs))) s:=by
 refine I.EY e (fun _ z=>by cases z) (fun _ z=>by cases z) (fun _ z=>by cases z) (I.Q7 e) ⟨ho, ?_⟩;obtain ⟨z,y,vs,r,dd⟩:=(show bY X.prog X.w H s.heap d (.dK kvs) from I.hok d _ e);exact ⟨z,y,vs,r,dd⟩
theorem Inv.aal {kvs:List (Key×V)} {o:Obj} (I:Inv X pins σ H s) (e:H d=some (.iV o (.dK kvs))) (hz:∀o v,X.H₀ d≠some (.iV o v)):Inv X pins σ (upd H d (.dK kvs)) s:=by
 refine I.EY e (fun _ z=>by cases z) (fun _ z=>by cases z) (fun _ z=>by cases z) hz ?_;obtain ⟨_,z,y,vs,r,dd⟩:=(show bY X.prog X.w H s.heap d (.iV o (.dK kvs)) from I.hok d _ e);exact ⟨z,y,vs,r,dd⟩
end
def Yc (d:Addr) (o:Obj) (kvs:List (Key×V)):It:=
 ⟨fun i H=>i<kvs.length/\H d=some (.iV o (.dK kvs)),fun i H x H'=>H'=H /\ ∃k v,kvs[i]? = some (k,v)/\x=kV k,fun i H=>kvs.length<=i/\H d=some (.iV o (.dK kvs))⟩
theorem TQ {kvs:List (Key×V)} {vs:List (Key×Value)} (r:KV kvs vs):∀(i:Nat) (k:Key) (v:V),kvs[i]? = some (k,v) -> ∃u,vs[i]? = some (k,u):=by
 induction r with
 | nil=>intro i k v h;cases h
 | cons h r ih=>
   intro i k v e;cases i with
   | zero=>
     have e':=Option.some.inj e;rename_i p q _ _;obtain ⟨h1,h2⟩:=h;obtain ⟨q1,q2⟩:=q;refine ⟨q2, ?_⟩;have:q1=k:=by rw [e'] at h1;exact h1.symm
     subst this;rfl
   | succ i=>exact ih i k v (by simpa using e)
theorem Gx {P:Program} {w:World} {K:PySem.W.Frag} {tg:Expr} (d it:Addr) (o:Obj) (kvs:List (Key×V)) (es:Array DictEntry) (ep:Nat) (hd:o.data = .dict es ep):Turn P w K tg (Yc d o kvs) [it] it (fun i h=>h.IsKeyIter it d i kvs.length ep) where
 mem:=by simp
 obj:=fun i h st b hb=>by
  have e:b=it:=by simpa using hb
  subst e;obtain ⟨o,e,c,d⟩:=st;exact ⟨o,e,fun v z=>by rw [d] at z;cases z⟩
 keep:=fun i h h' st k=>by
  obtain ⟨o,e,c,d⟩:=st;exact ⟨o,k it (by simp) o e,c,d⟩
 item:=by
  intro X hP hw hK hc i pins s σ H E I hf st hg;subst hP hw hK;obtain ⟨hi,hH⟩:=hg;obtain ⟨ho,z,y,vs,r,o',es',ep',q1,q2,q3,q4,q5,q6⟩:=(show bY X.prog X.w H s.heap d (.iV o (.dK kvs)) from I.hok d _ hH);rw [ho] at q1;cases q1;rw [hd] at q3;cases q3;have hl:kvs.length=vs.length:=r.length;obtain ⟨k,v,WY⟩:∃k v,kvs[i]? = some (k,v):=⟨kvs[i].1,kvs[i].2,by simp [hi]⟩;obtain ⟨u,eu⟩:=TQ r i k v WY;obtain ⟨f0,f1,f2,f3,f4,f5⟩:=hf it (by simp);refine wpAny_pyNext_dict_item (knd:=bD X.prog X.w) (by rw [←hl];exact st) ⟨o,es,ho,q2,hd,q4,q5,q6⟩ eu fun key h' hk st' sb=> ?_;have I1:Inv X pins σ H {s with heap:=h'}:=I.turned (t':=s.toks) (fun b o hb e=>(sb.2 b hb).trans e) f0 f1 f3 f4 f5;obtain ⟨ob,e,c,dd⟩:=id st'
  have rk:RelV (kV k) key:=by
   rw [Df] at hk;rcases cV hk with ⟨j,t,e1,e2⟩|⟨x,t,e1,e2⟩
   ·subst e1;subst e2;exact ⟨t,rfl⟩
   ·subst e1;subst e2;exact ⟨t,rfl⟩
  exact ⟨key,rfl,wM (s:={s with heap:=h'}) e c dd (by decide) ⟨kV k,H,I1,rk,⟨rfl,k,v,WY,rfl⟩,by rw [hl];exact st',fun b hb=>(hf b hb).1⟩⟩
 done:=by
  intro X hP hw hK hc i pins s σ H E I hf st hg;subst hP hw hK;obtain ⟨hi,hH⟩:=hg;obtain ⟨ho,z,y,vs,r,o',es',ep',q1,q2,q3,q4,q5,q6⟩:=(show bY X.prog X.w H s.heap d (.iV o (.dK kvs)) from I.hok d _ hH);rw [ho] at q1;cases q1;rw [hd] at q3;cases q3;have hl:kvs.length=vs.length:=r.length;obtain ⟨f0,f1,f2,f3,f4,f5⟩:=hf it (by simp);exact wpAny_pyNext_dict_end (knd:=bD X.prog X.w) (I.ok.hd hc) (by rw [←hl];exact st) ⟨o,es,ho,q2,hd,q4,q5,q6⟩ (by simp;omega) fun h' eb=>⟨rfl,I.turned (t':=s.toks) (fun b o hb e=>eb b o hb e) f0 f1 f3 f4 f5⟩
 self:=fun _ _ _ _ _ st h=>wpAny_pyIter_keyiter st h
section
variable {X:Cx} {tg:Expr}
def Wm (tl:TE):TI:=fun σ H R=>tl σ H fun x H1=>∃d kvs,x = .ref d/\H1 d=some (.dK kvs) /\ ∀o,R (Yc d o kvs) (upd H1 d (.iV o (.dK kvs)))
theorem Ol {l:Expr} {tl:TE} (hl:PE X l tl):PI X tg l (Wm tl):=by
 intro pins s σ H R I h;refine cF (hl pins s σ H _ I h) fun v s1 ⟨x,H1,I1,r1,q1⟩=> ?_;obtain ⟨d,kvs,e,hH,q⟩:=q1;subst e;cases r1;obtain ⟨z,hd,vs,r,o,es,ep,ho,q2,q3,q4,q5,q6⟩:=FW I1.hok hH;refine wpAny_pyIter_dict (knd:=bD X.prog X.w) hd ⟨o,es,ho,q2,q3,q4,q5,q6⟩ ?_;have If:=I1.freeze hH ho;have hl:kvs.length=vs.length:=r.length
 have Pa:(upd H1 d (HO.iV o (.dK kvs))) s1.heap.objs.size=none:=by
  rw [bA (Ne.symm (Nat.ne_of_lt (Heap.lt_size ho)))];exact I1.hok.fresh (Nat.le_refl _)
 refine ⟨s1.heap.objs.size,[s1.heap.objs.size],_,_,upd H1 d (.iV o (.dK kvs)),rfl,If.kept (t':=s1.toks) fun b o e=>Heap.get?_push_of_some _ e,Gx d _ o kvs es ep q3,⟨_,Heap.get?_push_size _ rfl,rfl,by rw [hl];rfl⟩,fun b hb=> ?_,q o⟩;have e:b=s1.heap.objs.size:=by simpa using hb
 subst e;exact If.uy (Nat.le_refl _) Pa
end
section
variable {d D:Addr} {o:Obj} {kvs:List (Key×V)} {tc:TT} {te:TE} {Q:VK} {rest:St} {H1:Hp}
end
def ag7 (H H' QB:Hp):Prop:=∃d K_ o kvs,H d=some (.dK K_)/\H' d=some (.iV o (.dK kvs))/\QB=upd H' d (.dK kvs)
def Vt (t:TS):TS:=fun D σ H=>t {D with nx:=fun σ' H'=>∃QB,ag7 H H' QB/\D.nx σ' QB} σ H
theorem Oe {X:Cx} {st:Stmt} {t:TS} (h:PS X st t):PS X st (Vt t):=by
 intro pins s σ H D I q;refine wpAny_mono (h pins s σ H _ I q) (fun f s1 q1=> ?_) fun _ _ z=>z;cases f with
 | next=>
   obtain ⟨σ1,H1,I1,H2,⟨d,K_,o,kvs,e1,e2,rfl⟩,q2⟩:=q1;exact ⟨σ1,_,I1.aal e2 (I.Q7 e1),q2⟩
 | brk=>exact q1
 | cont=>exact q1
 | ret u=>exact q1
end L2
set_option Elab.async false
set_option linter.all false
set_option maxRecDepth 100000
set_option maxHeartbeats 4000000
namespace L2
open PySem PySem.Spec PyProof.Rows
theorem Lz {d:Addr} {o:Obj} {kvs:List (Key×V)} {g:TG} {tb:TS} {D:Ends} {σ:St} {H:Hp} (Pv:Nat->St->Hp->Prop) (h0:Pv 0 σ H) (hl:∀i σ H,i<=kvs.length->Pv i σ H->H d=some (.iV o (.dK kvs)))
 (hs:∀i k v σ H,kvs[i]? = some (k,v)->Pv i σ H->g (kV k) σ H fun σ2 H2=>tb {D with nx:=Pv (i+1),ct:=Pv (i+1),bk:=D.nx} σ2 H2) (hd:∀σ H,Pv kvs.length σ H->D.nx σ H):
 ∃W:Nat->Nat->St->Hp->Prop,(∃m,W 0 m σ H) /\ ∀i m σ H,W i m σ H ->
  ((Yc d o kvs).stop i H/\D.nx σ H)\/((Yc d o kvs).go i H /\ ∃N:St->Hp->Prop,(∀σ' H',N σ' H' -> ∃m',m'<m/\W (i+1) m' σ' H') /\ ∀x H',(Yc d o kvs).Nk i H x H'->g x σ H' fun σ2 H2=>tb {D with nx:=N,ct:=N,bk:=D.nx} σ2 H2):=by
 refine ⟨fun i m σ H=>m=kvs.length - i/\i<=kvs.length/\Pv i σ H,⟨kvs.length,by simp,Nat.zero_le _,h0⟩, ?_⟩;rintro i m σ H ⟨rfl,hi,p⟩;have q:=hl i σ H hi p
 by_cases hlt:i<kvs.length
 ·refine .inr ⟨⟨hlt,q⟩,Pv (i+1),fun σ' H' p'=>⟨kvs.length - (i+1),by omega,rfl,hlt,p'⟩,fun x H' y=> ?_⟩
  obtain ⟨rfl,k,v,e,rfl⟩:=y;exact hs i k v σ _ e p
 ·have e:i=kvs.length:=by omega
  subst e;exact .inl ⟨⟨Nat.le_refl _,q⟩,hd σ H p⟩
def vO (hs:List Int) (g:Int->Int):List (Key×V):=hs.map fun h=>(Sum.inl h,V.int (g h))
theorem yD {hs:List Int} {g:Int->Int}:∀(h:Int),cD (vO hs g) (Sum.inl h)=if h∈hs then some (V.int (g h)) else none:=by
 intro h
 induction hs with
 | nil=>rfl
 | cons x hs ih=>
   show cD ((Sum.inl x,V.int (g x))::vO hs g) _=_
   by_cases e:x=h
   ·subst e
    rw [dU rfl,if_pos (List.mem_cons_self ..)]
   ·rw [dW (fun z=>e (Sum.inl.inj z)),ih]
    by_cases m:h∈hs
    ·rw [if_pos m,if_pos (List.mem_cons_of_mem _ m)]
    ·rw [if_neg m,if_neg (fun z=>(List.mem_cons.mp z).elim (fun z=>e z.symm) m)]
def Av (g:Int->Int) (h v:Int):Int->Int:=fun x=>if x=h then v else g x
def hAdd (hs:List Int) (h:Int):List Int:=if h∈hs then hs else hs++[h]
theorem Pn {hs:List Int} {g:Int->Int} (h v:Int):putK (vO hs g) (Sum.inl h) (V.int v)=vO (hAdd hs h) (Av g h v):=by
 unfold putK hAdd;rw [jX,yD]
 by_cases m:h∈hs
 ·rw [if_pos m,Option.isSome_some,if_pos rfl,if_pos m]
  unfold vO;rw [List.map_map];refine List.map_congr_left fun x _=> ?_;simp only [Function.comp,Av]
  by_cases e:x=h
  ·subst e;simp
  ·rw [if_neg (fun z=>e (Sum.inl.inj z)),if_neg e]
 ·rw [if_neg m,if_neg (by simp),if_neg m]
  unfold vO;rw [List.map_append];congr 1
  ·refine List.map_congr_left fun x hx=> ?_
   have:x≠h:=fun z=>m (z▸hx);simp only [Av,if_neg this]
  ·simp [Av]
theorem uc:∀(n:Nat) (hs:List Int),hs.Nodup->(∀h∈hs,0<=h/\h<(n:Int))->hs.length<=n
 | 0,hs,_,hr=>by
   cases hs with
   | nil=>exact Nat.le_refl _
   | cons x hs=>have:=hr x (List.mem_cons_self ..);omega
 | n+1,hs,nd,hr=>by
   have ih:=uc n (hs.erase (n:Int)) (nd.erase _) fun h hh=>by
    have h1:=(nd.mem_erase_iff).mp hh;have h2:=hr h h1.2;have:=h1.1;omega
   by_cases m:(n:Int)∈hs
   ·rw [List.length_erase_of_mem m] at ih;omega
   ·rw [List.erase_of_not_mem m] at ih;omega
theorem PN {hs:List Int} {h:Int} (nd:hs.Nodup):(hAdd hs h).Nodup:=by
 unfold hAdd
 by_cases m:h∈hs
 ·rw [if_pos m];exact nd
 ·rw [if_neg m]
  rw [List.nodup_append];exact ⟨nd,by simp,fun a ha b hb e=>by simp at hb;subst hb;subst e;exact m ha⟩
theorem ur {hs:List Int} {h x:Int}:x∈hAdd hs h↔x∈hs\/x=h:=by
 unfold hAdd
 by_cases m:h∈hs
 ·rw [if_pos m]
  exact ⟨.inl,fun z=>z.elim id fun e=>e▸m⟩
 ·rw [if_neg m];simp
structure iY (H:Hp) (d:Addr) (g:Int->Int):Prop where
 ex:∃hs:List Int,H d=some (.dK (vO hs g))/\hs.Nodup/\(∀h∈hs,0<=h/\h<8) /\ ∀h,h∉hs->g h=0
 nn:∀h,0<=g h
theorem iY.get {H:Hp} {d:Addr} {g:Int->Int} (k:iY H d g):∃kvs,H d=some (.dK kvs)/\kvs.length<=8 /\ ∀h:Int,(cD kvs (Sum.inl h)).getD (.int 0) = .int (g h):=by
 obtain ⟨hs,e,nd,r,z⟩:=k.ex;refine ⟨_,e,by rw [vO,List.length_map];exact uc 8 hs nd r,fun h=> ?_⟩;rw [yD]
 by_cases m:h∈hs
 ·rw [if_pos m];rfl
 ·rw [if_neg m,z h m];rfl
theorem iY.put {H:Hp} {d:Addr} {g:Int->Int} {h v:Int} (k:iY H d g) (h0:0<=h) (h1:h<8) (v0:0<=v):∃kvs,H d=some (.dK kvs)/\kvs.length<sizeLine /\ ∀H',H' d=some (.dK (putK kvs (Sum.inl h) (.int v)))->iY H' d (Av g h v):=by
 obtain ⟨hs,e,nd,r,z⟩:=k.ex;refine ⟨_,e, ?_,fun H' e'=>⟨⟨hAdd hs h,by rw [e',Pn],PN nd,fun x hx=> ?_,fun x hx=> ?_⟩,fun x=> ?_⟩⟩
 ·have:=uc 8 hs nd r
  rw [vO,List.length_map,sizeLine_eq];omega
 ·rcases ur.mp hx with hx|rfl
  ·exact r x hx
  ·exact ⟨h0,h1⟩
 ·have n1:x∉hs:=fun z=>hx (ur.mpr (.inl z))
  have n2:x≠h:=fun z=>hx (ur.mpr (.inr z));unfold Av;rw [if_neg n2];exact z x n1
 ·unfold Av
  split
  ·exact v0
  ·exact k.nn x
theorem iY.kp {H H':Hp} {d r:Addr} {g:Int->Int} (k:iY H d g) (kp:Kp r H H') (n:d≠r):iY H' d g:=by
 obtain ⟨hs,e,q⟩:=k.ex;exact ⟨⟨hs,kp _ _ e n,q⟩,k.nn⟩
theorem iY.same {H H':Hp} {d:Addr} {g:Int->Int} (k:iY H d g) (s:Same H H'):iY H' d g:=by
 obtain ⟨hs,e,q⟩:=k.ex;exact ⟨⟨hs,s _ _ e,q⟩,k.nn⟩
theorem iY.ext {H:Hp} {d:Addr} {g g':Int->Int} (k:iY H d g) (e:∀h,g h=g' h):iY H d g':=by
 have:g=g':=funext e;rw [←this];exact k
end L2
set_option Elab.async false
set_option linter.all false
set_option maxRecDepth 100000
set_option maxHeartbeats 4000000
namespace L2
open PySem PySem.Spec PyProof.Rows
def M6 (hi:Int) (n:Nat):It:=⟨fun i _=>i<n,fun i H x H'=>H'=H/\x = .int (hi - i),fun i _=>n<=i⟩
theorem zE {P:Program} {w:World} {K:PySem.W.Frag} {tg:Expr} (it:Addr) (hi:Int) (n:Nat):Turn P w K tg (M6 hi n) [it] it (fun i h=>IsRangeIter h it (hi+(i:Nat)*(-1)) ((n:Int) - (i:Nat)) (-1)) where
 mem:=by simp
 obj:=fun i h st b hb=>by
  have e:b=it:=by simpa using hb
  subst e
  exact ⟨_,st,fun v z=>by
   have z':Data.fields _=Data.cell v:=z;cases z'⟩
 keep:=fun i h h' st k=>k it (by simp) _ st
 item:=by
  intro X hP hw hK hc i pins s σ H E I hf st hg;subst hP hw hK;obtain ⟨f0,f1,f2,f3,f4,f5⟩:=hf it (by simp);have W:=Walks.range (prog:=X.prog) (w:=X.w) (I.ok.hd hc) it hi (-1) n;refine W.item i s _ _ hg st fun v h' tk hv st' kk=> ?_;obtain ⟨t,rfl⟩:=hv;have I1:Inv X pins σ H {s with heap:=h',toks:=tk}:=I.turned (fun b o hb e=>kk b o (by simpa using hb) e) f0 f1 f3 f4 f5;refine ⟨_,rfl,wM (s:={s with heap:=h',toks:=tk}) (n:= "range_iterator") st' rfl rfl (by decide) ⟨.int (hi - i),H,I1,⟨t, ?_⟩,⟨rfl,rfl⟩,st',fun b hb=>(hf b hb).1⟩⟩;congr 1;omega
 done:=by
  intro X hP hw hK hc i pins s σ H E I hf st hg;subst hP hw hK;obtain ⟨f0,f1,f2,f3,f4,f5⟩:=hf it (by simp);exact wpAny_pyNext_range_end (I.ok.hd hc) st (by have:n<=i:=hg;omega) fun h' eb=>⟨rfl,I.turned (t':=s.toks) (fun b o hb e=>eb b o hb e) f0 f1 f3 f4 f5⟩
 self:=fun _ _ _ _ _ st h=>wpAny_pyIter_rangeiter st h
section
variable {X:Cx} {tg:Expr}
theorem QM (a b:Int):Builtin.Range.rangeSize a b (-1)=if a>b then a - b else 0:=by
 unfold Builtin.Range.rangeSize;rw [if_neg (by decide)];split
 ·simp
 ·rfl
theorem GD {a b:Int} (h1: -(2 ^ 61)<=a) (h2:a<2 ^ 61) (h3: -(2 ^ 61)<=b) (h4:b<2 ^ 61):Builtin.Range.small a b (-1)=true:=by
 unfold Builtin.Range.small;rw [QM]
 have fits:∀z:Int, -(2 ^ 63)<=z->z<2 ^ 63->Builtin.Range.rangeFitsLong z=true:=fun z l1 l2=>by
  unfold Builtin.Range.rangeFitsLong;rw [decide_eq_true l1,decide_eq_true l2];rfl
 have f1:=fits (if a>b then a - b else 0) (by split<;>omega) (by split<;>omega);have f2:=fits (b+(-1+1)) (by omega) (by omega);simp only [fits a (by omega) (by omega),fits b (by omega) (by omega),fits (-1) (by decide) (by decide),f1,f2,Bool.and_self,Bool.true_and,show ¬((-1:Int)>0) by decide,if_false,Bool.or_true]
def Wi (ta:TA):TI:=fun σ H R=>ta σ H fun vs H1=>∃i j:Int,vs=[.int i,.int j,.int (-1)]/\(-(2 ^ 61)<=i/\i<2 ^ 61 /\ -(2 ^ 61)<=j/\j<2 ^ 61)/\R (M6 i (i - j).toNat) H1
theorem G_ {a b c:Expr} {ta:TA} {p pos:Pos} (hg:Gl X "range") (hm:X.mg "range" = none) (ha:PA X [a,b,c] ta) (hs:starEach [a,b,c] X.env=[(false,eval a X.env),(false,eval b X.env),(false,eval c X.env)]:=by rfl) (hs2:starEach [b,c] X.env=[(false,eval b X.env),(false,eval c X.env)]:=by rfl):
 PI X tg (.Call (.Name "range" p) [a,b,c] [] pos) (Wi ta):=by
 intro pins s σ H R I h;refine Call_ (oh I hg hm boot_range (PyProof.Rows.callWith_type1 (cF (ha pos pins s σ H _ I h) fun us s1 ⟨vs,H1,I1,r1,q1⟩=> ?_) (by rw [hs,hs2]) (by rw [hs2];rfl)));obtain ⟨i,j,e,⟨q1,q2,q3,q4⟩,q⟩:=q1;subst e;cases r1 with
 | cons r rr=>
   cases rr with
   | cons r' rr=>
     cases rr with
     | cons r'' rr=>
       cases rr;obtain ⟨t,rfl⟩:=r;obtain ⟨t',rfl⟩:=r';obtain ⟨t'',rfl⟩:=r'';refine call_range_3 (by decide) ?_ (.inl (PyProof.noPylong_small (by decide)));refine wpAny_pyIter_range (IsRange.new ..) (GD q1 q2 q3 q4) ?_;have I2:Inv X pins σ H1 {s1 with heap:=s1.heap.push {cls:= .type "range",data:= .fields #[.int i t,.int j t',.int (-1) t'']}}:=I1.kept (t':=s1.toks) fun b o e=>Heap.get?_push_of_some _ e
       refine ⟨(s1.heap.push {cls:= .type "range",data:= .fields #[.int i t,.int j t',.int (-1) t'']}).objs.size,[(s1.heap.push {cls:= .type "range",data:= .fields #[.int i t,.int j t',.int (-1) t'']}).objs.size],_,_,H1,rfl,
        I2.kept (t':=s1.toks) fun b o e=>Heap.get?_push_of_some _ e,zE _ i (i - j).toNat, ?_,fun b hb=> ?_,q⟩
       ·have e1:i+((0:Nat):Int)*(-1)=i:=by simp
        have e2:(((i - j).toNat:Nat):Int) - ((0:Nat):Int)=Builtin.Range.rangeSize i j (-1):=by rw [QM];split<;>omega
        show IsRangeIter _ _ (i+((0:Nat):Int)*(-1)) ((((i - j).toNat:Nat):Int) - ((0:Nat):Int)) (-1);rw [e1,e2];exact Heap.get?_push_size _ rfl
       ·have e:b=(s1.heap.push {cls:= .type "range",data:= .fields #[.int i t,.int j t',.int (-1) t'']}).objs.size:=by simpa using hb
        subst e;exact I2.uy (Nat.le_refl _) (I2.hok.fresh (Nat.le_refl _))
theorem Dt {hi:Int} {n:Nat} {g:TG} {tb:TS} {D:Ends} {σ:St} {H:Hp} (Pv:Nat->St->Hp->Prop) (h0:Pv 0 σ H)
 (hs:∀i σ H,i<n->Pv i σ H->g (.int (hi - i)) σ H fun σ2 H2=>tb {D with nx:=Pv (i+1),ct:=Pv (i+1),bk:=D.nx} σ2 H2) (hd:∀σ H,Pv n σ H->D.nx σ H):
 ∃W:Nat->Nat->St->Hp->Prop,(∃m,W 0 m σ H) /\ ∀i m σ H,W i m σ H ->
  ((M6 hi n).stop i H/\D.nx σ H)\/((M6 hi n).go i H /\ ∃N:St->Hp->Prop,(∀σ' H',N σ' H' -> ∃m',m'<m/\W (i+1) m' σ' H') /\ ∀x H',(M6 hi n).Nk i H x H'->g x σ H' fun σ2 H2=>tb {D with nx:=N,ct:=N,bk:=D.nx} σ2 H2):=by
 refine ⟨fun i m σ H=>m=n - i/\i<=n/\Pv i σ H,⟨n,by simp,Nat.zero_le _,h0⟩, ?_⟩;rintro i m σ H ⟨rfl,hi',p⟩
 by_cases hlt:i<n
 ·refine .inr ⟨hlt,Pv (i+1),fun σ' H' p'=>⟨n - (i+1),by omega,rfl,hlt,p'⟩,fun x H' y=> ?_⟩
  obtain ⟨e,y⟩:=y;subst e y;exact hs i σ _ hlt p
 ·have e:i=n:=by omega
  subst e;exact .inl ⟨Nat.le_refl _,hd σ H p⟩
end
end L2
set_option Elab.async false
set_option linter.all false
set_option maxRecDepth 100000
set_option maxHeartbeats 4000000
namespace L2
open PySem PySem.Spec PyProof.Rows
section
variable {X:Cx} {tg:Expr}
end
end L2
set_option Elab.async false
set_option linter.all false
set_option maxRecDepth 100000
set_option maxHeartbeats 4000000
namespace L2
open PySem PySem.Spec PyProof.Rows
def VH (K:PySem.W.Frag) (neg:Bool):R2:=fun x y H Q=>∃(p:Addr) (vs:List V) (d:PyData) (ds:List PyData),y = .ref p/\aZ K H p vs/\aF H vs ds/\Dat H x d/\SeqAt.shaped d=true/\(∀e∈ds,SeqAt.shaped e=true)/\Q (.bl (if neg then !(ds.any fun e=>PyData.eqv e d) else ds.any fun e=>PyData.eqv e d)) H
section
variable {X:Cx}
theorem xH {H:Hp} {pins:List (Addr×Obj)} {σ:St} {s:Shared} (I:Inv X pins σ H s):∀{vs:List V} {us:List Value} {ds:List PyData},Vals vs us->aF H vs ds -> ∀u∈us,∃e∈ds,∃as,Reads s.heap u e as
 | [],_,_,.nil,_=>fun u hu=>by cases hu
 | v::vs,_,d::ds,.cons r rs,h=>fun u hu=>by
   simp only [aF] at h;rcases List.mem_cons.mp hu with rfl|hu
   ·obtain ⟨as,ra⟩:=I.reads d h.1 r
    exact ⟨d,by simp,as,ra⟩
   ·obtain ⟨e,he,q⟩:=xH I rs h.2 u hu
    exact ⟨e,by simp [he],q⟩
 | _::_,_,[],.cons _ _,h=>by simp only [aF] at h
theorem Eh {H:Hp} {pins:List (Addr×Obj)} {σ:St} {s:Shared} (I:Inv X pins σ H s):∀{vs:List V} {us:List Value} {ds:List PyData},Vals vs us->aF H vs ds -> ∀e∈ds,∃u∈us,∃as,Reads s.heap u e as
 | [],_,[],.nil,_=>fun e he=>by cases he
 | [],_,_::_,.nil,h=>by simp only [aF] at h
 | v::vs,_,d::ds,.cons r rs,h=>fun e he=>by
   simp only [aF] at h;rcases List.mem_cons.mp he with rfl|he
   ·obtain ⟨as,ra⟩:=I.reads e h.1 r
    exact ⟨_,by simp,as,ra⟩
   ·obtain ⟨u,hu,q⟩:=Eh I rs h.2 e he
    exact ⟨u,by simp [hu],q⟩
 | _::_,_,[],.cons _ _,h=>by simp only [aF] at h
open Classical in
noncomputable def Ln (s:Shared) (ds:List PyData) (d:PyData) (u:Value):Bool:=decide (∃e∈ds,(∃as,Reads s.heap u e as)/\PyData.eqv e d=true)
open Classical in
theorem rY {s:Shared} {ds:List PyData} {d:PyData} {u:Value}:Ln s ds d u=true ↔ ∃e∈ds,(∃as,Reads s.heap u e as)/\PyData.eqv e d=true:=by unfold Ln;exact decide_eq_true_iff
theorem Lj {A:Around} {s:Shared} {ds:List PyData} {d:PyData} {u v:Value} {bs:List Addr} (hd:SeqAt.shaped d=true) (hds:∀e∈ds,SeqAt.shaped e=true) (hu:A.units+64<cLine) (rv:Reads s.heap v d bs) (h:∃e∈ds,∃as,Reads s.heap u e as):SeqAt.EqAt A s u v (Ln s ds d u):=by
 by_cases q:∃e∈ds,(∃as,Reads s.heap u e as)/\PyData.eqv e d=true
 ·have:Ln s ds d u=true:=rY.mpr q
  rw [this];obtain ⟨e,he,⟨as,ra⟩,ee⟩:=q;have:=SeqAt.eqAt_reads e d A s u v as bs ra rv (SeqAt.canLay_of_shaped (hds e he)) (SeqAt.canLay_of_shaped hd) (SeqAt.room_of_shaped (hds e he) hu);rwa [ee] at this
 ·have:Ln s ds d u=false:=by
   cases z:Ln s ds d u with
   | false=>rfl
   | true=>exact absurd (rY.mp z) q
  rw [this];obtain ⟨e,he,as,ra⟩:=h
  have ee:PyData.eqv e d=false:=by
   cases z:PyData.eqv e d with
   | false=>rfl
   | true=>exact absurd ⟨e,he,⟨as,ra⟩,z⟩ q
  have:=SeqAt.eqAt_reads e d A s u v as bs ra rv (SeqAt.canLay_of_shaped (hds e he)) (SeqAt.canLay_of_shaped hd) (SeqAt.room_of_shaped (hds e he) hu);rwa [ee] at this
theorem FP {H:Hp} {pins:List (Addr×Obj)} {σ:St} {s:Shared} (I:Inv X pins σ H s) {vs:List V} {us:List Value} {ds:List PyData} {d:PyData} (r:Vals vs us) (h:aF H vs ds):us.toArray.any (Ln s ds d)=ds.any fun e=>PyData.eqv e d:=by
 rw [show us.toArray.any (Ln s ds d)=us.any (Ln s ds d) by simp,Bool.eq_iff_iff,List.any_eq_true,List.any_eq_true];constructor
 ·rintro ⟨u,hu,e⟩
  obtain ⟨e,he,_,ee⟩:=rY.mp e;exact ⟨e,he,ee⟩
 ·rintro ⟨e,he,ee⟩
  obtain ⟨u,hu,q⟩:=Eh I r h e he;exact ⟨u,hu,rY.mpr ⟨e,he,q,ee⟩⟩
theorem Ow {K:PySem.W.Frag} (hK:X.K=K) (hu:X.A.in1.units+64<cLine):lR X (compareOp .In) (VH K false):=by
 subst hK;intro pins s σ H x y v u Q I rx ry h;obtain ⟨p,vs,d,ds,rfl,hq,hds,hd,s1,s2,q⟩:=h;cases ry;obtain ⟨its,r,pl,hz⟩:=I.list hq;obtain ⟨bs,rv⟩:=I.reads d hd rx;refine SeqAt.in_listAt (Ln s ds d) pl.isList (fun w hw=>Lj s1 s2 hu rv (xH I r hds w (by simpa using hw))) ⟨.bl _,H,I,rfl, ?_⟩;rw [FP I r hds];exact q
theorem CP {K:PySem.W.Frag} (hK:X.K=K) (hu:X.A.in1.units+64<cLine):lR X (compareOp .NotIn) (VH K true):=by
 subst hK;intro pins s σ H x y v u Q I rx ry h;obtain ⟨p,vs,d,ds,rfl,hq,hds,hd,s1,s2,q⟩:=h;cases ry;obtain ⟨its,r,pl,hz⟩:=I.list hq;obtain ⟨bs,rv⟩:=I.reads d hd rx;refine SeqAt.notIn_listAt (Ln s ds d) pl.isList (fun w hw=>Lj s1 s2 hu rv (xH I r hds w (by simpa using hw))) ⟨.bl _,H,I,rfl, ?_⟩;rw [FP I r hds];exact q
end
end L2
set_option Elab.async false
set_option linter.all false
set_option maxRecDepth 100000
set_option maxHeartbeats 4000000
namespace L2
open PySem PySem.Spec PyProof.Rows
section
variable {H H':Hp}
mutual
theorem Dat.same (k:Same H H'):∀(d:PyData) {v:V},Dat H v d->Dat H' v d
 | .none,_,h=>by simp only [Dat] at h ⊢;exact h
 | .bool _,_,h=>by simp only [Dat] at h ⊢;exact h
 | .int _,_,h=>by simp only [Dat] at h ⊢;exact h
 | .str _,_,h=>by simp only [Dat] at h ⊢;exact h
 | .list ds,_,h=>by simp only [Dat] at h ⊢;obtain ⟨a,vs,e,q,r⟩:=h;exact ⟨a,vs,e,k _ _ q,aF.same k ds r⟩
 | .tuple ds,_,h=>by simp only [Dat] at h ⊢;obtain ⟨a,vs,e,q,r⟩:=h;exact ⟨a,vs,e,k _ _ q,aF.same k ds r⟩
 | .dict _,_,h=>by simp only [Dat] at h
theorem aF.same (k:Same H H'):∀(ds:List PyData) {vs:List V},aF H vs ds->aF H' vs ds
 | [],[],_=>by simp only [aF]
 | d::ds,v::vs,h=>by simp only [aF] at h ⊢;exact ⟨Dat.same k d h.1,aF.same k ds h.2⟩
 | _::_,[],h=>by simp only [aF] at h
 | [],_::_,h=>by simp only [aF] at h
end
end
section
variable {X:Cx} {K:PySem.W.Frag}
end
section
variable {K:PySem.W.Frag} {a D:Addr} {xs:List V} {tc:TT} {te:TE} {Q:VK} {rest:St} {H1:Hp}
theorem yH {f:Nat->Option PyData} (hf:∀i d,f i=some d->Ni d=true):∀l:List Nat,Al (l.filterMap f)=true
 | []=>rfl
 | i::l=>by
   rw [List.filterMap_cons];cases e:f i with
   | none=>exact yH hf l
   | some d=>simp only [Al,hf i d e,yH hf l,Bool.and_self]
theorem wW (f:Nat->Option PyData) (hf:∀i d,f i=some d->Ni d=true) (hD:H1 D=none) (hq:aZ K H1 a xs) (hx:xs.length<=100000)
 (hs:∀i x H (G:Hp->Prop) (F:VK),xs[i]? = some x->Same H1 H->(∀H',Same H H'->f i=none->G H')->(∀y d H',Same H H'->f i=some d->Dat H' y d->F y H')->tc (some x::rest) H fun b H3=>if b=true then te (some x::rest) H3 F else G H3)
 (hd:∀H vs,Same H1 H->H D=some (.lst vs)->aF H vs ((List.range xs.length).filterMap f)->Q (.ref D) H):nQ (Rt K a) (mK 0) tc te Q D (none::rest) H1:=by
 refine wV (K:=K) (xs:=xs) (fun i σ H=>(∃v,σ=v::rest)/\Same H1 H /\ ∃vs,H D=some (.lst vs)/\aF H vs ((List.range i).filterMap f)) ⟨⟨none,rfl⟩,aD hD,[],au,by simp [aF]⟩ (fun i σ H _ ⟨_,sm,_⟩=>sm.Yp _ _ hq) ?_ (fun σ H ⟨_,sm,vs,e,d⟩=>hd H vs sm e d);rintro i x σ H hi ⟨⟨v,rfl⟩,sm,vs,e,d⟩;have hil:i<xs.length:=(List.getElem?_eq_some_iff.mp hi).1;have im:=yH hf (List.range i);refine hs i x H _ _ hi sm (fun H3 s3 ef=>⟨⟨_,rfl⟩,sm.trans s3,vs,s3 _ _ e, ?_⟩) (fun y dd H4 s4 ef dy=> ?_)
 ·rw [gn,ef]
  simpa using aF.keep s3.tups _ im d
 ·have hl:vs.length<=i:=by rw [d.length];exact uD f i
  have kp:Kp D H4 (upd H4 D (.lst (vs++[y]))):=Kp.set;have tp:=kp.tups (s4 _ _ e);refine ⟨vs,s4 _ _ e, ?_,⟨_,rfl⟩,(sm.trans s4).newly hD,vs++[y],au, ?_⟩
  ·rw [sizeLine_eq];omega
  ·rw [gn,ef]
   exact wN (aF.keep (fun a xs h=>tp _ _ (s4.tups _ _ h)) _ im d) (Dat.keep tp _ (hf i dd ef) dy)
end
section
variable {X:Cx}
end
end L2
set_option Elab.async false
set_option linter.all false
set_option maxRecDepth 100000
set_option maxHeartbeats 4000000
namespace L2
open PySem
section
variable {K:PySem.W.Frag} {a D:Addr} {xs:List V} {tc:TT} {te:TE} {Q:VK} {rest:St} {H1:Hp}
end
end L2
set_option Elab.async false
set_option linter.all false
set_option maxRecDepth 100000
set_option maxHeartbeats 4000000
namespace L2
open PySem PySem.Spec PyProof.Rows
theorem jV.xJ {k:Nat} {A:Around} (r:jV k A):A.in1.units+64<cLine:=by have:=r.un;show A.units+1+64<_;omega
section
variable {X:Cx} {K:PySem.W.Frag} {e st:Expr} {te tk:TE} {pos p2:Pos}
end
end L2
set_option Elab.async false
set_option linter.all false
set_option maxRecDepth 100000
set_option maxHeartbeats 4000000
namespace L2
open PySem PySem.Spec PyProof.Rows
section
variable {H:Hp}
mutual
theorem Dat.fn:∀(d e:PyData) {v:V},Dat H v d->Dat H v e->d=e
 | .none,e,v,h,g=>by cases e<;>simp only [Dat] at h g<;>first |rfl|(subst h;first |(obtain ⟨_,_,z,_⟩:=g;cases z;done)|(cases g;done))
 | .bool _,e,v,h,g=>by cases e<;>simp only [Dat] at h g<;>first |(subst h;first |(injection g with g;rw [g];done)|(obtain ⟨_,_,z,_⟩:=g;cases z;done)|(cases g;done))
 | .int _,e,v,h,g=>by cases e<;>simp only [Dat] at h g<;>first |(subst h;first |(injection g with g;rw [g];done)|(obtain ⟨_,_,z,_⟩:=g;cases z;done)|(cases g;done))
 | .str _,e,v,h,g=>by cases e<;>simp only [Dat] at h g<;>first |(subst h;first |(injection g with g;rw [g];done)|(obtain ⟨_,_,z,_⟩:=g;cases z;done)|(cases g;done))
 | .list ds,.list es,v,h,g=>by
   simp only [Dat] at h g;obtain ⟨a,vs,rfl,ha,da⟩:=h;obtain ⟨b,ws,e,hb,db⟩:=g;injection e with e
   subst e;rw [ha] at hb;injection hb with hb
   injection hb with hb
   subst hb;rw [aF.fn ds es da db]
 | .tuple ds,.tuple es,v,h,g=>by
   simp only [Dat] at h g;obtain ⟨a,vs,rfl,ha,da⟩:=h;obtain ⟨b,ws,e,hb,db⟩:=g;injection e with e
   subst e;rw [ha] at hb;injection hb with hb
   injection hb with hb
   subst hb;rw [aF.fn ds es da db]
 | .list ds,.tuple es,v,h,g=>by
   simp only [Dat] at h g;obtain ⟨a,vs,rfl,ha,da⟩:=h;obtain ⟨b,ws,e,hb,db⟩:=g;injection e with e
   subst e;rw [ha] at hb;injection hb with hb
   cases hb
 | .tuple ds,.list es,v,h,g=>by
   simp only [Dat] at h g;obtain ⟨a,vs,rfl,ha,da⟩:=h;obtain ⟨b,ws,e,hb,db⟩:=g;injection e with e
   subst e;rw [ha] at hb;injection hb with hb
   cases hb
 | .list ds,.none,v,h,g=>by simp only [Dat] at h g;obtain ⟨a,vs,rfl,_⟩:=h;cases g
 | .list ds,.bool _,v,h,g=>by simp only [Dat] at h g;obtain ⟨a,vs,rfl,_⟩:=h;cases g
 | .list ds,.int _,v,h,g=>by simp only [Dat] at h g;obtain ⟨a,vs,rfl,_⟩:=h;cases g
 | .list ds,.str _,v,h,g=>by simp only [Dat] at h g;obtain ⟨a,vs,rfl,_⟩:=h;cases g
 | .tuple ds,.none,v,h,g=>by simp only [Dat] at h g;obtain ⟨a,vs,rfl,_⟩:=h;cases g
 | .tuple ds,.bool _,v,h,g=>by simp only [Dat] at h g;obtain ⟨a,vs,rfl,_⟩:=h;cases g
 | .tuple ds,.int _,v,h,g=>by simp only [Dat] at h g;obtain ⟨a,vs,rfl,_⟩:=h;cases g
 | .tuple ds,.str _,v,h,g=>by simp only [Dat] at h g;obtain ⟨a,vs,rfl,_⟩:=h;cases g
 | .list ds,.dict _,v,h,g=>by simp only [Dat] at g
 | .tuple ds,.dict _,v,h,g=>by simp only [Dat] at g
 | .dict _,_,v,h,g=>by simp only [Dat] at h
theorem aF.fn:∀(ds es:List PyData) {vs:List V},aF H vs ds->aF H vs es->ds=es
 | [],[],_,_,_=>rfl
 | d::ds,e::es,v::vs,h,g=>by
   simp only [aF] at h g;rw [Dat.fn d e h.1 g.1,aF.fn ds es h.2 g.2]
 | [],_::_,[],_,g=>by simp only [aF] at g
 | [],_::_,_::_,h,_=>by simp only [aF] at h
 | _::_,[],[],h,_=>by simp only [aF] at h
 | _::_,[],_::_,_,g=>by simp only [aF] at g
 | _::_,_::_,[],h,_=>by simp only [aF] at h
end
end
section
variable {X:Cx}
open Classical in
noncomputable def Wg (H:Hp) (d:PyData) (u:Value):Bool:=decide (∃a e,u = .ref a/\Dat H (.ref a) e/\PyData.eqv e d=true)
open Classical in
theorem Dl {H:Hp} {d e:PyData} {a:Addr} (h:Dat H (.ref a) e):Wg H d (.ref a)=PyData.eqv e d:=by
 unfold Wg;rw [Bool.eq_iff_iff,decide_eq_true_iff];constructor
 ·rintro ⟨b,e',eb,he,q⟩
  injection eb with eb
  subst eb;rw [Dat.fn e e' h he];exact q
 ·intro q
  exact ⟨a,e,rfl,h,q⟩
end
end L2
set_option Elab.async false
set_option linter.all false
set_option maxRecDepth 100000
set_option maxHeartbeats 4000000
namespace L2
open PySem PySem.Spec PyProof.Rows
section
variable {X:Cx} {K:PySem.W.Frag} {e e1 e2 l:Expr} {te t1 t2 tl:TE} {pos:Pos} {tg:Expr}
end
section
variable {X:Cx}
end
end L2
set_option Elab.async false
set_option linter.all false
set_option maxRecDepth 100000
set_option maxHeartbeats 4000000
namespace L2
open PySem PySem.Spec PyProof.Rows PySem.Builtin PySem.Builtin.Str
section
variable {X:Cx} {K:PySem.W.Frag}
end
section
variable {K:PySem.W.Frag} {D:Addr} {tc:TT} {te:TE} {Q:VK} {rest:St} {H1:Hp}
end
section
variable {X:Cx}
end
end L2
set_option Elab.async false
set_option linter.all false
set_option maxRecDepth 100000
set_option maxHeartbeats 4000000
namespace L2
open PySem PySem.Spec PyProof.Rows PySem.Builtin PySem.Builtin.Str
end L2
set_option Elab.async false
set_option linter.all false
set_option maxRecDepth 100000
set_option maxHeartbeats 4000000
namespace L2
open PySem PySem.Spec PyProof.Rows
section
variable (P:Program) (w:World) (K:PySem.W.Frag) (mg:Str->Option Value) (base:Heap)
end
section
variable {P:Program} {w:World} {K:PySem.W.Frag} {mg:Str->Option Value} {base:Heap} {k:Nat} {C:Addr} {m x:Str} {ps:List Str} {sp:Sp} {LQ:List V}
end
section
variable {X:Cx} {k:Nat} {C:Addr} {x m:Str} {ps:List Str} {sp:Sp} {LQ:List V} {e o:Expr} {es:List Expr} {ta:TE} {t:TA} {p pos apos:Pos} {E:St->XK}
end
end L2
namespace L2
open PySem PySem.Spec PyProof.Rows PySem.Builtin PySem.Builtin.Str
section
variable {X:Cx} {K:PySem.W.Frag} {o e value:Expr} {f:Str} {pos pos' tpos:Pos} {ta tv:TE}
end
section
variable {P:Program} {w:World} {K:PySem.W.Frag} {mg:Str->Option Value} {base:Heap}
end
section
variable {X:Cx} {k:Nat} {C:Addr} {x kn:Str} {ps:List Str} {sp:Sp} {e ke:Expr} {es:List Expr} {te:TE} {t:TA} {p pos kpos:Pos} {E:St->XK}
end
end L2
set_option Elab.async false
set_option linter.all false
set_option maxRecDepth 100000
set_option maxHeartbeats 4000000
namespace L2
open PySem PySem.Spec PyProof.Rows
section
variable {X:Cx} {pins:List (Addr×Obj)} {σ:St} {H:Hp} {s:Shared} {scope:Scope} {N own:List Str} {caps:List Nat} {fp:List Addr} {C:Nat} {xc:Str}
end
section
variable {M:Model} {A:Around} {E:Value->Shared->Prop} {s:Shared}
end
section
variable {X:Cx} {elt tg iter:Expr} {ifs:List Expr} {scope:Scope} {pos:Pos} {N own:List Str} {caps:List Nat} {wi:TI} {g:TG} {tc:TT} {te:TE} {xc:Str}
end
end L2
set_option Elab.async false
set_option linter.all false
set_option maxRecDepth 100000
set_option maxHeartbeats 4000000
namespace Tim
open PySem PyProof.Rows
def jK:Bool->Keyed->Array Keyed->Nat->Nat->Nat->StateT SortSt Sem (Option Nat):=sortPriv% PySem.Builtin.gallop
def lF (left:Bool) (key:Keyed) (arr:Array Keyed) (base i:Nat):StateT SortSt Sem (Option Bool):=do
 let x ←elem' arr (base+i)
 if left then lt' x key else return (←lt' key x).map (!·)
theorem Dr (left:Bool) (key:Keyed) (arr:Array Keyed) (base n hint:Nat):jK left key arr base n hint=(do
 let mut lastofs:=0
 let mut ofs:=1
 let mut lo:=0
 let mut hi:=0
 let some right ←lF left key arr base hint|return none
 if right then
  let maxofs:=n - hint
  for _ in [0:n] do
   if ofs≥maxofs then break
   let some more ←lF left key arr base (hint+ofs)|return none
   if !more then break
   lastofs:=ofs
   ofs:=2*ofs+1
  lo:=hint+lastofs+1
  hi:=hint+min ofs maxofs
 else
  let maxofs:=hint+1
  for _ in [0:n] do
   if ofs≥maxofs then break
   let some found ←lF left key arr base (hint - ofs)|return none
   if found then break
   lastofs:=ofs
   ofs:=2*ofs+1
  lo:=hint+1 - min ofs maxofs
  hi:=hint - lastofs
 for _ in [0:n] do
  if lo≥hi then break
  let m:=lo+(hi - lo) / 2
  let some more ←lF left key arr base m|return none
  if more then lo:=m+1 else hi:=m
 return some hi):=rfl
section
variable {prog:Program} {w:World} {A:Around} {E:Value->Shared->Prop} {s:Shared} {κ:SortKind} {a₀:Array Keyed} {rk:Value->Nat}
structure BR (prog:Program) (w:World) (A:Around) (s:Shared) (κ:SortKind) (a₀:Array Keyed) (rk:Value->Nat):Prop where
 ask:∀p∈a₀.toList,∀q∈a₀.toList,∀(E:Value->Shared->Prop) (Q:Bool->Shared->Prop),Q (decide (rk p.1<rk q.1)) s->wpAny (model prog w) A (keyLt' κ p.1 q.1) Q E s
def R (rk:Value->Nat) (xs:Array Keyed) (i:Nat):Nat:=match xs[i]? with
 | some p=>rk p.1
 | none=>0
theorem uZ {xs:Array Keyed} {i:Nat} {p:Keyed} (h:xs[i]? = some p):R rk xs i=rk p.1:=by unfold R;rw [h]
theorem fQ {xs ys:Array Keyed} {i j:Nat} (h:xs[i]? = ys[j]?):R rk xs i=R rk ys j:=by unfold R;rw [h]
theorem sO {st:SortSt} {p q:Keyed} {Q:Option Bool->SortSt->Prop} (C:BR prog w A s κ a₀ rk) (hk:kindOf st=κ) (hp:p∈a₀.toList) (hq:q∈a₀.toList) (h:Q (some (decide (rk p.1<rk q.1))) st):
 wpS (model prog w) A E s (lt' p q) Q st:=by
 rw [lt'_eq];refine wpS_bind (wpS_get ?_);rw [hk];refine wpS_bind (wpS_lift (wpAny_attempt (C.ask p hp q hq _ _ ⟨rfl, ?_⟩)));exact wpS_pure h
theorem bI {st:SortSt} {arr:Array Keyed} {i:Nat} {p:Keyed} {Q:Keyed->SortSt->Prop} (hi:arr[i]? = some p) (h:Q p st):wpS (model prog w) A E s (elem' arr i) Q st:=by
 rw [elem'_eq,hi];exact wpS_pure h
def By (left:Bool) (k r:Nat):Bool:=if left then decide (r<k) else !decide (k<r)
theorem kJ {st:SortSt} {left:Bool} {key:Keyed} {arr:Array Keyed} {base i:Nat} {Q:Option Bool->SortSt->Prop} (C:BR prog w A s κ a₀ rk) (hk:kindOf st=κ) (hkey:key∈a₀.toList) (pH:∀p∈arr.toList,p∈a₀.toList)
 (hi:base+i<arr.size) (h:Q (some (By left (rk key.1) (R rk arr (base+i)))) st):wpS (model prog w) A E s (lF left key arr base i) Q st:=by
 unfold lF;have e:arr[base+i]? = some arr[base+i]:=getElem?_pos arr (base+i) hi;have hm:arr[base+i]∈a₀.toList:=pH _ (by simp);rw [uZ e] at h;refine wpS_bind (bI e ?_);cases left with
 | true=>exact sO C hk hm hkey h
 | false=>exact wpS_bind (sO C hk hkey hm (wpS_pure h))
theorem za {left:Bool} {k r r':Nat} (h:By left k r=true) (le:r'<=r):By left k r'=true:=by
 unfold By at *;cases left<;>simp at * <;> omega
theorem vo {left:Bool} {k r r':Nat} (h:By left k r=false) (le:r<=r'):By left k r'=false:=by
 unfold By at *;cases left<;>simp at * <;> omega
def Seg (rk:Value->Nat) (xs:Array Keyed) (lo hi:Nat):Prop:=∀i j,lo<=i->i<=j->j<hi->R rk xs i<=R rk xs j
abbrev GSt:=Option (Option Nat)×Nat×Nat
theorem qQ {st:SortSt} {left:Bool} {key:Keyed} {arr:Array Keyed} {base n lo hi:Nat} {Q:GSt->SortSt->Prop} (C:BR prog w A s κ a₀ rk) (hk:kindOf st=κ) (hkey:key∈a₀.toList) (pH:∀p∈arr.toList,p∈a₀.toList)
 (hn:base+n<=arr.size) (hs:Seg rk arr base (base+n)) (hlh:lo<=hi) (hhn:hi<=n)
 (h1:∀i,i<lo->By left (rk key.1) (R rk arr (base+i))=true) (h2:∀i,hi<=i->i<n->By left (rk key.1) (R rk arr (base+i))=false)
 (h:∀k l,k<=n->(∀i,i<k->By left (rk key.1) (R rk arr (base+i))=true)->(∀i,k<=i->i<n->By left (rk key.1) (R rk arr (base+i))=false)->Q (none,l,k) st):
 wpS (model prog w) A E s (forIn [0:n] ((none,lo,hi):GSt) fun _ __s=>
       if __s.snd.fst≥__s.snd.snd then pure (ForInStep.done (none,__s.snd.fst,__s.snd.snd))
       else do
        let __x ←lF left key arr base (__s.snd.fst+(__s.snd.snd - __s.snd.fst) / 2)
        match __x with
         | some more=>
           if more=true then
            pure (ForInStep.yield (none,__s.snd.fst+(__s.snd.snd - __s.snd.fst) / 2+1,__s.snd.snd))
           else pure (ForInStep.yield (none,__s.snd.fst,__s.snd.fst+(__s.snd.snd - __s.snd.fst) / 2))
         | _=>pure (ForInStep.done (some none,__s.snd.fst,__s.snd.snd))) Q st:=by
 refine wpS_forRange (I:=fun x c st'=>st'=st /\ ∃lo hi,c=(none,lo,hi)/\lo<=hi/\hi<=n/\hi - lo<=n - x/\(∀i,i<lo->By left (rk key.1) (R rk arr (base+i))=true)/\(∀i,hi<=i->i<n->By left (rk key.1) (R rk arr (base+i))=false)) ?step ?fin ⟨rfl,lo,hi,rfl,hlh,hhn,by omega,h1,h2⟩
 case fin=>
  rintro c st' ⟨rfl,lo,hi,rfl,a1,a2,a3,a4,a5⟩;have:lo=hi:=by omega
  subst this;exact h _ _ a2 a4 a5
 case step=>
  rintro x c st' _ hx ⟨rfl,lo,hi,rfl,a1,a2,a3,a4,a5⟩;dsimp only
  by_cases hge:lo≥hi
  ·rw [if_pos hge]
   have:lo=hi:=by omega
   subst this;exact wpS_pure (h _ _ a2 a4 a5)
  ·rw [if_neg hge]
   refine wpS_bind (kJ C hk hkey pH (by omega) ?_);dsimp only;cases hb:By left (rk key.1) (R rk arr (base+(lo+(hi - lo) / 2))) with
   | true=>
     simp only [if_true];refine wpS_pure ⟨rfl,_,_,rfl,by omega,a2,by omega,fun i hi'=> ?_,a5⟩;exact za hb (hs _ _ (by omega) (by omega) (by omega))
   | false=>
     simp only [Bool.false_eq_true,if_false];refine wpS_pure ⟨rfl,_,_,rfl,by omega,by omega,by omega,a4,fun i hi' hin=> ?_⟩;exact vo hb (hs _ _ (by omega) (by omega) (by omega))
theorem iu {st:SortSt} {left:Bool} {key:Keyed} {arr:Array Keyed} {base n hint:Nat} {Q:Option Nat->SortSt->Prop} (C:BR prog w A s κ a₀ rk) (hk:kindOf st=κ) (hkey:key∈a₀.toList) (pH:∀p∈arr.toList,p∈a₀.toList)
 (hn:base+n<=arr.size) (hh:hint<n) (hs:Seg rk arr base (base+n))
 (h:∀k,k<=n->(∀i,i<k->By left (rk key.1) (R rk arr (base+i))=true)->(∀i,k<=i->i<n->By left (rk key.1) (R rk arr (base+i))=false)->Q (some k) st):
 wpS (model prog w) A E s (jK left key arr base n hint) Q st:=by
 rw [Dr];refine wpS_bind (kJ C hk hkey pH (by omega) ?_);dsimp only;cases hr:By left (rk key.1) (R rk arr (base+hint)) with
 | true=>
   simp only [if_true]
   refine wpS_bind (wpS_mono (wpS_forRange (I:=fun x c st'=>st'=st /\ ∃l o,c=(none,l,o)/\l<o/\x<o/\hint+l<n/\By left (rk key.1) (R rk arr (base+(hint+l)))=true)
    (Q:=fun c st'=>st'=st /\ ∃l o,c=(none,l,o)/\l<o/\hint+l<n/\By left (rk key.1) (R rk arr (base+(hint+l)))=true/\(o<n - hint->By left (rk key.1) (R rk arr (base+(hint+o)))=false)) ?step ?fin ⟨rfl,0,1,rfl,by omega,by omega,by omega,hr⟩) ?post)
   case fin=>
    rintro c st' ⟨rfl,l,o,rfl,a1,a2,a3,a4⟩;exact ⟨rfl,l,o,rfl,a1,a3,a4,fun z=>by omega⟩
   case step=>
    rintro x c st' _ hx ⟨rfl,l,o,rfl,a1,a2,a3,a4⟩;dsimp only
    by_cases hge:o≥n - hint
    ·rw [if_pos hge]
     exact wpS_pure ⟨rfl,l,o,rfl,a1,a3,a4,fun z=>by omega⟩
    ·rw [if_neg hge]
     refine wpS_bind (kJ C hk hkey pH (by omega) ?_);dsimp only;cases hb:By left (rk key.1) (R rk arr (base+(hint+o))) with
     | true=>
       simp only [Bool.not_true,Bool.false_eq_true,if_false];exact wpS_pure ⟨rfl,o,2*o+1,rfl,by omega,by omega,by omega,hb⟩
     | false=>
       simp only [Bool.not_false,if_true];exact wpS_pure ⟨rfl,l,o,rfl,a1,a3,a4,fun _=>hb⟩
   case post=>
    rintro c st' ⟨rfl,l,o,rfl,a1,a2,a3,a4⟩;dsimp only;refine wpS_bind (qQ C hk hkey pH hn hs (by omega) (by omega) (fun i hi=> ?_) (fun i hi hin=> ?_) fun k l' b1 b2 b3=>wpS_pure (h k b1 b2 b3))
    ·exact za a3 (hs _ _ (by omega) (by omega) (by omega))
    ·exact vo (a4 (by omega)) (hs _ _ (by omega) (by omega) (by omega))
 | false=>
   simp only [Bool.false_eq_true,if_false]
   refine wpS_bind (wpS_mono (wpS_forRange (I:=fun x c st'=>st'=st /\ ∃l o,c=(none,l,o)/\l<o/\x<o/\l<=hint/\By left (rk key.1) (R rk arr (base+(hint - l)))=false)
    (Q:=fun c st'=>st'=st /\ ∃l o,c=(none,l,o)/\l<o/\l<=hint/\By left (rk key.1) (R rk arr (base+(hint - l)))=false/\(o<hint+1->By left (rk key.1) (R rk arr (base+(hint - o)))=true)) ?step ?fin ⟨rfl,0,1,rfl,by omega,by omega,by omega,hr⟩) ?post)
   case fin=>
    rintro c st' ⟨rfl,l,o,rfl,a1,a2,a3,a4⟩;exact ⟨rfl,l,o,rfl,a1,a3,a4,fun z=>by omega⟩
   case step=>
    rintro x c st' _ hx ⟨rfl,l,o,rfl,a1,a2,a3,a4⟩;dsimp only
    by_cases hge:o≥hint+1
    ·rw [if_pos hge]
     exact wpS_pure ⟨rfl,l,o,rfl,a1,a3,a4,fun z=>by omega⟩
    ·rw [if_neg hge]
     refine wpS_bind (kJ C hk hkey pH (by omega) ?_);dsimp only;cases hb:By left (rk key.1) (R rk arr (base+(hint - o))) with
     | true=>
       simp only [if_true];exact wpS_pure ⟨rfl,l,o,rfl,a1,a3,a4,fun _=>hb⟩
     | false=>
       simp only [Bool.false_eq_true,if_false];exact wpS_pure ⟨rfl,o,2*o+1,rfl,by omega,by omega,by omega,hb⟩
   case post=>
    rintro c st' ⟨rfl,l,o,rfl,a1,a2,a3,a4⟩;dsimp only;refine wpS_bind (qQ C hk hkey pH hn hs (by omega) (by omega) (fun i hi=> ?_) (fun i hi hin=> ?_) fun k l' b1 b2 b3=>wpS_pure (h k b1 b2 b3))
    ·exact za (a4 (by omega)) (hs _ _ (by omega) (by omega) (by omega))
    ·exact vo a3 (hs _ _ (by omega) (by omega) (by omega))
end
end Tim
set_option Elab.async false
set_option linter.all false
set_option maxRecDepth 100000
set_option maxHeartbeats 4000000
namespace Tim
open PySem PyProof.Rows
def eO:Nat->StateT SortSt Sem Unit:=sortPriv% PySem.Builtin.setMinGallop
theorem p8 (g:Nat):eO g=modify fun s=>SortSt.mk' (kindOf s) (arrOf s) (pendingOf s) g (failedOf s):=rfl
def ud:Array Keyed->Array Keyed->StateT SortSt Sem (Array Keyed):=sortPriv% PySem.Builtin.mergeLo
def uf:Array Keyed->Array Keyed->StateT SortSt Sem (Array Keyed):=sortPriv% PySem.Builtin.mergeHi
abbrev fW (a b out:Array Keyed) (ia ib:Nat):Array Keyed:=out++a.extract ia a.size++b.extract ib b.size
abbrev n_ (a b out:Array Keyed) (ia ib:Nat):Array Keyed:=out++b.extract ib b.size++a.extract ia a.size
theorem Aa (a b:Array Keyed):ud a b=(do
 rule "list.sort.merge-lo"
 let total:=a.size+b.size
 let mut out:Array Keyed:= #[←elem' b 0]
 let mut ia:=0
 let mut ib:=1
 if ib==b.size then return fW a b out ia ib
 if ia+1==a.size then return n_ a b out ia ib
 let mut minGallop:=gallopOf (←get)
 for _ in [0:total] do
  let mut acount:=0
  let mut bcount:=0
  for _ in [0:total] do
   let some bWins ←lt' (←elem' b ib) (←elem' a ia)|return fW a b out ia ib
   if bWins then
    out:=out.push (←elem' b ib);ib:=ib+1;bcount:=bcount+1;acount:=0
    if ib==b.size then return fW a b out ia ib
    if bcount≥minGallop then break
   else
    out:=out.push (←elem' a ia);ia:=ia+1;acount:=acount+1;bcount:=0
    if ia+1==a.size then return n_ a b out ia ib
    if acount≥minGallop then break
  rule "list.sort.gallop"
  minGallop:=minGallop+1
  for _ in [0:total] do
   if minGallop>1 then minGallop:=minGallop - 1
   eO minGallop
   let some k ←jK false (←elem' b ib) a ia (a.size - ia) 0|return fW a b out ia ib
   acount:=k
   if k>0 then
    out:=out++a.extract ia (ia+k);ia:=ia+k
    if ia+1==a.size then return n_ a b out ia ib
    if ia==a.size then return fW a b out ia ib
   out:=out.push (←elem' b ib);ib:=ib+1
   if ib==b.size then return fW a b out ia ib
   let some k ←jK true (←elem' a ia) b ib (b.size - ib) 0|return fW a b out ia ib
   bcount:=k
   if k>0 then
    out:=out++b.extract ib (ib+k);ib:=ib+k
    if ib==b.size then return fW a b out ia ib
   out:=out.push (←elem' a ia);ia:=ia+1
   if ia+1==a.size then return n_ a b out ia ib
   if acount<7&&bcount<7 then break
  minGallop:=minGallop+1
  eO minGallop
 unsupported "internal:list.sort.merge-bound"):=rfl
section
variable {rk:Value->Nat} {a b out:Array Keyed} {ia ib k:Nat}
def Le (rk:Value->Nat) (x y:Keyed):Prop:=rk x.1<=rk y.1
def Jf (rk:Value->Nat) (l:List Keyed):Prop:=l.Pairwise (Le rk)
structure MI (rk:Value->Nat) (a b out:Array Keyed) (ia ib:Nat):Prop where
 perm:(out.toList++(a.toList.drop ia++b.toList.drop ib)).Perm (a.toList++b.toList)
 sa:Jf rk (out.toList++a.toList.drop ia)
 sb:Jf rk (out.toList++b.toList.drop ib)
structure Mg (rk:Value->Nat) (a b r:Array Keyed):Prop where
 perm:r.toList.Perm (a.toList++b.toList)
 srt:Jf rk r.toList
theorem cG (a:Array Keyed) (i j:Nat):(a.extract i j).toList=(a.toList.drop i).take (j - i):=by
 rw [Array.toList_extract,List.extract_eq_take_drop]
theorem uH (l:List Keyed) (i k:Nat):l.drop i=(l.drop i).take k++l.drop (i+k):=by
 rw [←List.drop_drop,List.take_append_drop]
theorem gW {a:Array Keyed} {i:Nat} (h:i<a.size):R rk a i=rk (a[i]).1:=uZ (getElem?_pos a i h)
theorem K4 {a:Array Keyed} {x:Keyed} (h:x∈a.toList.drop ia):∃j,ia<=j/\j<a.size/\R rk a j=rk x.1:=by
 obtain ⟨j,hj,e⟩:=List.getElem_of_mem h;rw [List.length_drop,Array.length_toList] at hj;rw [List.getElem_drop,Array.getElem_toList] at e;exact ⟨ia+j,by (clear e hj;omega),by (clear e;omega),by rw [gW (by (clear e;omega)),e]⟩
theorem iD {a:Array Keyed} {x:Keyed} (h:x∈(a.toList.drop ia).take k):∃j,j<k/\ia+j<a.size/\R rk a (ia+j)=rk x.1:=by
 obtain ⟨j,hj,e⟩:=List.getElem_of_mem h;rw [List.length_take,List.length_drop,Array.length_toList] at hj;rw [List.getElem_take,List.getElem_drop,Array.getElem_toList] at e;exact ⟨j,by (clear e;omega),by (clear e;omega),by rw [gW (by (clear e;omega)),e]⟩
theorem iB {x y:List Keyed}:Jf rk (x++y)↔Jf rk x/\Jf rk y /\ ∀p∈x,∀q∈y,rk p.1<=rk q.1:=List.pairwise_append
theorem MI.qI (m:MI rk a b out ia ib) (hle:∀i,i<k->ib+i<b.size -> ∀j,ia<=j->j<a.size->R rk b (ib+i)<=R rk a j):MI rk a b (out++b.extract ib (ib+k)) ia (ib+k):=by
 have e:(out++b.extract ib (ib+k)).toList=out.toList++(b.toList.drop ib).take k:=by rw [Array.toList_append,cG];congr 2;omega
 have sp:=uH b.toList ib k;refine ⟨?_, ?_, ?_⟩
 ·rw [e]
  refine List.Perm.trans ?_ m.perm;rw [List.append_assoc];refine List.Perm.append_left _ ?_;refine List.Perm.trans ?_ (List.Perm.of_eq (congrArg (a.toList.drop ia ++ ·) sp.symm));rw [←List.append_assoc];refine List.Perm.trans (List.Perm.append_right _ (List.perm_append_comm)) (List.Perm.of_eq (List.append_assoc _ _ _))
 ·rw [e,List.append_assoc]
  have h1:=iB.mp m.sa;have h2:=m.sb;rw [sp] at h2;have h3:=iB.mp h2;have h4:=iB.mp h3.2.1;refine iB.mpr ⟨h1.1,iB.mpr ⟨h4.1,h1.2.1,fun p hp q hq=> ?_⟩,fun p hp q hq=> ?_⟩
  ·obtain ⟨i,i1,i2,i3⟩:=iD (rk:=rk) hp
   obtain ⟨j,j1,j2,j3⟩:=K4 (rk:=rk) hq;rw [←i3,←j3];exact hle i i1 i2 j j1 j2
  ·rcases List.mem_append.mp hq with hq|hq
   ·exact h3.2.2 p hp q (List.mem_append_left _ hq)
   ·exact h1.2.2 p hp q hq
 ·rw [e,List.append_assoc,←sp]
  exact m.sb
theorem MI.swap (m:MI rk a b out ia ib):MI rk b a out ib ia:=⟨(List.Perm.append_left _ List.perm_append_comm).trans (m.perm.trans List.perm_append_comm),m.sb,m.sa⟩
theorem MI.qJ (m:MI rk a b out ia ib) (hle:∀i,i<k->ia+i<a.size -> ∀j,ib<=j->j<b.size->R rk a (ia+i)<=R rk b j):MI rk a b (out++a.extract ia (ia+k)) (ia+k) ib:=(m.swap.qI hle).swap
theorem zQ (h:ib<b.size):out.push b[ib]=out++b.extract ib (ib+1):=by
 apply Array.toList_inj.mp;rw [Array.toList_push,Array.toList_append,cG];congr 1;rw [show ib+1 - ib=1 by (clear h;omega),List.drop_eq_getElem_cons (by rw [Array.length_toList];exact h)];rfl
theorem MI.tM (m:MI rk a b out ia ib) (h:ib<b.size) (hle:∀j,ia<=j->j<a.size->R rk b ib<=R rk a j):MI rk a b (out.push b[ib]) ia (ib+1):=by
 rw [zQ h];refine m.qI (k:=1) fun i hi hb j j1 j2=> ?_;have:i=0:=by (clear j2 j1 hb h;omega)
 subst this;exact hle j j1 j2
theorem MI.tO (m:MI rk a b out ia ib) (h:ia<a.size) (hle:∀j,ib<=j->j<b.size->R rk a ia<=R rk b j):MI rk a b (out.push a[ia]) (ia+1) ib:=(m.swap.tM h hle).swap
theorem MI.done (m:MI rk a b out ia ib) (h:ia=a.size\/ib=b.size):Mg rk a b (fW a b out ia ib):=by
 have e:(fW a b out ia ib).toList=out.toList++(a.toList.drop ia++b.toList.drop ib):=by
  unfold fW;rw [Array.toList_append,Array.toList_append,cG,cG,List.append_assoc];congr 2
  ·rw [List.take_of_length_le];rw [List.length_drop,Array.length_toList];exact Nat.le_refl _
  ·rw [List.take_of_length_le];rw [List.length_drop,Array.length_toList];exact Nat.le_refl _
 refine ⟨by rw [e];exact m.perm, ?_⟩;rw [e];rcases h with h|h
 ·rw [h,show a.toList.drop a.size=[] by rw [List.drop_eq_nil_of_le];rw [Array.length_toList];exact Nat.le_refl _,List.nil_append]
  exact m.sb
 ·rw [h,show b.toList.drop b.size=[] by rw [List.drop_eq_nil_of_le];rw [Array.length_toList];exact Nat.le_refl _,List.append_nil]
  exact m.sa
theorem MI.last (m:MI rk a b out ia ib) (h:∀i j,ib<=i->i<b.size->ia<=j->j<a.size->R rk b i<=R rk a j):Mg rk a b (n_ a b out ia ib):=by
 have m2:=m.qI (k:=b.size - ib) fun i hi hb j j1 j2=>h _ _ (by (clear j2 j1 hb hi;omega)) hb j1 j2
 have e:(n_ a b out ia ib)=fW a b (out++b.extract ib (ib+(b.size - ib))) ia (ib+(b.size - ib)):=by
  unfold fW n_;apply Array.toList_inj.mp;simp only [Array.toList_append,cG]
  have e1:(b.toList.drop (ib+(b.size - ib))).take (b.size - (ib+(b.size - ib)))=[]:=by
   rw [List.take_eq_nil_iff];left;omega
  rw [e1,List.append_nil];congr 3
  (clear e1;omega)
 rw [e]
 by_cases hb:ib<=b.size
 ·exact m2.done (.inr (by (clear e;omega)))
 ·refine ⟨?_, ?_⟩
  ·have:=m2.perm
   have e2:(fW a b (out++b.extract ib (ib+(b.size - ib))) ia (ib+(b.size - ib))).toList=(out++b.extract ib (ib+(b.size - ib))).toList++(a.toList.drop ia++b.toList.drop (ib+(b.size - ib))):=by
    unfold fW;rw [Array.toList_append,Array.toList_append,cG,cG,List.append_assoc];congr 2
    ·rw [List.take_of_length_le];rw [List.length_drop,Array.length_toList];exact Nat.le_refl _
    ·rw [List.take_of_length_le];rw [List.length_drop,Array.length_toList];exact Nat.le_refl _
   rw [e2];exact this
  ·unfold fW
   rw [Array.toList_append,Array.toList_append,cG (a:=b) (i:=ib+(b.size - ib)),show b.size - (ib+(b.size - ib))=0 by (clear hb e;omega),List.take_zero,List.append_nil,cG (a:=a)];rw [List.take_of_length_le (by rw [List.length_drop,Array.length_toList];exact Nat.le_refl _)];exact m2.sa
end
end Tim
set_option Elab.async false
set_option linter.all false
set_option maxRecDepth 100000
set_option maxHeartbeats 4000000
namespace Tim
open PySem PyProof.Rows
section
variable {prog:Program} {w:World} {A:Around} {E:Value->Shared->Prop} {s:Shared} {κ:SortKind} {a₀:Array Keyed} {rk:Value->Nat}
structure zj (st st':SortSt):Prop where
 k:kindOf st'=kindOf st
 a:arrOf st'=arrOf st
 p:pendingOf st'=pendingOf st
 f:failedOf st'=failedOf st
theorem zj.refl (st:SortSt):zj st st:=⟨rfl,rfl,rfl,rfl⟩
theorem zj.trans {a b c:SortSt} (h:zj a b) (g:zj b c):zj a c:=⟨g.k.trans h.k,g.a.trans h.a,g.p.trans h.p,g.f.trans h.f⟩
theorem mX {st:SortSt} {g:Nat} {Q:Unit->SortSt->Prop} (h:∀st',zj st st'->Q () st'):wpS (model prog w) A E s (eO g) Q st:=by
 rw [p8];exact wpS_modify (h _ ⟨rfl,rfl,rfl,rfl⟩)
theorem aR {α:Type} {c:Prop} [Decidable c] {x y:StateT SortSt Sem α} {Q:α->SortSt->Prop} {st:SortSt} (h1:c->wpS (model prog w) A E s x Q st) (h2:¬c->wpS (model prog w) A E s y Q st):wpS (model prog w) A E s (if c then x else y) Q st:=by
 by_cases hc:c
 ·rw [if_pos hc];exact h1 hc
 ·rw [if_neg hc];exact h2 hc
theorem U4 {k r:Nat} (h:By true k r=true):r<k:=by simpa [By] using h
theorem QH {k r:Nat} (h:By false k r=true):r<=k:=by simpa [By] using h
theorem Bx {k r:Nat} (h:By true k r=false):k<=r:=by simpa [By] using h
theorem Nf {k r:Nat} (h:By false k r=false):k<r:=by simpa [By] using h
theorem zm {st:SortSt} {a b:Array Keyed} {Q:Array Keyed->SortSt->Prop} (C:BR prog w A s κ a₀ rk) (hk:kindOf st=κ) (ha:∀p∈a.toList,p∈a₀.toList) (hb:∀p∈b.toList,p∈a₀.toList)
 (ha1:1<=a.size) (hb1:1<=b.size) (sa:Seg rk a 0 a.size) (sb:Seg rk b 0 b.size) (h0:R rk b 0<=R rk a 0) (hl:R rk b (b.size - 1)<=R rk a (a.size - 1))
 (h:∀r st',zj st st'->Mg rk a b r->Q r st'):wpS (model prog w) A E s (ud a b) Q st:=by
 have Wf:∀i,i<b.size -> ∃p,b[i]? = some p/\p∈a₀.toList/\R rk b i=rk p.1:=fun i hi=>⟨b[i],getElem?_pos b i hi,hb _ (by simp),gW hi⟩;have Ra:∀i,i<a.size -> ∃p,a[i]? = some p/\p∈a₀.toList/\R rk a i=rk p.1:=fun i hi=>⟨a[i],getElem?_pos a i hi,ha _ (by simp),gW hi⟩
 have mid:∀i j,i<b.size->j+1=a.size->R rk b i<=R rk a j:=fun i j hi hj=>by
  have:=sb i (b.size - 1) (by (clear hj hi hl h0 hb1 ha1 hk;lia)) (by (clear hj hl h0 hb1 ha1 hk;lia)) (by (clear hj hi hl h0 ha1 hk;lia));have e:a.size - 1=j:=by (clear this hi hl h0 hb1 ha1 hk;lia)
  rw [e] at hl
  (clear e hj hi h0 hb1 ha1 hk;lia)
 have m0:MI rk a b #[b[0]] 0 1:=by
  have m:MI rk a b #[] 0 0:=by
   refine ⟨by simp, ?_, ?_⟩
   ·show Jf rk ([]++a.toList.drop 0)
    rw [List.nil_append,List.drop_zero];refine List.pairwise_iff_getElem.mpr fun i j hi hj hij=> ?_;rw [Array.length_toList] at hi hj;have:=sa i j (by (clear hij hj hi hl h0 hb1 ha1 hk;lia)) (by (clear hj hi hl h0 hb1 ha1 hk;lia)) hj;rw [gW hi,gW hj] at this;simpa [Le] using this
   ·show Jf rk ([]++b.toList.drop 0)
    rw [List.nil_append,List.drop_zero];refine List.pairwise_iff_getElem.mpr fun i j hi hj hij=> ?_;rw [Array.length_toList] at hi hj;have:=sb i j (by (clear hij hj hi hl h0 hb1 ha1 hk;lia)) (by (clear hj hi hl h0 hb1 ha1 hk;lia)) hj;rw [gW hi,gW hj] at this;simpa [Le] using this
  exact m.tM (by (clear hl h0 ha1 hk;lia)) fun j _ j2=>Nat.le_trans h0 (sa 0 j (by (clear j2 hl h0 hb1 ha1 hk;lia)) (by (clear j2 hl h0 hb1 ha1 hk;lia)) j2)
 rw [Aa];refine wpS_bind (wpS_lift (wpAny_rule ⟨rfl, ?_⟩));refine wpS_bind (bI (p:=b[0]) (getElem?_pos b 0 (by (clear hl h0 ha1 hk;lia))) ?_);dsimp only;refine aR (fun e=> ?_) (fun e=> ?_)
 ·have e:1=b.size:=by simpa using e
  exact wpS_pure (h _ _ (.refl _) (m0.done (.inr e)))
 have eb:¬1=b.size:=by simpa using e
 refine aR (fun e=> ?_) (fun e=> ?_)
 ·have e:1=a.size:=by simpa using e
  exact wpS_pure (h _ _ (.refl _) (m0.last fun i j _ hi _ hj=>mid i j hi (by (clear hi eb hl h0 ha1 hk;lia))))
 have ea:¬1=a.size:=by simpa using e
 refine wpS_bind (wpS_get ?_)
 refine wpS_bind (wpS_mono (wpS_forRange (I:=fun x c st'=>zj st st' /\ ∃out ia ib mg,c=(none,out,ia,ib,mg)/\MI rk a b out ia ib/\ia+2<=a.size/\ib+1<=b.size/\(a.size - ia)+(b.size - ib)+x<=a.size+b.size)
  (Q:=fun c st'=>zj st st' /\ ∃r cc,c=(some r,cc)/\Mg rk a b r) ?step ?fin ⟨.refl _,_,_,_,_,rfl,m0,by (clear e eb hl h0 hk;lia),by (clear ea e hl h0 ha1 hk;lia),by (clear ea e eb hl h0 ha1 hk;lia)⟩) ?post)
 case post=>
  rintro c st' ⟨kp,r,cc,rfl,m⟩;exact wpS_pure (h _ _ kp m)
 case fin=>
  rintro c st' ⟨kp,out,ia,ib,mg,rfl,m,a1,b1,le⟩
  (clear b1 ea e eb hl h0 ha1 hk;lia)
 case step=>
  rintro x c st' _ hx ⟨kp,out,ia,ib,mg,rfl,m,a1,b1,le⟩;dsimp only
  refine wpS_bind (wpS_mono (wpS_forRange (I:=fun y c st2=>st2=st' /\ ∃out ia ib ac bc,c=(none,out,ia,ib,ac,bc)/\MI rk a b out ia ib/\ia+2<=a.size/\ib+1<=b.size/\(a.size - ia)+(b.size - ib)+x+y<=a.size+b.size)
   (Q:=fun c st2=>st2=st'/\((∃r cc,c=(some r,cc)/\Mg rk a b r) \/ ∃out ia ib ac bc,c=(none,out,ia,ib,ac,bc)/\MI rk a b out ia ib/\ia+2<=a.size/\ib+1<=b.size/\(a.size - ia)+(b.size - ib)+x+1<=a.size+b.size)) ?step1 ?Uk ⟨rfl,_,_,_,_,_,rfl,m,a1,b1,by (clear b1 a1 hx ea e eb hl h0 ha1 hk;lia)⟩) ?J8)
  case Uk=>
   rintro c st2 ⟨rfl,out,ia,ib,ac,bc,rfl,m,a1,b1,le⟩
   (clear b1 hx ea e eb hl h0 ha1 hk;lia)
  case step1=>
   rintro y c st2 _ hy ⟨rfl,out,ia,ib,ac,bc,rfl,m,a1,b1,le⟩;dsimp only;obtain ⟨p,ep,mp,rp⟩:=Wf ib (by (clear le a1 hy hx ea e eb hl h0 ha1 hk;lia));obtain ⟨q,eq,mq,rq⟩:=Ra ia (by (clear rp ep le b1 hy hx ea e eb hl h0 ha1 hk;lia));refine wpS_bind (bI ep (wpS_bind (bI eq (wpS_bind (sO C (kp.k.trans hk) mp mq ?_)))));dsimp only;have bO:p=b[ib]:=by rw [getElem?_pos b ib (by (clear rq eq rp ep le a1 hy hx ea e eb hl h0 ha1 hk;lia))] at ep;exact (Option.some.inj ep).symm
   have gB:q=a[ia]:=by rw [getElem?_pos a ia (by (clear bO rq eq rp ep le b1 hy hx ea e eb hl h0 ha1 hk;lia))] at eq;exact (Option.some.inj eq).symm
   refine aR (fun lt=> ?_) (fun lt=> ?_)
   ·have lt:R rk b ib<R rk a ia:=by rw [rp,rq];simpa using lt
    have m2:MI rk a b (out.push p) ia (ib+1):=by
     rw [bO];exact m.tM (by (clear lt gB bO rq eq rp ep le a1 hy hx ea e eb hl h0 ha1 hk;lia)) fun j j1 j2=>by have:=sa ia j (by (clear j2 j1 lt gB bO rq eq rp ep le b1 a1 hy hx ea e eb hl h0 ha1 hk;lia)) j1 j2;(clear j2 j1 gB bO rq eq rp ep le b1 a1 hy hx ea e eb hl h0 ha1 hk;lia)
    refine wpS_bind (bI ep ?_);refine aR (fun e=> ?_) (fun e=> ?_)
    ·exact wpS_pure ⟨rfl,.inl ⟨_,_,rfl,m2.done (.inr (by simpa using e))⟩⟩
    have e:¬ib+1=b.size:=by simpa using e
    refine aR (fun _=> ?_) (fun _=> ?_)
    ·exact wpS_pure ⟨rfl,.inr ⟨_,_,_,_,_,rfl,m2,a1,by (clear lt gB bO rq eq rp ep le a1 hy hx ea eb hl h0 ha1 hk;lia),by (clear e lt gB bO rq eq rp ep a1 hy hx ea eb hl h0 ha1 hk;lia)⟩⟩
    ·exact wpS_pure ⟨rfl,_,_,_,_,_,rfl,m2,a1,by (clear lt gB bO rq eq rp ep le a1 hy hx ea eb hl h0 ha1 hk;lia),by (clear e lt gB bO rq eq rp ep a1 hy hx ea eb hl h0 ha1 hk;lia)⟩
   ·have lt:R rk a ia<=R rk b ib:=by rw [rp,rq];simpa using lt
    have m2:MI rk a b (out.push q) (ia+1) ib:=by
     rw [gB];exact m.tO (by (clear lt gB bO rq eq rp ep le b1 hy hx ea e eb hl h0 ha1 hk;lia)) fun j j1 j2=>by have:=sb ib j (by (clear j2 j1 lt gB bO rq eq rp ep le b1 a1 hy hx ea e eb hl h0 ha1 hk;lia)) j1 j2;(clear j2 j1 gB bO rq eq rp ep le b1 a1 hy hx ea e eb hl h0 ha1 hk;lia)
    refine wpS_bind (bI eq ?_);refine aR (fun e=> ?_) (fun e=> ?_)
    ·have e:ia+1+1=a.size:=by simpa using e
     exact wpS_pure ⟨rfl,.inl ⟨_,_,rfl,m2.last fun i j _ hi _ hj=>mid i j hi (by (clear hi lt gB bO rq eq rp ep le b1 a1 hy hx ea eb hl h0 ha1 hk;lia))⟩⟩
    have e:¬ia+1+1=a.size:=by simpa using e
    refine aR (fun _=> ?_) (fun _=> ?_)
    ·exact wpS_pure ⟨rfl,.inr ⟨_,_,_,_,_,rfl,m2,by (clear lt gB bO rq eq rp ep le b1 hy hx ea eb hl h0 ha1 hk;lia),b1,by (clear e lt gB bO rq eq rp ep b1 hy hx ea eb hl h0 ha1 hk;lia)⟩⟩
    ·exact wpS_pure ⟨rfl,_,_,_,_,_,rfl,m2,by (clear lt gB bO rq eq rp ep le b1 hy hx ea eb hl h0 ha1 hk;lia),b1,by (clear e lt gB bO rq eq rp ep b1 hy hx ea eb hl h0 ha1 hk;lia)⟩
  case J8=>
   rintro c st2 ⟨rfl,(⟨r,cc,rfl,mr⟩|⟨out,ia,ib,ac,bc,rfl,m,a1,b1,le⟩)⟩
   ·exact wpS_pure ⟨kp,r,_,rfl,mr⟩
   dsimp only;refine wpS_bind (wpS_lift (wpAny_rule ⟨rfl, ?_⟩))
   refine wpS_bind (wpS_mono (wpS_forRange (I:=fun y c st3=>zj st st3 /\ ∃out ia ib mg ac bc,c=(none,out,ia,ib,mg,ac,bc)/\MI rk a b out ia ib/\ia+2<=a.size/\ib+1<=b.size/\(a.size - ia)+(b.size - ib)+x+1+y<=a.size+b.size)
    (Q:=fun c st3=>zj st st3/\((∃r cc,c=(some r,cc)/\Mg rk a b r) \/ ∃out ia ib mg ac bc,c=(none,out,ia,ib,mg,ac,bc)/\MI rk a b out ia ib/\ia+2<=a.size/\ib+1<=b.size/\(a.size - ia)+(b.size - ib)+x+1<=a.size+b.size)) ?JF ?fin2 ⟨kp,_,_,_,_,_,_,rfl,m,a1,b1,by (clear b1 a1 hx ea e eb hl h0 ha1 hk;lia)⟩) ?post2)
   case fin2=>
    rintro c st3 ⟨Lb,out,ia,ib,mg,ac,bc,rfl,m,a1,b1,le⟩
    (clear b1 a1 hx ea e eb hl h0 ha1 hk;lia)
   case post2=>
    rintro c st3 ⟨Lb,(⟨r,cc,rfl,mr⟩|⟨out,ia,ib,mg,ac,bc,rfl,m,a1,b1,le⟩)⟩
    ·exact wpS_pure ⟨Lb,r,_,rfl,mr⟩
    dsimp only;refine wpS_bind (mX fun lW k4=>wpS_pure ⟨Lb.trans k4,_,_,_,_,rfl,m,a1,b1,by (clear b1 a1 hx ea e eb hl h0 ha1 hk;lia)⟩)
   case JF=>
    rintro y c st3 _ hy ⟨Lb,out,ia,ib,mg,ac,bc,rfl,m,a1,b1,le⟩;dsimp only;refine aR (fun _=> ?_) (fun _=> ?_)
    all_goals
     refine wpS_bind (mX fun lW k4=> ?_);have yE:=Lb.trans k4;obtain ⟨p,ep,mp,rp⟩:=Wf ib (by (clear le a1 hy hx ea e eb hl h0 ha1 hk;lia));have bO:p=b[ib]:=by rw [getElem?_pos b ib (by (clear rp ep le a1 hy hx ea e eb hl h0 ha1 hk;lia))] at ep;exact (Option.some.inj ep).symm
     refine wpS_bind (bI ep (wpS_bind (iu C (yE.k.trans hk) mp ha (by (clear bO rp ep le b1 hy hx ea e eb hl h0 ha1 hk;lia)) (by (clear bO rp ep le b1 hy hx ea e eb hl h0 ha1 hk;lia)) (fun i j h1 h2 h3=>sa i j (by (clear h3 h2 h1 bO rp ep le b1 a1 hy hx ea e eb hl h0 ha1 hk;lia)) h2 (by (clear h2 h1 bO rp ep le b1 hy hx ea e eb hl h0 ha1 hk;lia))) fun k k1 k2 k3=> ?_)));dsimp only
     have mA:MI rk a b (out++a.extract ia (ia+k)) (ia+k) ib:=m.qJ (k:=k) fun i hi hs j j1 j2=>by
      have e1:=QH (k2 i hi);have e2:=sb ib j (by (clear e1 j2 j1 hs hi k1 bO rp ep le b1 a1 hy hx ea e eb hl h0 ha1 hk;lia)) j1 j2;rw [rp] at e2
      (clear j2 j1 hs hi k1 bO rp ep le b1 a1 hy hx ea e eb hl h0 ha1 hk;lia)
     have nxt:∀j,ia+k<=j->j<a.size->R rk b ib<=R rk a j:=fun j j1 j2=>by
      have:=Nf (k3 (j - ia) (by (clear j2 k1 bO rp ep le b1 a1 hy hx ea e eb hl h0 ha1 hk;lia)) (by (clear j1 k1 bO rp ep le b1 hy hx ea e eb hl h0 ha1 hk;lia)));rw [show ia+(j - ia)=j by (clear this j2 k1 bO rp ep le b1 a1 hy hx ea e eb hl h0 ha1 hk;lia)] at this;rw [rp];(clear j2 j1 k1 bO rp ep le b1 a1 hy hx ea e eb hl h0 ha1 hk;lia)
     apply aR
     case' h1=>
      intro kpos;refine aR (fun e=> ?_) (fun e=> ?_)
      ·have e:ia+k+1=a.size:=by simpa using e
       exact wpS_pure ⟨yE,.inl ⟨_,_,rfl,mA.last fun i j _ hi _ hj=>mid i j hi (by (clear hi kpos k1 bO rp ep le b1 a1 hy hx ea eb hl h0 ha1 hk;lia))⟩⟩
      have e1:¬ia+k+1=a.size:=by simpa using e
      refine aR (fun e=> ?_) (fun e=> ?_)
      ·exact wpS_pure ⟨yE,.inl ⟨_,_,rfl,mA.done (.inl (by simpa using e))⟩⟩
      have e2:¬ia+k=a.size:=by simpa using e
      have a3:ia+k+2<=a.size:=by (clear e kpos bO rp ep le b1 hy hx ea eb hl h0 ha1 hk;lia)
      have gw:(a.size - (ia+k))+(b.size - ib)+x+1+y<=a.size+b.size:=by (clear a3 e2 e e1 kpos k1 bO rp ep b1 a1 hy hx ea eb hl h0 ha1 hk;lia)
      generalize out++a.extract ia (ia+k)=aiX at mA ⊢;generalize ia+k=ia3 at mA nxt a3 gw ⊢
     case' h2=>
      intro kpos;have k0:k=0:=by (clear k1 bO rp ep le b1 a1 hy hx ea e eb hl h0 ha1 hk;lia)
      have a3:ia+2<=a.size:=by (clear k0 kpos k1 bO rp ep le b1 hy hx ea e eb hl h0 ha1 hk;lia)
      have gw:(a.size - ia)+(b.size - ib)+x+1+y<=a.size+b.size:=by (clear a3 k0 kpos k1 bO rp ep b1 a1 hy hx ea e eb hl h0 ha1 hk;lia)
      subst k0
      replace nxt:∀j,ia<=j->j<a.size->R rk b ib<=R rk a j:=nxt
      replace mA:=m
     all_goals
      have mB:=mA.tM (by (clear kpos k1 gw a3 bO rp ep le a1 hy hx ea e eb hl h0 ha1 hk;lia)) nxt;rw [←bO] at mB;refine wpS_bind (bI ep ?_);refine aR (fun e=> ?_) (fun e=> ?_)
      ·exact wpS_pure ⟨yE,.inl ⟨_,_,rfl,mB.done (.inr (by simpa using e))⟩⟩
      have e3:¬ib+1=b.size:=by simpa using e
      obtain ⟨q,eq,mq,rq⟩:=Ra _ (show _<a.size from Nat.lt_of_lt_of_le (Nat.lt_succ_of_lt (Nat.lt_succ_self _)) a3);refine wpS_bind (bI eq (wpS_bind (iu C (yE.k.trans hk) mq hb (by (clear rq eq e3 e kpos k1 gw a3 bO rp ep le a1 hy hx ea eb hl h0 ha1 hk;lia)) (by (clear rq eq e kpos k1 gw a3 bO rp ep le a1 hy hx ea eb hl h0 ha1 hk;lia)) (fun i j h1 h2 h3=>sb i j (by (clear h3 h2 h1 rq eq e3 e kpos k1 gw a3 bO rp ep le b1 a1 hy hx ea eb hl h0 ha1 hk;lia)) h2 (by (clear h2 h1 rq eq e3 e kpos k1 gw a3 bO rp ep le a1 hy hx ea eb hl h0 ha1 hk;lia))) fun k' l1 l2 l3=> ?_)));dsimp only
      have mC:=mB.qI (k:=k') fun i hi hs j j1 j2=>by
       have e1:=U4 (l2 i hi);have e2:=sa _ j (by (clear e1 j2 j1 hs hi l1 rq eq e3 e kpos k1 gw a3 bO rp ep le b1 a1 hy hx ea eb hl h0 ha1 hk;lia)) j1 j2;rw [rq] at e2
       (clear j2 j1 hs hi l1 rq eq e3 e kpos k1 gw a3 bO rp ep le b1 a1 hy hx ea eb hl h0 ha1 hk;lia)
      apply aR
      case' h1=>
       intro kpos;refine aR (fun e=> ?_) (fun e=> ?_)
       ·exact wpS_pure ⟨yE,.inl ⟨_,_,rfl,mC.done (.inr (by simpa using e))⟩⟩
       have e5:¬ib+1+k'=b.size:=by simpa using e
       have nx:∀j,ib+1+k'<=j->j<b.size->rk q.1<=R rk b j:=fun j j1 j2=>by
        have:=Bx (l3 (j - (ib+1)) (by (clear j2 e5 e kpos l1 rq eq e3 k1 gw a3 bO rp ep le b1 a1 hy hx ea eb hl h0 ha1 hk;lia)) (by (clear j1 e5 e kpos l1 rq eq k1 gw a3 bO rp ep le a1 hy hx ea eb hl h0 ha1 hk;lia)));rw [show ib+1+(j - (ib+1))=j by (clear this j2 e5 e kpos l1 rq eq e3 k1 gw a3 bO rp ep le b1 a1 hy hx ea eb hl h0 ha1 hk;lia)] at this
        (clear j2 j1 e5 e kpos l1 rq eq e3 k1 gw a3 bO rp ep le b1 a1 hy hx ea eb hl h0 ha1 hk;lia)
       have b3:ib+1+k'+1<=b.size:=by (clear e kpos rq eq e3 k1 gw a3 bO rp ep le a1 hy hx ea eb hl h0 ha1 hk;lia)
      case' h2=>
       intro kpos;have k0:k'=0:=by (clear l1 rq eq e3 e k1 gw a3 bO rp ep le b1 a1 hy hx ea eb hl h0 ha1 hk;lia)
       have nx:∀j,ib+1<=j->j<b.size->rk q.1<=R rk b j:=fun j j1 j2=>by
        have:=Bx (l3 (j - (ib+1)) (by (clear j2 j1 k0 l1 rq eq e3 e k1 gw a3 bO rp ep le b1 a1 hy hx ea eb hl h0 ha1 hk;lia)) (by (clear j1 k0 kpos l1 rq eq e k1 gw a3 bO rp ep le a1 hy hx ea eb hl h0 ha1 hk;lia)));rw [show ib+1+(j - (ib+1))=j by (clear this j2 k0 kpos l1 rq eq e3 e k1 gw a3 bO rp ep le b1 a1 hy hx ea eb hl h0 ha1 hk;lia)] at this
        (clear j2 j1 k0 kpos l1 rq eq e3 e k1 gw a3 bO rp ep le b1 a1 hy hx ea eb hl h0 ha1 hk;lia)
       have b3:ib+1+1<=b.size:=by (clear k0 kpos l1 rq eq e k1 gw a3 bO rp ep le a1 hy hx ea eb hl h0 ha1 hk;lia)
       replace mC:=mB
      all_goals
       have mD:=mC.tO (by (clear b3 kpos l1 rq eq e3 e k1 gw bO rp ep le b1 hy hx ea eb hl h0 ha1 hk;lia)) (fun j j1 j2=>by rw [rq];exact nx j j1 j2);have gB:=Option.some.inj ((getElem?_pos a _ (by (clear b3 kpos l1 rq eq e3 e k1 gw bO rp ep le b1 hy hx ea eb hl h0 ha1 hk;lia))).symm.trans eq);rw [gB] at mD;refine wpS_bind (bI eq ?_);refine aR (fun e=> ?_) (fun e=> ?_)
       ·exact wpS_pure ⟨yE,.inl ⟨_,_,rfl,mD.last fun i j _ hi _ hj=>mid i j hi (by have e:=eq_of_beq e;(clear hi gB b3 kpos l1 rq eq e3 k1 gw a3 bO rp ep le b1 a1 hy hx ea eb hl h0 ha1 hk;lia))⟩⟩
       have e6:¬_=a.size:=fun z=>e (beq_iff_eq.mpr z);refine aR (fun _=> ?_) (fun _=> ?_)
       ·exact wpS_pure ⟨yE,.inr ⟨_,_,_,_,_,_,rfl,mD,by (clear e gB b3 kpos l1 rq eq e3 k1 gw bO rp ep le b1 hy hx ea eb hl h0 ha1 hk;lia),by (clear e6 e gB b3 kpos rq eq k1 gw a3 bO rp ep le a1 hy hx ea eb hl h0 ha1 hk;lia),by (clear e6 e gB b3 kpos l1 rq eq e3 k1 a3 bO rp ep b1 a1 hy hx ea eb hl h0 ha1 hk;lia)⟩⟩
       ·exact wpS_pure ⟨yE,_,_,_,_,_,_,rfl,mD,by (clear e gB b3 kpos l1 rq eq e3 k1 gw bO rp ep le b1 hy hx ea eb hl h0 ha1 hk;lia),by (clear e6 e gB b3 kpos rq eq k1 gw a3 bO rp ep le a1 hy hx ea eb hl h0 ha1 hk;lia),by (clear e6 e gB b3 kpos l1 rq eq e3 k1 a3 bO rp ep hy hx ea eb hl h0 ha1 hk;lia)⟩
end
end Tim
set_option Elab.async false
set_option linter.all false
set_option maxRecDepth 100000
set_option maxHeartbeats 4000000
namespace Tim
open PySem PyProof.Rows
abbrev iW (a b out:Array Keyed) (na nb:Nat):Array Keyed:=a.extract 0 na++b.extract 0 nb++out.reverse
abbrev nu (a b out:Array Keyed) (na nb:Nat):Array Keyed:=b.extract 0 nb++a.extract 0 na++out.reverse
theorem Ab (a b:Array Keyed):uf a b=(do
 rule "list.sort.merge-hi"
 let total:=a.size+b.size
 let mut na:=a.size - 1
 let mut nb:=b.size
 let mut out:Array Keyed:= #[←elem' a na]
 if na==0 then return iW a b out na nb
 if nb==1 then return nu a b out na nb
 let mut minGallop:=gallopOf (←get)
 for _ in [0:total] do
  let mut acount:=0
  let mut bcount:=0
  for _ in [0:total] do
   let some aWins ←lt' (←elem' b (nb - 1)) (←elem' a (na - 1))|return iW a b out na nb
   if aWins then
    na:=na - 1;out:=out.push (←elem' a na);acount:=acount+1;bcount:=0
    if na==0 then return iW a b out na nb
    if acount≥minGallop then break
   else
    nb:=nb - 1;out:=out.push (←elem' b nb);bcount:=bcount+1;acount:=0
    if nb==1 then return nu a b out na nb
    if bcount≥minGallop then break
  rule "list.sort.gallop"
  minGallop:=minGallop+1
  for _ in [0:total] do
   if minGallop>1 then minGallop:=minGallop - 1
   eO minGallop
   let some at_ ←jK false (←elem' b (nb - 1)) a 0 na (na - 1)|return iW a b out na nb
   let k:=na - at_
   acount:=k
   if k>0 then
    out:=out++(a.extract at_ na).reverse;na:=at_
    if na==0 then return iW a b out na nb
   nb:=nb - 1;out:=out.push (←elem' b nb)
   if nb==1 then return nu a b out na nb
   let some at_ ←jK true (←elem' a (na - 1)) b 0 nb (nb - 1)|return iW a b out na nb
   let k:=nb - at_
   bcount:=k
   if k>0 then
    out:=out++(b.extract at_ nb).reverse;nb:=at_
    if nb==1 then return nu a b out na nb
    if nb==0 then return iW a b out na nb
   na:=na - 1;out:=out.push (←elem' a na)
   if na==0 then return iW a b out na nb
   if acount<7&&bcount<7 then break
  minGallop:=minGallop+1
  eO minGallop
 unsupported "internal:list.sort.merge-bound"):=rfl
section
variable {rk:Value->Nat} {a b out:Array Keyed} {na nb k:Nat}
structure MH (rk:Value->Nat) (a b out:Array Keyed) (na nb:Nat):Prop where
 perm:(a.toList.take na++(b.toList.take nb++out.toList.reverse)).Perm (a.toList++b.toList)
 sa:Jf rk (a.toList.take na++out.toList.reverse)
 sb:Jf rk (b.toList.take nb++out.toList.reverse)
theorem Ci (l:List Keyed) {i j:Nat} (h:i<=j):l.take j=l.take i++(l.drop i).take (j - i):=by
 rw [List.take_drop,show i+(j - i)=j by lia];have:=(List.take_append_drop i (l.take j)).symm;rwa [List.take_take,Nat.min_eq_left h] at this
theorem Hu {a:Array Keyed} {x:Keyed} (h:x∈a.toList.take na):∃j,j<na/\j<a.size/\R rk a j=rk x.1:=by
 have h':x∈(a.toList.drop 0).take na:=by rw [List.drop_zero];exact h
 obtain ⟨j,j1,j2,j3⟩:=iD (rk:=rk) h';rw [Nat.zero_add] at j2 j3;exact ⟨j,j1,j2,j3⟩
theorem MH.qJ (m:MH rk a b out na nb) {at_:Nat} (hat:at_<=na) (hle:∀i,at_<=i->i<na->i<a.size -> ∀j,j<nb->j<b.size->R rk b j<=R rk a i):MH rk a b (out++(a.extract at_ na).reverse) at_ nb:=by
 have e:(out++(a.extract at_ na).reverse).toList.reverse=(a.toList.drop at_).take (na - at_)++out.toList.reverse:=by
  rw [Array.toList_append,List.reverse_append,Array.toList_reverse,List.reverse_reverse,cG]
 have sp:=Ci a.toList hat;refine ⟨?_, ?_, ?_⟩
 ·rw [e]
  refine List.Perm.trans ?_ m.perm;rw [sp,List.append_assoc];refine List.Perm.append_left _ ?_;rw [←List.append_assoc,←List.append_assoc];exact List.Perm.append_right _ List.perm_append_comm
 ·rw [e,←List.append_assoc,←sp]
  exact m.sa
 ·rw [e]
  have h1:=m.sa;rw [sp,List.append_assoc] at h1;have h2:=iB.mp (iB.mp h1).2.1;have h3:=iB.mp m.sb;refine iB.mpr ⟨h3.1,iB.mpr ⟨h2.1,h3.2.1,h2.2.2⟩,fun p hp q hq=> ?_⟩;rcases List.mem_append.mp hq with hq|hq
  ·obtain ⟨i,i1,i2,i3⟩:=Hu (rk:=rk) hp
   obtain ⟨j,j1,j2,j3⟩:=iD (rk:=rk) hq;rw [←i3,←j3];exact hle _ (by (clear j3 j2 j1 i3 i2 i1 h3 h2 sp e hat;lia)) (by (clear j3 j2 i3 i2 i1 h3 h2 sp e hat;lia)) j2 i i1 i2
  ·exact h3.2.2 p hp q hq
theorem MH.swap (m:MH rk a b out na nb):MH rk b a out nb na:=by
 refine ⟨?_,m.sb,m.sa⟩;refine List.Perm.trans ?_ (m.perm.trans List.perm_append_comm);rw [←List.append_assoc,←List.append_assoc];exact List.Perm.append_right _ List.perm_append_comm
theorem MH.qI (m:MH rk a b out na nb) {at_:Nat} (hat:at_<=nb) (hle:∀i,at_<=i->i<nb->i<b.size -> ∀j,j<na->j<a.size->R rk a j<=R rk b i):MH rk a b (out++(b.extract at_ nb).reverse) na at_:=(m.swap.qJ hat hle).swap
theorem J2 (h1:1<=na) (h:na<=a.size):out.push (a[na - 1]'(by lia))=out++(a.extract (na - 1) na).reverse:=by
 have e:=zQ (out:= #[]) (b:=a) (ib:=na - 1) (by lia);rw [show na - 1+1=na by (clear e h;lia)] at e
 have e2:a.extract (na - 1) na = #[a[na - 1]'(by (clear e;lia))]:=by
  apply Array.toList_inj.mp;have:=congrArg Array.toList e;rw [Array.toList_append] at this;simpa using this.symm
 rw [e2];apply Array.toList_inj.mp;simp
theorem MH.tO (m:MH rk a b out na nb) (h1:1<=na) (h:na<=a.size) (hle:∀j,j<nb->j<b.size->R rk b j<=R rk a (na - 1)):MH rk a b (out.push (a[na - 1]'(by lia))) (na - 1) nb:=by
 rw [J2 h1 h];refine m.qJ (by (clear h h1;lia)) fun i i1 i2 i3 j j1 j2=> ?_;have:i=na - 1:=by (clear j2 j1 i3 h h1;lia)
 subst this;exact hle j j1 j2
theorem MH.tM (m:MH rk a b out na nb) (h1:1<=nb) (h:nb<=b.size) (hle:∀j,j<na->j<a.size->R rk a j<=R rk b (nb - 1)):MH rk a b (out.push (b[nb - 1]'(by lia))) na (nb - 1):=(m.swap.tO h1 h hle).swap
theorem su:(iW a b out na nb).toList=a.toList.take na++(b.toList.take nb++out.toList.reverse):=by
 unfold iW;rw [Array.toList_append,Array.toList_append,cG,cG,Array.toList_reverse,List.append_assoc];rfl
theorem MH.done (m:MH rk a b out na nb) (h:na=0\/nb=0):Mg rk a b (iW a b out na nb):=by
 refine ⟨by rw [su];exact m.perm, ?_⟩;rw [su];rcases h with h|h
 ·subst h
  exact m.sb
 ·subst h
  exact m.sa
theorem MH.first (m:MH rk a b out na nb) (h:∀i j,i<nb->i<b.size->j<na->j<a.size->R rk b i<=R rk a j):Mg rk a b (nu a b out na nb):=by
 have m2:=m.qJ (at_:=0) (by lia) fun i _ i2 i3 j j1 j2=>h j i j1 j2 i2 i3
 have e:nu a b out na nb=iW a b (out++(a.extract 0 na).reverse) 0 nb:=by
  apply Array.toList_inj.mp;rw [su,su,Array.toList_append,List.reverse_append,Array.toList_reverse,List.reverse_reverse,cG];simp
 rw [e];exact m2.done (.inl rfl)
end
section
variable {prog:Program} {w:World} {A:Around} {E:Value->Shared->Prop} {s:Shared} {κ:SortKind} {a₀:Array Keyed} {rk:Value->Nat}
theorem zq {st:SortSt} {a b:Array Keyed} {Q:Array Keyed->SortSt->Prop} (C:BR prog w A s κ a₀ rk) (hk:kindOf st=κ) (ha:∀p∈a.toList,p∈a₀.toList) (hb:∀p∈b.toList,p∈a₀.toList)
 (ha1:1<=a.size) (hb1:1<=b.size) (sa:Seg rk a 0 a.size) (sb:Seg rk b 0 b.size) (h0:R rk b 0<=R rk a 0) (hl:R rk b (b.size - 1)<=R rk a (a.size - 1))
 (h:∀r st',zj st st'->Mg rk a b r->Q r st'):wpS (model prog w) A E s (uf a b) Q st:=by
 have Wf:∀i,i<b.size -> ∃p,b[i]? = some p/\p∈a₀.toList/\R rk b i=rk p.1:=fun i hi=>⟨b[i],getElem?_pos b i hi,hb _ (by simp),gW hi⟩;have Ra:∀i,i<a.size -> ∃p,a[i]? = some p/\p∈a₀.toList/\R rk a i=rk p.1:=fun i hi=>⟨a[i],getElem?_pos a i hi,ha _ (by simp),gW hi⟩
 have mid:∀i j nb,i<nb->nb=1->j<a.size->R rk b i<=R rk a j:=fun i j nb hi hn hj=>by
  have:=sa 0 j (by (clear hj hn hi hl h0 hb1 ha1 hk;lia)) (by (clear hj hn hi hl h0 hb1 ha1 hk;lia)) hj;have e:i=0:=by (clear this hj hl h0 hb1 ha1 hk;lia)
  subst e
  (clear hi hj hn hl hb1 ha1 hk;lia)
 have m0:MH rk a b #[a[a.size - 1]] (a.size - 1) b.size:=by
  have m:MH rk a b #[] a.size b.size:=by
   refine ⟨?_, ?_, ?_⟩
   ·rw [←Array.length_toList,←Array.length_toList,List.take_length,List.take_length];simp
   ·rw [←Array.length_toList,List.take_length]
    show Jf rk (a.toList++[]);rw [List.append_nil];refine List.pairwise_iff_getElem.mpr fun i j hi hj hij=> ?_;rw [Array.length_toList] at hi hj;have:=sa i j (by (clear hij hj hi hl h0 hb1 ha1 hk;lia)) (by (clear hj hi hl h0 hb1 ha1 hk;lia)) hj;rw [gW hi,gW hj] at this;simpa [Le] using this
   ·rw [←Array.length_toList,List.take_length]
    show Jf rk (b.toList++[]);rw [List.append_nil];refine List.pairwise_iff_getElem.mpr fun i j hi hj hij=> ?_;rw [Array.length_toList] at hi hj;have:=sb i j (by (clear hij hj hi hl h0 hb1 ha1 hk;lia)) (by (clear hj hi hl h0 hb1 ha1 hk;lia)) hj;rw [gW hi,gW hj] at this;simpa [Le] using this
  exact m.tO ha1 (Nat.le_refl _) fun j j1 j2=>Nat.le_trans (sb j (b.size - 1) (by (clear j2 j1 hl h0 hb1 ha1 hk;lia)) (by (clear j2 hl h0 hb1 ha1 hk;lia)) (by (clear j2 j1 hl h0 ha1 hk;lia))) hl
 rw [Ab];refine wpS_bind (wpS_lift (wpAny_rule ⟨rfl, ?_⟩));refine wpS_bind (bI (p:=a[a.size - 1]) (getElem?_pos a _ (by (clear hl h0 hb1 hk;lia))) ?_);dsimp only;refine aR (fun e=> ?_) (fun e=> ?_)
 ·exact wpS_pure (h _ _ (.refl _) (m0.done (.inl (by simpa using e))))
 have ea:¬a.size - 1=0:=fun z=>e (beq_iff_eq.mpr z);refine aR (fun e=> ?_) (fun e=> ?_)
 ·exact wpS_pure (h _ _ (.refl _) (m0.first fun i j i1 i2 j1 j2=>mid i j _ i1 (by simpa using e) j2))
 have eb:¬b.size=1:=by simpa using e
 refine wpS_bind (wpS_get ?_)
 refine wpS_bind (wpS_mono (wpS_forRange (I:=fun x c st'=>zj st st' /\ ∃na nb out mg,c=(none,na,nb,out,mg)/\MH rk a b out na nb/\1<=na/\2<=nb/\na<=a.size/\nb<=b.size/\na+nb+x<=a.size+b.size)
  (Q:=fun c st'=>zj st st' /\ ∃r cc,c=(some r,cc)/\Mg rk a b r) ?step ?fin ⟨.refl _,_,_,_,_,rfl,m0,by (clear eb e hl h0 hb1 hk;lia),by (clear e ea hl h0 hk;lia),by (clear eb e ea hl h0 hb1 hk;lia),by (clear eb e ea hl h0 hb1 hk;lia),by (clear eb e ea hl h0 hb1 hk;lia)⟩) ?post)
 case post=>
  rintro c st' ⟨kp,r,cc,rfl,m⟩;exact wpS_pure (h _ _ kp m)
 case fin=>
  rintro c st' ⟨kp,na,nb,out,mg,rfl,m,a1,b1,a2,b2,le⟩
  (clear b2 a2 b1 eb e ea hl h0 hb1 hk;lia)
 case step=>
  rintro x c st' _ hx ⟨kp,na,nb,out,mg,rfl,m,a1,b1,a2,b2,le⟩;dsimp only
  refine wpS_bind (wpS_mono (wpS_forRange (I:=fun y c st2=>st2=st' /\ ∃na nb out ac bc,c=(none,na,nb,out,ac,bc)/\MH rk a b out na nb/\1<=na/\2<=nb/\na<=a.size/\nb<=b.size/\na+nb+x+y<=a.size+b.size)
   (Q:=fun c st2=>st2=st'/\((∃r cc,c=(some r,cc)/\Mg rk a b r) \/ ∃na nb out ac bc,c=(none,na,nb,out,ac,bc)/\MH rk a b out na nb/\1<=na/\2<=nb/\na<=a.size/\nb<=b.size/\na+nb+x+1<=a.size+b.size)) ?step1 ?Uk ⟨rfl,_,_,_,_,_,rfl,m,a1,b1,a2,b2,by (clear b2 a2 b1 a1 hx eb e ea hl h0 hb1 hk;lia)⟩) ?J8)
  case Uk=>
   rintro c st2 ⟨rfl,na,nb,out,ac,bc,rfl,m,a1,b1,a2,b2,le⟩
   (clear b2 a2 b1 hx eb e ea hl h0 hb1 hk;lia)
  case step1=>
   rintro y c st2 _ hy ⟨rfl,na,nb,out,ac,bc,rfl,m,a1,b1,a2,b2,le⟩;dsimp only;obtain ⟨p,ep,mp,rp⟩:=Wf (nb - 1) (by (clear le a2 b1 a1 hy hx eb e ea hl h0 hb1 hk;lia));obtain ⟨q,eq,mq,rq⟩:=Ra (na - 1) (by (clear rp ep le b2 b1 a1 hy hx eb e ea hl h0 hb1 hk;lia));refine wpS_bind (bI ep (wpS_bind (bI eq (wpS_bind (sO C (kp.k.trans hk) mp mq ?_)))));dsimp only;have bO:b[nb - 1]=p:=Option.some.inj ((getElem?_pos b _ (by (clear rq eq rp ep le a2 b1 a1 hy hx eb e ea hl h0 hb1 hk;lia))).symm.trans ep);have gB:a[na - 1]=q:=Option.some.inj ((getElem?_pos a _ (by (clear bO rq eq rp ep le b2 b1 a1 hy hx eb e ea hl h0 hb1 hk;lia))).symm.trans eq);refine aR (fun lt=> ?_) (fun lt=> ?_)
   ·have lt:R rk b (nb - 1)<R rk a (na - 1):=by rw [rp,rq];simpa using lt
    have m2:=m.tO a1 a2 fun j j1 j2=>by have:=sb j (nb - 1) (by (clear j2 j1 lt gB bO rq eq rp ep le b2 a2 b1 a1 hy hx eb e ea hl h0 hb1 hk;lia)) (by (clear j2 lt gB bO rq eq rp ep le b2 a2 b1 a1 hy hx eb e ea hl h0 hb1 hk;lia)) (by (clear j2 j1 lt gB bO rq eq rp ep le a2 b1 a1 hy hx eb e ea hl h0 hb1 hk;lia));(clear j2 j1 gB bO rq eq rp ep le b2 a2 b1 a1 hy hx eb e ea hl h0 hb1 hk;lia)
    rw [gB] at m2;refine wpS_bind (bI eq ?_);refine aR (fun e=> ?_) (fun e=> ?_)
    ·exact wpS_pure ⟨rfl,.inl ⟨_,_,rfl,m2.done (.inl (by simpa using e))⟩⟩
    have e:¬na - 1=0:=fun z=>e (beq_iff_eq.mpr z);refine aR (fun _=> ?_) (fun _=> ?_)
    ·exact wpS_pure ⟨rfl,.inr ⟨_,_,_,_,_,rfl,m2,by (clear lt gB bO rq eq rp ep le b2 a2 b1 a1 hy hx eb ea hl h0 hb1 hk;lia),b1,by (clear e lt gB bO rq eq rp ep le b2 b1 a1 hy hx eb ea hl h0 hb1 hk;lia),b2,by (clear e lt gB bO rq eq rp ep b2 a2 b1 hy hx eb ea hl h0 hb1 hk;lia)⟩⟩
    ·exact wpS_pure ⟨rfl,_,_,_,_,_,rfl,m2,by (clear lt gB bO rq eq rp ep le b2 a2 b1 a1 hy hx eb ea hl h0 hb1 hk;lia),b1,by (clear e lt gB bO rq eq rp ep le b2 b1 a1 hy hx eb ea hl h0 hb1 hk;lia),b2,by (clear e lt gB bO rq eq rp ep b2 a2 b1 hy hx eb ea hl h0 hb1 hk;lia)⟩
   ·have lt:R rk a (na - 1)<=R rk b (nb - 1):=by rw [rp,rq];simpa using lt
    have m2:=m.tM (by (clear lt gB bO rq eq rp ep le b2 a2 a1 hy hx eb e ea hl h0 hb1 hk;lia)) b2 fun j j1 j2=>by have:=sa j (na - 1) (by (clear j2 j1 lt gB bO rq eq rp ep le b2 a2 b1 a1 hy hx eb e ea hl h0 hb1 hk;lia)) (by (clear j2 lt gB bO rq eq rp ep le b2 a2 b1 a1 hy hx eb e ea hl h0 hb1 hk;lia)) (by (clear j2 j1 lt gB bO rq eq rp ep le b2 b1 a1 hy hx eb e ea hl h0 hb1 hk;lia));(clear j2 j1 gB bO rq eq rp ep le b2 a2 b1 a1 hy hx eb e ea hl h0 hb1 hk;lia)
    rw [bO] at m2;refine wpS_bind (bI ep ?_);refine aR (fun e=> ?_) (fun e=> ?_)
    ·exact wpS_pure ⟨rfl,.inl ⟨_,_,rfl,m2.first fun i j i1 i2 j1 j2=>mid i j _ i1 (eq_of_beq e) j2⟩⟩
    have e:¬nb - 1=1:=fun z=>e (beq_iff_eq.mpr z);refine aR (fun _=> ?_) (fun _=> ?_)
    ·exact wpS_pure ⟨rfl,.inr ⟨_,_,_,_,_,rfl,m2,a1,by (clear lt gB bO rq eq rp ep le b2 a2 a1 hy hx eb ea hl h0 hb1 hk;lia),a2,by (clear e lt gB bO rq eq rp ep le a2 b1 a1 hy hx eb ea hl h0 hb1 hk;lia),by (clear e lt gB bO rq eq rp ep b2 a2 a1 hy hx eb ea hl h0 hb1 hk;lia)⟩⟩
    ·exact wpS_pure ⟨rfl,_,_,_,_,_,rfl,m2,a1,by (clear lt gB bO rq eq rp ep le b2 a2 a1 hy hx eb ea hl h0 hb1 hk;lia),a2,by (clear e lt gB bO rq eq rp ep le a2 b1 a1 hy hx eb ea hl h0 hb1 hk;lia),by (clear e lt gB bO rq eq rp ep b2 a2 a1 hy hx eb ea hl h0 hb1 hk;lia)⟩
  case J8=>
   rintro c st2 ⟨rfl,(⟨r,cc,rfl,mr⟩|⟨na,nb,out,ac,bc,rfl,m,a1,b1,a2,b2,le⟩)⟩
   ·exact wpS_pure ⟨kp,r,_,rfl,mr⟩
   dsimp only;refine wpS_bind (wpS_lift (wpAny_rule ⟨rfl, ?_⟩))
   refine wpS_bind (wpS_mono (wpS_forRange (I:=fun y c st3=>zj st st3 /\ ∃na nb out mg ac bc,c=(none,na,nb,out,mg,ac,bc)/\MH rk a b out na nb/\1<=na/\2<=nb/\na<=a.size/\nb<=b.size/\na+nb+x+1+y<=a.size+b.size)
    (Q:=fun c st3=>zj st st3/\((∃r cc,c=(some r,cc)/\Mg rk a b r) \/ ∃na nb out mg ac bc,c=(none,na,nb,out,mg,ac,bc)/\MH rk a b out na nb/\1<=na/\2<=nb/\na<=a.size/\nb<=b.size/\na+nb+x+1<=a.size+b.size)) ?JF ?fin2 ⟨kp,_,_,_,_,_,_,rfl,m,a1,b1,a2,b2,by (clear b2 a2 b1 a1 hx eb e ea hl h0 hb1 hk;lia)⟩) ?post2)
   case fin2=>
    rintro c st3 ⟨Lb,na,nb,out,mg,ac,bc,rfl,m,a1,b1,a2,b2,le⟩
    (clear b2 a2 b1 a1 hx eb e ea hl h0 hb1 hk;lia)
   case post2=>
    rintro c st3 ⟨Lb,(⟨r,cc,rfl,mr⟩|⟨na,nb,out,mg,ac,bc,rfl,m,a1,b1,a2,b2,le⟩)⟩
    ·exact wpS_pure ⟨Lb,r,_,rfl,mr⟩
    dsimp only;refine wpS_bind (mX fun lW k4=>wpS_pure ⟨Lb.trans k4,_,_,_,_,rfl,m,a1,b1,a2,b2,by (clear b2 a2 b1 a1 hx eb e ea hl h0 hb1 hk;lia)⟩)
   case JF=>
    rintro y c st3 _ hy ⟨Lb,na,nb,out,mg,ac,bc,rfl,m,a1,b1,a2,b2,le⟩;dsimp only;refine aR (fun _=> ?_) (fun _=> ?_)
    all_goals
     refine wpS_bind (mX fun lW k4=> ?_);have yE:=Lb.trans k4;obtain ⟨p,ep,mp,rp⟩:=Wf (nb - 1) (by (clear le a2 b1 a1 hy hx eb e ea hl h0 hb1 hk;lia));have bO:b[nb - 1]=p:=Option.some.inj ((getElem?_pos b _ (by (clear rp ep le a2 b1 a1 hy hx eb e ea hl h0 hb1 hk;lia))).symm.trans ep);refine wpS_bind (bI ep (wpS_bind (iu C (yE.k.trans hk) mp ha (by (clear bO rp ep le b2 b1 a1 hy hx eb e ea hl h0 hb1 hk;lia)) (by (clear bO rp ep le b2 a2 b1 hy hx eb e ea hl h0 hb1 hk;lia)) (fun i j h1 h2 h3=>sa i j (by (clear h3 h2 h1 bO rp ep le b2 a2 b1 a1 hy hx eb e ea hl h0 hb1 hk;lia)) h2 (by (clear h2 h1 bO rp ep le b2 b1 a1 hy hx eb e ea hl h0 hb1 hk;lia))) fun k k1 k2 k3=> ?_)));dsimp only;simp only [Nat.zero_add] at k2 k3
     have mA:=m.qJ k1 fun i i1 i2 i3 j j1 j2=>by
      have e1:=Nf (k3 i i1 i2);have e2:=sb j (nb - 1) (by (clear e1 j2 j1 i3 i2 i1 k1 bO rp ep le b2 a2 b1 a1 hy hx eb e ea hl h0 hb1 hk;lia)) (by (clear e1 j2 i3 i2 i1 k1 bO rp ep le b2 a2 b1 a1 hy hx eb e ea hl h0 hb1 hk;lia)) (by (clear e1 j2 j1 i3 i2 i1 k1 bO rp ep le a2 b1 a1 hy hx eb e ea hl h0 hb1 hk;lia))
      (clear j2 j1 i3 i2 i1 k1 bO ep le b2 a2 b1 a1 hy hx eb e ea hl h0 hb1 hk;lia)
     have nxt:∀j,j<k->j<a.size->R rk a j<=R rk b (nb - 1):=fun j j1 j2=>by
      have:=QH (k2 j j1)
      (clear j2 j1 k1 bO ep le b2 a2 b1 a1 hy hx eb e ea hl h0 hb1 hk;lia)
     apply aR
     case' h1=>
      intro kpos;refine aR (fun e=> ?_) (fun e=> ?_)
      ·exact wpS_pure ⟨yE,.inl ⟨_,_,rfl,mA.done (.inl (by simpa using e))⟩⟩
      have e1:¬k=0:=fun z=>e (beq_iff_eq.mpr z);have a3:1<=k:=by (clear e kpos k1 bO rp ep le b2 a2 b1 a1 hy hx eb ea hl h0 hb1 hk;lia)
      have a4:k<=a.size:=by (clear a3 e1 e kpos bO rp ep le b2 b1 a1 hy hx eb ea hl h0 hb1 hk;lia)
      have gw:k+nb+x+1+y<=a.size+b.size:=by (clear a4 a3 e1 e kpos bO rp ep b2 a2 b1 a1 hy hx eb ea hl h0 hb1 hk;lia)
     case' h2=>
      intro kpos;have k0:k=na:=by (clear bO rp ep le b2 a2 b1 a1 hy hx eb e ea hl h0 hb1 hk;lia)
      have a3:1<=na:=a1;have a4:na<=a.size:=a2;have gw:na+nb+x+1+y<=a.size+b.size:=by (clear a4 a3 k0 kpos k1 bO rp ep b2 a2 b1 a1 hy hx eb e ea hl h0 hb1 hk;lia)
      rw [k0] at nxt
      replace mA:=m
     all_goals
      have mB:=mA.tM (by (clear gw a4 a3 kpos k1 bO rp ep le b2 a2 a1 hy hx eb e ea hl h0 hb1 hk;lia)) b2 nxt;rw [bO] at mB;refine wpS_bind (bI ep ?_);refine aR (fun e=> ?_) (fun e=> ?_)
      ·exact wpS_pure ⟨yE,.inl ⟨_,_,rfl,mB.first fun i j i1 i2 j1 j2=>mid i j _ i1 (eq_of_beq e) j2⟩⟩
      have e3:¬nb - 1=1:=fun z=>e (beq_iff_eq.mpr z);obtain ⟨q,eq,mq,rq⟩:=Ra _ (Nat.lt_of_lt_of_le (Nat.sub_lt a3 Nat.one_pos) a4);refine wpS_bind (bI eq (wpS_bind (iu C (yE.k.trans hk) mq hb (by (clear rq eq e3 e gw a4 a3 kpos k1 bO rp ep le a2 b1 a1 hy hx eb ea hl h0 hb1 hk;lia)) (by (clear rq eq e3 e gw a4 a3 kpos k1 bO rp ep le b2 a2 a1 hy hx eb ea hl h0 hb1 hk;lia)) (fun i j h1 h2 h3=>sb i j (by (clear h3 h2 h1 rq eq e3 e gw a4 a3 kpos k1 bO rp ep le b2 a2 b1 a1 hy hx eb ea hl h0 hb1 hk;lia)) h2 (by (clear h2 h1 rq eq e3 e gw a4 a3 kpos k1 bO rp ep le a2 b1 a1 hy hx eb ea hl h0 hb1 hk;lia))) fun k' l1 l2 l3=> ?_)));dsimp only;simp only [Nat.zero_add] at l2 l3
      have mC:=mB.qI l1 fun i i1 i2 i3 j j1 j2=>by
       have e1:=Bx (l3 i i1 i2);have e2:=sa j _ (by (clear e1 j2 j1 i3 i2 i1 l1 rq eq e3 e gw a4 a3 kpos k1 bO rp ep le b2 a2 b1 a1 hy hx eb ea hl h0 hb1 hk;lia)) (Nat.le_sub_one_of_lt j1) (by (clear e1 j2 j1 i3 i2 i1 l1 rq eq e3 e gw a4 a3 kpos bO rp ep le b2 b1 a1 hy hx eb ea hl h0 hb1 hk;lia))
       (clear j2 j1 i3 i2 i1 l1 eq e3 e gw a4 a3 kpos k1 bO rp ep le b2 a2 b1 a1 hy hx eb ea hl h0 hb1 hk;lia)
      have nx:∀j,j<k'->j<b.size->R rk b j<=rk q.1:=fun j j1 j2=>by
       have:=U4 (l2 j j1)
       (clear j2 j1 l1 rq eq e3 e gw a4 a3 kpos k1 bO rp ep le b2 a2 b1 a1 hy hx eb ea hl h0 hb1 hk;lia)
      apply aR
      case' h1=>
       intro kpos;refine aR (fun e=> ?_) (fun e=> ?_)
       ·exact wpS_pure ⟨yE,.inl ⟨_,_,rfl,mC.first fun i j i1 i2 j1 j2=>mid i j _ i1 (eq_of_beq e) j2⟩⟩
       have e4:¬k'=1:=fun z=>e (beq_iff_eq.mpr z);refine aR (fun e=> ?_) (fun e=> ?_)
       ·exact wpS_pure ⟨yE,.inl ⟨_,_,rfl,mC.done (.inr (by simpa using e))⟩⟩
       have e5:¬k'=0:=fun z=>e (beq_iff_eq.mpr z);have b3:2<=k':=by (clear e kpos l1 rq eq e3 gw a4 a3 k1 bO rp ep le b2 a2 b1 a1 hy hx eb ea hl h0 hb1 hk;lia)
      case' h2=>
       intro kpos;have k0:k'=nb - 1:=by (clear rq eq e3 e gw a4 a3 k1 bO rp ep le b2 a2 b1 a1 hy hx eb ea hl h0 hb1 hk;lia)
       rw [k0] at nx;have b3:2<=nb - 1:=by (clear k0 kpos l1 rq eq e gw a4 a3 k1 bO rp ep le b2 a2 a1 hy hx eb ea hl h0 hb1 hk;lia)
       replace mC:=mB
      all_goals
       have mD:=mC.tO a3 a4 (fun j j1 j2=>by rw [rq];exact nx j j1 j2);have gB:=Option.some.inj ((getElem?_pos a _ (by (clear b3 kpos l1 rq eq e3 e gw k1 bO rp ep le b2 a2 b1 a1 hy hx eb ea hl h0 hb1 hk;lia))).symm.trans eq);rw [gB] at mD;refine wpS_bind (bI eq ?_);refine aR (fun e=> ?_) (fun e=> ?_)
       ·exact wpS_pure ⟨yE,.inl ⟨_,_,rfl,mD.done (.inl (eq_of_beq e))⟩⟩
       have e6:¬_=0:=fun z=>e (beq_iff_eq.mpr z);refine aR (fun _=> ?_) (fun _=> ?_)
       ·exact wpS_pure ⟨yE,.inr ⟨_,_,_,_,_,_,rfl,mD,by (clear e gB b3 kpos l1 rq eq e3 gw a4 a3 k1 bO rp ep le b2 a2 b1 a1 hy hx eb ea hl h0 hb1 hk;lia),by (clear e6 e gB b3 kpos l1 rq eq gw a4 a3 k1 bO rp ep le b2 a2 a1 hy hx eb ea hl h0 hb1 hk;lia),by (clear e6 e gB b3 kpos l1 rq eq e3 gw a4 a3 k1 bO rp ep le b2 b1 a1 hy hx eb ea hl h0 hb1 hk;lia),by (clear e6 e gB b3 kpos rq eq e3 gw a4 a3 k1 bO rp ep le a2 b1 a1 hy hx eb ea hl h0 hb1 hk;lia),by (clear e6 e gB b3 kpos rq eq e3 gw a4 a3 k1 bO rp ep b2 a2 b1 a1 hy hx eb ea hl h0 hb1 hk;lia)⟩⟩
       ·exact wpS_pure ⟨yE,_,_,_,_,_,_,rfl,mD,by (clear e gB b3 kpos l1 rq eq e3 gw a4 a3 k1 bO rp ep le b2 a2 b1 a1 hy hx eb ea hl h0 hb1 hk;lia),by (clear e6 e gB b3 kpos l1 rq eq gw a4 a3 k1 bO rp ep le b2 a2 a1 hy hx eb ea hl h0 hb1 hk;lia),by (clear e6 e gB b3 kpos l1 rq eq e3 gw a4 a3 k1 bO rp ep le b2 b1 a1 hy hx eb ea hl h0 hb1 hk;lia),by (clear e6 e gB b3 kpos rq eq e3 gw a4 a3 k1 bO rp ep le a2 b1 a1 hy hx eb ea hl h0 hb1 hk;lia),by (clear e6 e gB b3 kpos rq eq e3 gw a4 a3 k1 bO rp ep b2 a2 b1 hy hx eb ea hl h0 hb1 hk;lia)⟩
end
end Tim
set_option Elab.async false
set_option linter.all false
set_option maxRecDepth 100000
set_option maxHeartbeats 4000000
namespace Tim
open PySem PyProof.Rows
section
variable {prog:Program} {w:World} {A:Around} {E:Value->Shared->Prop} {s:Shared} {κ:SortKind} {a₀:Array Keyed} {rk:Value->Nat} {pd:Array (Nat×Nat×Nat)}
structure SB (κ:SortKind) (a₀:Array Keyed) (pd:Array (Nat×Nat×Nat)) (st:SortSt):Prop where
 perm:(arrOf st).Perm a₀
 kind:kindOf st=κ
 failed:failedOf st=none
 pend:pendingOf st=pd
theorem SB.size {st:SortSt} (h:SB κ a₀ pd st):(arrOf st).size=a₀.size:=h.perm.size_eq
theorem SB.setArr {st:SortSt} (h:SB κ a₀ pd st) {xs:Array Keyed} (hp:xs.Perm (arrOf st)):SB κ a₀ pd (setArr st xs):=⟨hp.trans h.perm,h.kind,h.failed,h.pend⟩
theorem SB.mem {st:SortSt} (h:SB κ a₀ pd st) {p:Keyed} (hp:p∈(arrOf st).toList):p∈a₀.toList:=(Array.perm_iff_toList_perm.mp h.perm).mem_iff.mp hp
theorem jr {st:SortSt} {i j:Nat} {Q:Option Bool->SortSt->Prop} (C:BR prog w A s κ a₀ rk) (hB:SB κ a₀ pd st) (hi:i<a₀.size) (hj:j<a₀.size) (h:Q (some (decide (R rk (arrOf st) i<R rk (arrOf st) j))) st):
 wpS (model prog w) A E s (ltAt' i j) Q st:=by
 rw [ltAt'_eq];refine wpS_bind (wpS_get ?_);have hi':i<(arrOf st).size:=by rw [hB.size];exact hi
 have hj':j<(arrOf st).size:=by rw [hB.size];exact hj
 rw [gW hi',gW hj'] at h;exact wpS_bind (bI (getElem?_pos (arrOf st) i hi') (wpS_bind (bI (getElem?_pos (arrOf st) j hj') (sO C hB.kind (hB.mem (by simp)) (hB.mem (by simp)) h))))
def Kb (lo:Nat) (st st':SortSt):Prop:=∀i,i<lo->(arrOf st')[i]? = (arrOf st)[i]?
theorem Kb.refl {lo:Nat} {st:SortSt}:Kb lo st st:=fun _ _=>rfl
theorem Kb.trans {lo:Nat} {a b c:SortSt} (h:Kb lo a b) (g:Kb lo b c):Kb lo a c:=fun i hi=>(g i hi).trans (h i hi)
theorem u5 {xs:Array Keyed} {i j:Nat} (hj:j<=xs.size) (k:Nat):R rk (mirror xs i j ((j - i) / 2)) k=if i<=k/\k<j then R rk xs (i+j - 1 - k) else R rk xs k:=by
 have e:=getElem?_mirror_all (i:=i) hj k
 by_cases h1:i<=k/\k<j
 ·rw [if_pos h1] at e ⊢;exact fQ e
 ·rw [if_neg h1] at e ⊢;exact fQ e
theorem nq {st:SortSt} {lo i j:Nat} (hj:j<=(arrOf st).size) (hi:lo<=i):Kb lo st (setArr st (mirror (arrOf st) i j ((j - i) / 2))):=fun k hk=>by
 show (mirror (arrOf st) i j ((j - i) / 2))[k]? = _;rw [getElem?_mirror_all hj,if_neg (by (clear hj;lia))]
theorem iT {xs:Array Keyed} {i j:Nat} (hj:j<=xs.size) (heq:∀k,i<=k->k<j->R rk xs k=R rk xs (j - 1)) (k:Nat):R rk (mirror xs i j ((j - i) / 2)) k=R rk xs k:=by
 rw [u5 hj];split
 ·rw [heq _ (by (clear hj;lia)) (by (clear hj;lia)),heq k (by (clear hj;lia)) (by (clear hj;lia))]
 ·rfl
theorem Bq {xs:Array Keyed} {src d:Nat} (hs:src<xs.size) (hd:d<=src) (k:Nat):
 R rk (bubble xs src d) k=if k=src - d then R rk xs src else if src - d<k/\k<=src then R rk xs (k - 1) else R rk xs k:=by
 have e:=getElem?_bubble hs d hd k
 by_cases h1:k=src - d
 ·rw [if_pos h1] at e ⊢;exact fQ e
 ·rw [if_neg h1] at e ⊢
  by_cases h2:src - d<k/\k<=src
  ·rw [if_pos h2] at e ⊢;exact fQ e
  ·rw [if_neg h2] at e ⊢;exact fQ e
def Vd (rk:Value->Nat) (xs:Array Keyed) (lo hi:Nat):Prop:=∀i j,lo<=i->i<=j->j<hi->R rk xs j<=R rk xs i
theorem wpS_countRun {st:SortSt} {lo nrem:Nat} {Q:Option Nat->SortSt->Prop} (C:BR prog w A s κ a₀ rk) (hn:lo+nrem<=a₀.size) (h1:1<=nrem) (hB:SB κ a₀ pd st)
 (h:∀m st',SB κ a₀ pd st'->Kb lo st st'->1<=m->m<=nrem->Seg rk (arrOf st') lo (lo+m)->Q (some m) st'):wpS (model prog w) A E s (countRun' lo nrem) Q st:=by
 rw [countRun'_eq]
 refine wpS_bind (wpS_mono (wpS_forRange (I:=fun x c st'=>st'=st/\c=(none,x)/\Seg rk (arrOf st) lo (lo+x))
  (Q:=fun c st'=>st'=st /\ ∃n,c=(none,n)/\1<=n/\n<=nrem/\Seg rk (arrOf st) lo (lo+n)/\(n=nrem\/R rk (arrOf st) (lo+n)<R rk (arrOf st) (lo+n - 1))) ?step ?fin ⟨rfl,rfl,fun i j a b c=>by rw [show i=j by (clear h1 hn;lia)];exact Nat.le_refl _⟩) ?post)
 case fin=>
  rintro c st' ⟨rfl,rfl,hs⟩;rw [show max 1 nrem=nrem by (clear hn;lia)] at hs ⊢;exact ⟨rfl,nrem,rfl,h1,Nat.le_refl _,hs,.inl rfl⟩
 case step=>
  rintro x c st' x1 xn ⟨rfl,rfl,hs⟩;dsimp only;refine wpS_bind (jr C hB (by (clear x1 h1;lia)) (by (clear x1 h1;lia)) ?_);dsimp only;refine aR (fun lt=> ?_) (fun lt=> ?_)
  ·exact wpS_pure ⟨rfl,x,rfl,x1,by (clear lt x1 h1 hn;lia),hs,.inr (of_decide_eq_true lt)⟩
  ·have lt:R rk (arrOf st') (lo+x - 1)<=R rk (arrOf st') (lo+x):=Nat.le_of_not_lt fun z=>lt (decide_eq_true z)
   refine wpS_pure ⟨rfl,rfl,fun i j a b c=> ?_⟩
   by_cases hj:j<lo+x
   ·exact hs i j a b hj
   ·have:j=lo+x:=by (clear b a lt xn x1 h1 hn;lia)
    subst this
    by_cases hi:i=lo+x
    ·rw [hi];exact Nat.le_refl _
    ·exact Nat.le_trans (hs i (lo+x - 1) a (by (clear hj c a lt xn x1 h1 hn;lia)) (by (clear hi hj c b a lt xn h1 hn;lia))) lt
 case post=>
  rintro c st' ⟨rfl,n,rfl,n1,nn,hs,hor⟩;dsimp only;have hsz:(arrOf st').size=a₀.size:=hB.size;refine aR (fun e=> ?_) (fun e=> ?_)
  ·exact wpS_pure (h n _ hB Kb.refl n1 nn hs)
  have e:¬n=nrem:=fun z=>e (beq_iff_eq.mpr z);have lt:=hor.resolve_left e;have n2:n+1<=nrem:=by (clear lt hsz hor n1 h1 hn;lia)
  apply aR
  case' h1=>
   intro gt;refine wpS_bind (jr C hB (by (clear gt n2 lt e hsz hor nn n1;lia)) (by (clear gt n2 lt e hsz hor n1;lia)) ?_);dsimp only;refine aR (fun rose=> ?_) (fun rose=> ?_)
   ·exact wpS_pure (h n _ hB Kb.refl n1 nn hs)
   have rose:R rk (arrOf st') (lo+n - 1)<=R rk (arrOf st') lo:=Nat.le_of_not_lt fun z=>rose (decide_eq_true z)
   have all:∀k,lo<=k->k<lo+n->R rk (arrOf st') k=R rk (arrOf st') (lo+n - 1):=fun k k1 k2=>by
    have a1:=hs lo k (Nat.le_refl _) k1 k2;have a2:=hs k (lo+n - 1) k1 (by (clear a1 k1 rose gt n2 lt e hsz hor nn n1 h1 hn;lia)) (by (clear a1 k2 k1 rose gt n2 lt e hsz hor nn h1 hn;lia))
    (clear k2 k1 gt n2 lt e hsz hor nn n1 h1 hn;lia)
   rw [reverseSlice'_eq];refine wpS_bind (wpS_modify ?_);have kj:SB κ a₀ pd (setArr st' (mirror (arrOf st') lo (lo+n) ((lo+n - lo) / 2))):=hB.setArr (mirror_perm _ _ _ _);have k1:Kb lo st' (setArr st' (mirror (arrOf st') lo (lo+n) ((lo+n - lo) / 2))):=nq (by (clear rose gt n2 lt e hor n1 h1;lia)) (Nat.le_refl _)
   have dw:Vd rk (arrOf (setArr st' (mirror (arrOf st') lo (lo+n) ((lo+n - lo) / 2)))) lo (lo+n+1):=fun i j a b c=>by
    show R rk (mirror _ _ _ _) j<=R rk (mirror _ _ _ _) i;rw [iT (by (clear c b a rose gt n2 lt e hor n1 h1;lia)) all,iT (by (clear c b a rose gt n2 lt e hor n1 h1;lia)) all]
    by_cases hj:j<lo+n
    ·rw [all i a (by (clear c a rose gt n2 lt e hsz hor nn n1 h1 hn;lia)),all j (by (clear hj c rose gt n2 lt e hsz hor nn n1 h1 hn;lia)) hj];exact Nat.le_refl _
    ·have:j=lo+n:=by (clear b a rose gt n2 lt e hsz hor nn n1 h1 hn;lia)
     subst this
     by_cases hi:i=lo+n
     ·rw [hi];exact Nat.le_refl _
     ·rw [all i a (by (clear hj c a rose gt n2 lt e hsz hor nn n1 h1 hn;lia))];(clear hi hj c b a rose gt n2 lt hsz nn n1 h1 hn;lia)
   generalize setArr st' (mirror (arrOf st') lo (lo+n) ((lo+n - lo) / 2))=st1 at kj k1 dw ⊢
  case' h2=>
   intro gt;have kj:=hB;have k1:Kb lo st' st':=Kb.refl
   have dw:Vd rk (arrOf st') lo (lo+n+1):=fun i j a b c=>by
    have e1:n=1:=by (clear c b a n2 lt e hsz hor nn h1 hn;lia)
    subst e1
    by_cases hi:i=j
    ·rw [hi];exact Nat.le_refl _
    ·have:i=lo+1 - 1:=by (clear gt n2 lt e hor nn n1 hsz h1 hn;lia)
     have:j=lo+1:=by (clear this gt n2 lt e hor nn n1 hsz h1 hn;lia)
     subst_vars
     (clear hi b c a gt n2 lt nn n1 hsz h1 hn;lia)
   revert kj k1 dw;generalize hst:st'=st1;intro kj k1 dw
  all_goals
   refine wpS_bind (wpS_lift (wpAny_rule ⟨rfl, ?_⟩))
   refine wpS_bind (wpS_mono (wpS_forRange (I:=fun x c st2=>∃neq,c=(none,x,neq)/\SB κ a₀ pd st2/\Kb lo st1 st2/\Vd rk (arrOf st2) lo (lo+x)/\neq+1<=x/\(∀i,lo+x - (neq+1)<=i->i<lo+x->R rk (arrOf st2) i=R rk (arrOf st2) (lo+x - 1)))
    (Q:=fun c st2=>∃x neq,c=(none,x,neq)/\n+1<=x/\x<=nrem/\SB κ a₀ pd st2/\Kb lo st1 st2/\Vd rk (arrOf st2) lo (lo+x)/\neq+1<=x/\(∀i,lo+x - (neq+1)<=i->i<lo+x->R rk (arrOf st2) i=R rk (arrOf st2) (lo+x - 1))) ?_ ?_ ⟨0,rfl,kj,Kb.refl,dw,by (clear gt n2 lt e hsz hor nn n1 h1 hn;lia),fun i a b=>by congr 1;(clear gt n2 lt e hsz hor nn n1 h1 hn;lia)⟩) ?_)
   ·rintro x c st2 x1 xn ⟨neq,rfl,hB2,k2,d2,q2,e2⟩
    dsimp only;have kh:(arrOf st2).size=a₀.size:=hB2.size;refine wpS_bind (jr C hB2 (by (clear kh q2 x1 gt n2 lt e hsz hor nn n1 h1;lia)) (by (clear kh q2 x1 gt n2 lt e hsz hor nn n1 h1;lia)) ?_);dsimp only;refine aR (fun lt=> ?_) (fun lt=> ?_)
    ·have lt:R rk (arrOf st2) (lo+x)<R rk (arrOf st2) (lo+x - 1):=of_decide_eq_true lt
     have step1:∀xs:Array Keyed,(∀k,R rk xs k=R rk (arrOf st2) k)->Vd rk xs lo (lo+(x+1)):=by
      intro xs hk i j a b c;rw [hk,hk]
      by_cases hj:j<lo+x
      ·exact d2 i j a b hj
      ·have:j=lo+x:=by (clear b a lt kh q2 xn x1 gt n2 e hsz hor nn n1 h1 hn;lia)
       subst this
       by_cases hi:i=lo+x
       ·rw [hi];exact Nat.le_refl _
       ·exact Nat.le_trans (Nat.le_of_lt lt) (d2 i (lo+x - 1) a (by (clear hj c a lt kh q2 xn x1 gt n2 e hsz hor nn n1 h1 hn;lia)) (by (clear hi hj c b a lt kh q2 xn gt n2 e hsz hor nn n1 h1 hn;lia)))
     refine aR (fun _=> ?_) (fun _=> ?_)
     ·rw [reverseSlice'_eq]
      refine wpS_bind (wpS_modify (wpS_pure ⟨0,rfl,hB2.setArr (mirror_perm _ _ _ _),k2.trans (nq (by (clear lt q2 x1 gt n2 e hsz hor nn n1 h1;lia)) (by (clear lt kh xn x1 gt n2 e hsz hor nn n1 h1 hn;lia))),step1 _ (iT (by (clear lt q2 x1 gt n2 e hsz hor nn n1 h1;lia)) e2),by (clear lt kh q2 xn x1 gt n2 e hsz hor nn n1 h1 hn;lia),fun i a b=>by congr 1;(clear lt kh q2 xn x1 gt n2 e hsz hor nn n1 h1 hn;lia)⟩))
     ·exact wpS_pure ⟨0,rfl,hB2,k2,step1 _ (fun _=>rfl),by (clear lt kh q2 xn x1 gt n2 e hsz hor nn n1 h1 hn;lia),fun i a b=>by congr 1;(clear lt kh q2 xn x1 gt n2 e hsz hor nn n1 h1 hn;lia)⟩
    ·have ge:R rk (arrOf st2) (lo+x - 1)<=R rk (arrOf st2) (lo+x):=Nat.le_of_not_lt fun z=>lt (decide_eq_true z)
     refine wpS_bind (jr C hB2 (by (clear ge lt kh q2 x1 gt n2 e hsz hor nn n1 h1;lia)) (by (clear ge lt kh q2 x1 gt n2 e hsz hor nn n1 h1;lia)) ?_);dsimp only;refine aR (fun lg=> ?_) (fun lg=> ?_)
     ·exact wpS_pure ⟨x,neq,rfl,x1,by (clear lg ge lt kh q2 x1 gt n2 e hsz hor nn n1 h1 hn;lia),hB2,k2,d2,q2,e2⟩
     ·have le:R rk (arrOf st2) (lo+x)<=R rk (arrOf st2) (lo+x - 1):=Nat.le_of_not_lt fun z=>lg (decide_eq_true z)
      have Qa:R rk (arrOf st2) (lo+x)=R rk (arrOf st2) (lo+x - 1):=by (clear lg lt kh q2 xn x1 gt n2 e hsz hor nn n1 h1 hn;lia)
      refine wpS_pure ⟨neq+1,rfl,hB2,k2,fun i j a b c=> ?_,by (clear Qa le lg ge lt kh xn x1 gt n2 e hsz hor nn n1 h1 hn;lia),fun i a b=> ?_⟩
      ·by_cases hj:j<lo+x
       ·exact d2 i j a b hj
       ·have:j=lo+x:=by (clear b a Qa le lg ge lt kh q2 xn x1 gt n2 e hsz hor nn n1 h1 hn;lia)
        subst this
        by_cases hi:i=lo+x
        ·rw [hi];exact Nat.le_refl _
        ·rw [Qa];exact d2 i (lo+x - 1) a (by (clear hj c a Qa le lg ge lt kh q2 xn x1 gt n2 e hsz hor nn n1 h1 hn;lia)) (by (clear hi hj c b a Qa le lg ge lt kh q2 xn gt n2 e hsz hor nn n1 h1 hn;lia))
      ·rw [show lo+(x+1) - 1=lo+x by (clear b a Qa le lg ge lt kh q2 xn x1 gt n2 e hsz hor nn n1 h1 hn;lia)]
       by_cases hi:i=lo+x
       ·rw [hi]
       ·rw [Qa];exact e2 i (by (clear hi b Qa le lg ge lt kh q2 xn x1 gt n2 e hsz hor nn n1 h1 hn;lia)) (by (clear a Qa le lg ge lt kh q2 xn x1 gt n2 e hsz hor nn n1 h1 hn;lia))
   ·rintro c st2 ⟨neq,rfl,hB2,k2,d2,q2,e2⟩
    rw [show max (n+1) nrem=nrem by (clear q2 gt n2 lt hsz hor n1 h1 hn;lia)] at d2 q2 e2 ⊢;exact ⟨nrem,neq,rfl,n2,Nat.le_refl _,hB2,k2,d2,q2,e2⟩
   ·rintro c st2 ⟨x,neq,rfl,x1,xn,hB2,k2,d2,q2,e2⟩
    dsimp only;have kh:(arrOf st2).size=a₀.size:=hB2.size;apply aR
    case' h1=>
     intro _;rw [reverseSlice'_eq];refine wpS_bind (wpS_modify ?_);have hB3:SB κ a₀ pd (setArr st2 (mirror (arrOf st2) (lo+x - (neq+1)) (lo+x) ((lo+x - (lo+x - (neq+1))) / 2))):=hB2.setArr (mirror_perm _ _ _ _);have k3:=k2.trans (nq (st:=st2) (lo:=lo) (i:=lo+x - (neq+1)) (j:=lo+x) (by (clear q2 x1 gt n2 lt e hsz hor nn n1 h1;lia)) (by (clear kh xn x1 gt n2 lt e hsz hor nn n1 h1 hn;lia)))
     have d3:Vd rk (arrOf (setArr st2 (mirror (arrOf st2) (lo+x - (neq+1)) (lo+x) ((lo+x - (lo+x - (neq+1))) / 2)))) lo (lo+x):=fun i j a b c=>by
      show R rk (mirror _ _ _ _) j<=R rk (mirror _ _ _ _) i;rw [iT (by (clear c b a q2 x1 gt n2 lt e hsz hor nn n1 h1;lia)) e2,iT (by (clear c b a q2 x1 gt n2 lt e hsz hor nn n1 h1;lia)) e2];exact d2 i j a b c
     generalize setArr st2 (mirror (arrOf st2) (lo+x - (neq+1)) (lo+x) ((lo+x - (lo+x - (neq+1))) / 2))=st3 at hB3 k3 d3 ⊢
    case' h2=>
     intro _;have hB3:=hB2;have k3:=k2;have d3:=d2;revert hB3 k3 d3;generalize st2=st3;intro hB3 k3 d3
    all_goals
     have Em:(arrOf st3).size=a₀.size:=hB3.size;rw [reverseSlice'_eq];refine wpS_bind (wpS_modify ?_);have qC:SB κ a₀ pd (setArr st3 (mirror (arrOf st3) lo (lo+x) ((lo+x - lo) / 2))):=hB3.setArr (mirror_perm _ _ _ _);have k4:=k3.trans (nq (st:=st3) (lo:=lo) (i:=lo) (j:=lo+x) (by (clear kh q2 x1 gt n2 lt e hsz hor nn n1 h1;lia)) (by (clear Em kh q2 xn x1 gt n2 lt e hsz hor nn n1 h1 hn;lia)))
     have s4:Seg rk (arrOf (setArr st3 (mirror (arrOf st3) lo (lo+x) ((lo+x - lo) / 2)))) lo (lo+x):=fun i j a b c=>by
      show R rk (mirror _ _ _ _) i<=R rk (mirror _ _ _ _) j;rw [u5 (by (clear c b a kh q2 x1 gt n2 lt e hsz hor nn n1 h1;lia)),u5 (by (clear c b a kh q2 x1 gt n2 lt e hsz hor nn n1 h1;lia)),if_pos (by (clear Em kh q2 xn x1 gt n2 lt e hsz hor nn n1 h1 hn;lia)),if_pos (by (clear Em kh q2 xn x1 gt n2 lt e hsz hor nn n1 h1 hn;lia))];exact d3 _ _ (by (clear b a Em kh q2 xn x1 gt n2 lt e hsz hor nn n1 h1 hn;lia)) (by (clear c a Em kh q2 xn x1 gt n2 lt e hsz hor nn n1 h1 hn;lia)) (by (clear c b Em kh q2 xn gt n2 lt e hsz hor nn n1 h1 hn;lia))
     generalize setArr st3 (mirror (arrOf st3) lo (lo+x) ((lo+x - lo) / 2))=lW at qC k4 s4 ⊢
     refine wpS_bind (wpS_mono (wpS_forRange (I:=fun y c zf=>zf=lW/\c=(none,y)/\Seg rk (arrOf lW) lo (lo+y))
      (Q:=fun c zf=>zf=lW /\ ∃y,c=(none,y)/\x<=y/\y<=nrem/\Seg rk (arrOf lW) lo (lo+y)) ?_ ?_ ⟨rfl,rfl,s4⟩) ?_)
     ·rintro y c zf y1 yn ⟨rfl,rfl,Rg⟩
      dsimp only;refine wpS_bind (jr C qC (by (clear y1 Em kh q2 xn x1 gt n2 lt e hsz hor nn n1 h1;lia)) (by (clear y1 Em kh q2 xn x1 gt n2 lt e hsz hor nn n1 h1;lia)) ?_);dsimp only;refine aR (fun lt=> ?_) (fun lt=> ?_)
      ·exact wpS_pure ⟨rfl,y,rfl,y1,by (clear lt y1 Em kh q2 xn x1 gt n2 e hsz hor nn n1 h1 hn;lia),Rg⟩
      ·have lt:R rk (arrOf zf) (lo+y - 1)<=R rk (arrOf zf) (lo+y):=Nat.le_of_not_lt fun z=>lt (decide_eq_true z)
       refine wpS_pure ⟨rfl,rfl,fun i j a b c=> ?_⟩
       by_cases hj:j<lo+y
       ·exact Rg i j a b hj
       ·have:j=lo+y:=by (clear b a lt yn y1 Em kh q2 xn x1 gt n2 e hsz hor nn n1 h1 hn;lia)
        subst this
        by_cases hi:i=lo+y
        ·rw [hi];exact Nat.le_refl _
        ·exact Nat.le_trans (Rg i (lo+y - 1) a (by (clear hj c a lt yn y1 Em kh q2 xn x1 gt n2 e hsz hor nn n1 h1 hn;lia)) (by (clear hi hj c b a lt yn Em kh q2 xn gt n2 e hsz hor nn n1 h1 hn;lia))) lt
     ·rintro c zf ⟨rfl,rfl,Rg⟩
      rw [show max x nrem=nrem by (clear Em kh q2 x1 gt n2 lt e hsz hor nn n1 h1 hn;lia)] at Rg ⊢;exact ⟨rfl,nrem,rfl,xn,Nat.le_refl _,Rg⟩
     ·rintro c zf ⟨rfl,y,rfl,y1,yn,Rg⟩
      exact wpS_pure (h y _ qC (by first |exact k1.trans k4|(subst hst;exact k4)) (by (clear yn Em kh q2 xn gt n2 lt e hsz hor nn n1 h1 hn;lia)) yn Rg)
theorem wpS_binarySort {st:SortSt} {lo n ok:Nat} {Q:Bool->SortSt->Prop} (C:BR prog w A s κ a₀ rk) (hn:lo+n<=a₀.size) (hok:ok<=n) (hB:SB κ a₀ pd st) (hs:Seg rk (arrOf st) lo (lo+ok))
 (h:∀st',SB κ a₀ pd st'->Kb lo st st'->Seg rk (arrOf st') lo (lo+n)->Q true st'):wpS (model prog w) A E s (binarySort' lo n ok) Q st:=by
 rw [binarySort'_eq]
 refine wpS_bind (wpS_mono (wpS_forRange (I:=fun k c st'=>c=(none,())/\SB κ a₀ pd st'/\Kb lo st st'/\Seg rk (arrOf st') lo (lo+min k n))
  (Q:=fun c st'=>c=(none,())/\SB κ a₀ pd st'/\Kb lo st st'/\Seg rk (arrOf st') lo (lo+n)) ?step ?fin ?init) ?post)
 case post=>
  rintro c st' ⟨rfl,hB',k',hs'⟩;exact wpS_pure (h st' hB' k' hs')
 case init=>
  refine ⟨rfl,hB,Kb.refl,fun i j a b c=> ?_⟩
  by_cases h1:ok=0
  ·rw [show i=j by (clear hok hn;lia)];exact Nat.le_refl _
  ·exact hs i j a b (by (clear b a hok hn;lia))
 case fin=>
  rintro c st' ⟨hc,hB',k',hs'⟩;refine ⟨hc,hB',k', ?_⟩;rwa [show min (max (max ok 1) n) n=n by (clear hc hok hn;lia)] at hs'
 case step=>
  rintro k c st' hak hkn ⟨rfl,hB',k',hs'⟩;rw [show min k n=k by (clear hak hok hn;lia)] at hs';have sz:(arrOf st').size=a₀.size:=hB'.size
  refine wpS_bind (wpS_mono (wpS_forRange (I:=fun x c st''=>st''=st' /\ ∃l r,c=(none,l,r)/\l<=r/\r<=k/\r - l<=k - x /\
   (∀i,i<l->R rk (arrOf st') (lo+i)<=R rk (arrOf st') (lo+k))/\(∀i,r<=i->i<k->R rk (arrOf st') (lo+k)<R rk (arrOf st') (lo+i)))
   (Q:=fun c st''=>st''=st' /\ ∃l r,c=(none,l,r)/\l<=k /\
     (∀i,i<l->R rk (arrOf st') (lo+i)<=R rk (arrOf st') (lo+k))/\(∀i,l<=i->i<k->R rk (arrOf st') (lo+k)<R rk (arrOf st') (lo+i))) ?istep ?ifin ?iinit) ?ipost)
  case iinit=>exact ⟨rfl,0,k,rfl,by (clear sz hkn hak hok hn;lia),by (clear sz hkn hak hok hn;lia),by (clear sz hkn hak hok hn;lia),fun i hi=>by (clear sz hkn hak hok hn;lia),fun i h1 h2=>by (clear sz hkn hak hok hn;lia)⟩
  case ifin=>
   rintro c st'' ⟨rfl,l,r,rfl,hlr,hrk,hm,hlo,hhi⟩;have:l=r:=by (clear hrk sz hkn hak hok hn;lia)
   subst this;exact ⟨rfl,l,l,rfl,hrk,hlo,hhi⟩
  case istep=>
   rintro x c st'' _ hxk ⟨rfl,l,r,rfl,hlr,hrk,hm,hlo,hhi⟩;dsimp only;refine aR (fun hge=> ?_) (fun hge=> ?_)
   ·have:l=r:=by (clear hm hrk sz hxk hkn hak hok hn;lia)
    subst this;exact wpS_pure ⟨rfl,l,l,rfl,hrk,hlo,hhi⟩
   ·refine wpS_bind (jr C hB' (by (clear hge hm hrk hlr sz hxk hak hok;lia)) (by (clear hge hm sz hxk hak hok;lia)) ?_)
    dsimp only;refine aR (fun lt=> ?_) (fun lt=> ?_)
    ·have lt:=of_decide_eq_true lt
     refine wpS_pure ⟨rfl,l,(l+r) / 2,rfl,by (clear lt hge hm hrk sz hxk hkn hak hok hn;lia),by (clear lt hge hm sz hxk hkn hak hok hn;lia),by (clear lt hge hrk hlr sz hxk hkn hak hok hn;lia),hlo,fun i h1 h2=> ?_⟩;exact Nat.lt_of_lt_of_le lt (hs' _ _ (by (clear h2 h1 lt hge hm hrk hlr sz hxk hkn hak hok hn;lia)) (by (clear h2 lt hge hm hrk hlr sz hxk hkn hak hok hn;lia)) (by (clear h1 lt hge hm hrk hlr sz hxk hkn hak hok hn;lia)))
    ·have lt:R rk (arrOf st'') (lo+(l+r) / 2)<=R rk (arrOf st'') (lo+k):=Nat.le_of_not_lt fun z=>lt (decide_eq_true z)
     refine wpS_pure ⟨rfl,(l+r) / 2+1,r,rfl,by (clear lt hm hrk hlr sz hxk hkn hak hok hn;lia),by (clear lt hge hm hlr sz hxk hkn hak hok hn;lia),by (clear lt hge hrk hlr sz hxk hkn hak hok hn;lia),fun i h1=> ?_,hhi⟩;exact Nat.le_trans (hs' (lo+i) (lo+(l+r) / 2) (by (clear h1 lt hge hm hrk hlr sz hxk hkn hak hok hn;lia)) (by (clear lt hge hm hrk hlr sz hxk hkn hak hok hn;lia)) (by (clear h1 lt hm hlr sz hxk hkn hak hok hn;lia))) lt
  case ipost=>
   rintro c st'' ⟨rfl,l,r,rfl,hlk,hlo,hhi⟩;show wpS _ _ _ _ (do moveDown' (lo+k) (lo+l);pure (ForInStep.yield (none,()))) _ _;rw [moveDown'_eq];refine wpS_bind (wpS_modify (wpS_pure ⟨rfl,hB'.setArr (bubble_perm _ _ _),k'.trans ?_, ?_⟩))
   ·intro i hi
    show (bubble (arrOf st'') (lo+k) (lo+k - (lo+l)))[i]? = _;rw [getElem?_bubble (by (clear hi hlk hak hok;lia)) _ (by (clear hi hlk sz hkn hak hok hn;lia)),if_neg (by (clear hlk sz hkn hak hok hn;lia)),if_neg (by (clear hlk sz hkn hak hok hn;lia))]
   rw [show min (k+1) n=k+1 by (clear hlk sz hak hok hn;lia)];intro i j a b c;show R rk (bubble (arrOf st'') (lo+k) (lo+k - (lo+l))) i<=R rk (bubble (arrOf st'') (lo+k) (lo+k - (lo+l))) j;rw [Bq (by (clear c b a hlk hak hok;lia)) (by (clear c b a hlk sz hkn hak hok hn;lia)),Bq (by (clear c b a hlk hak hok;lia)) (by (clear c b a hlk sz hkn hak hok hn;lia)),show lo+k - (lo+k - (lo+l))=lo+l by (clear c b a sz hkn hak hok hn;lia)]
   have L1:∀i,lo<=i->i<lo+l->R rk (arrOf st'') i<=R rk (arrOf st'') (lo+k):=fun i i1 i2=>by
    have:=hlo (i - lo) (by (clear c b a hlk sz hkn hak hok hn;lia));rwa [show lo+(i - lo)=i by (clear this i2 c b a hlk sz hkn hak hok hn;lia)] at this
   have L2:∀i,lo+l<=i->i<lo+k->R rk (arrOf st'') (lo+k)<R rk (arrOf st'') i:=fun i i1 i2=>by
    have:=hhi (i - lo) (by (clear i2 c b a hlk sz hkn hak hok hn;lia)) (by (clear i1 c b a hlk sz hkn hok hn;lia));rwa [show lo+(i - lo)=i by (clear this i2 c b a hlk sz hkn hak hok hn;lia)] at this
   repeat' split
   all_goals first
    | (exfalso;(clear a hlk sz hkn hak hok hn;lia))
    | exact Nat.le_refl _
    | exact L1 _ (by (clear c b hlk sz hkn hak hok hn;lia)) (by (clear c a hlk sz hkn hak hok hn;lia))
    | exact Nat.le_of_lt (L2 _ (by (clear c b a hlk sz hkn hak hok hn;lia)) (by (clear c b a hlk sz hkn hak hok hn;lia)))
    | exact hs' _ _ (by (clear c b hlk sz hkn hak hok hn;lia)) (by (clear c a hlk sz hkn hak hok hn;lia)) (by (clear b a sz hkn hak hok hn;lia))
end
end Tim
set_option Elab.async false
set_option linter.all false
set_option maxRecDepth 100000
set_option maxHeartbeats 4000000
namespace Tim
open PySem PyProof.Rows
theorem Ac (i:Nat):mergeAt' i=(do
 let s ←get
 let (some (sa,na,power),some (sb,nb,_)):=((pendingOf s)[i]?,(pendingOf s)[i+1]?)|unsupported "internal:list.sort.pending"
 set (SortSt.mk' (kindOf s) (arrOf s) (((pendingOf s).setIfInBounds i (sa,na+nb,power)).eraseIdxIfInBounds (i+1)) (gallopOf s) (failedOf s))
 let some k ←jK false (←elem' (arrOf s) sb) (arrOf s) sa na 0|return false
 let (sa,na):=(sa+k,na - k)
 if na==0 then return true
 let some nb ←jK true (←elem' (arrOf s) (sa+na - 1)) (arrOf s) sb nb (nb - 1)|return false
 if nb==0 then return true
 let x:=(arrOf s).extract sa sb
 let y:=(arrOf s).extract sb (sb+nb)
 let merged ←if na<=nb then ud x y else uf x y
 modify fun s=>setArr s (merged.toList.zipIdx.foldl (fun a (p,j)=>a.setIfInBounds (sa+j) p) (arrOf s))
 return (failedOf (←get)).isNone):=rfl
section
variable {prog:Program} {w:World} {A:Around} {E:Value->Shared->Prop} {s:Shared} {κ:SortKind} {a₀:Array Keyed} {rk:Value->Nat} {pd:Array (Nat×Nat×Nat)}
theorem Fd (b:Nat) (m:List Keyed):∀(n:Nat) (xs:Array Keyed) (j:Nat),b+n+m.length<=xs.size->((m.zipIdx n).foldl (fun a x=>a.setIfInBounds (b+x.2) x.1) xs)[j]? = if b+n<=j/\j<b+n+m.length then m[j - (b+n)]? else xs[j]? :=by
 induction m with
 | nil=>intro n xs j h;rw [if_neg (by simp)];rfl
 | cons p m ih=>
   intro n xs j h;rw [List.length_cons] at h;rw [List.zipIdx_cons,List.foldl_cons,ih (n+1) _ j (by rw [Array.size_setIfInBounds];lia)]
   by_cases e:j=b+n
   ·subst e
    rw [if_neg (by (clear h;lia)),if_pos (by rw [List.length_cons];(clear h;lia)),Nat.sub_self];rw [Array.getElem?_setIfInBounds_self_of_lt (by lia)];rfl
   ·by_cases c:b+(n+1)<=j/\j<b+(n+1)+m.length
    ·rw [if_pos c,if_pos (by rw [List.length_cons];(clear e h;lia)),show j - (b+n)=(j - (b+(n+1)))+1 by (clear e h;lia),List.getElem?_cons_succ]
    ·rw [if_neg c,if_neg (by rw [List.length_cons];(clear h;lia)),Array.getElem?_setIfInBounds_ne (Ne.symm e)]
theorem J0 {b n:Nat} {m:List Keyed} {xs:Array Keyed} (hl:m.length=n) (hb:b+n<=xs.size) (hp:m.Perm ((xs.toList.drop b).take n)):((m.zipIdx).foldl (fun a x=>a.setIfInBounds (b+x.2) x.1) xs).Perm xs:=by
 have e:((m.zipIdx).foldl (fun a x=>a.setIfInBounds (b+x.2) x.1) xs).toList=xs.toList.take b++(m++xs.toList.drop (b+n)):=by
  have hx:xs.toList.length=xs.size:=Array.length_toList;apply List.ext_getElem?;intro j;rw [Array.getElem?_toList,Fd b m 0 xs j (by (clear hx;lia))]
  by_cases j1:j<b
  ·rw [if_neg (by (clear hx hb hl;lia)),List.getElem?_append_left (by rw [List.length_take,hx];(clear hx hl;lia)),List.getElem?_take_of_lt j1,Array.getElem?_toList]
  ·rw [List.getElem?_append_right (by rw [List.length_take,hx];(clear hx hb hl;lia)),List.length_take,hx,Nat.min_eq_left (by (clear j1 hx hl;lia))]
   by_cases j2:j<b+n
   ·rw [if_pos (by (clear hx hb;lia)),List.getElem?_append_left (by (clear hx hb;lia))];rfl
   ·rw [if_neg (by (clear j1 hx hb;lia)),List.getElem?_append_right (by (clear j1 hx hb;lia)),List.getElem?_drop,Array.getElem?_toList]
    congr 1
    (clear j1 hx hb;lia)
 refine Array.perm_iff_toList_perm.mpr ?_;rw [e]
 have sp:xs.toList=xs.toList.take b++((xs.toList.drop b).take n++xs.toList.drop (b+n)):=by
  rw [←uH,List.take_append_drop]
 refine List.Perm.trans ?_ (List.Perm.of_eq sp.symm);exact List.Perm.append_left _ (List.Perm.append_right _ hp)
theorem rA {xs:Array Keyed} {lo hi i:Nat} (h:lo+i<hi) (hh:hi<=xs.size):R rk (xs.extract lo hi) i=R rk xs (lo+i):=by
 apply fQ;rw [Array.getElem?_extract];rw [if_pos (by lia)]
theorem Nm {σ:Type} {M:Model} {A:Around} {E:Value->Shared->Prop} {s:Shared} {x:σ} {Q:PUnit->σ->Prop} {st:σ} (h:Q ⟨⟩ x):wpS M A E s (set x:StateT σ Sem PUnit) Q st:=by
 unfold wpS;rw [StateT.run_set];exact wpAny_pure ⟨rfl,h⟩
theorem zu {st:SortSt} {i sa na pw sb nb pw2:Nat} {Q:Bool->SortSt->Prop} (C:BR prog w A s κ a₀ rk) (hB:SB κ a₀ pd st) (h1:pd[i]? = some (sa,na,pw)) (h2:pd[i+1]? = some (sb,nb,pw2)) (hsb:sb=sa+na) (na1:1<=na) (dg:1<=nb) (hz:sb+nb<=a₀.size)
 (s1:Seg rk (arrOf st) sa (sa+na)) (s2:Seg rk (arrOf st) sb (sb+nb))
 (h:∀st',SB κ a₀ ((pd.setIfInBounds i (sa,na+nb,pw)).eraseIdxIfInBounds (i+1)) st'->(∀j,j<sa\/sb+nb<=j->(arrOf st')[j]? = (arrOf st)[j]?)->Seg rk (arrOf st') sa (sb+nb)->Q true st'):
 wpS (model prog w) A E s (mergeAt' i) Q st:=by
 rw [Ac];refine wpS_bind (wpS_get ?_);rw [hB.pend,h1,h2];dsimp only;have sz:(arrOf st).size=a₀.size:=hB.size;have pH:∀p∈(arrOf st).toList,p∈a₀.toList:=fun p hp=>hB.mem hp;have Ra:∀i,i<a₀.size -> ∃p,(arrOf st)[i]? = some p/\p∈a₀.toList/\R rk (arrOf st) i=rk p.1:=fun i hi=>⟨(arrOf st)[i]'(by (clear hz dg na1 hsb h2 h1;lia)),getElem?_pos (arrOf st) i (by (clear hz dg na1 hsb h2 h1;lia)),hB.mem (by simp),gW (by (clear hz dg na1 hsb h2 h1;lia))⟩;refine wpS_bind (Nm ?_);have kj:SB κ a₀ ((pd.setIfInBounds i (sa,na+nb,pw)).eraseIdxIfInBounds (i+1)) (SortSt.mk' (kindOf st) (arrOf st) ((pd.setIfInBounds i (sa,na+nb,pw)).eraseIdxIfInBounds (i+1)) (gallopOf st) (failedOf st)):=⟨hB.perm,hB.kind,hB.failed,rfl⟩;have cL:arrOf (SortSt.mk' (kindOf st) (arrOf st) ((pd.setIfInBounds i (sa,na+nb,pw)).eraseIdxIfInBounds (i+1)) (gallopOf st) (failedOf st))=arrOf st:=rfl;generalize (pd.setIfInBounds i (sa,na+nb,pw)).eraseIdxIfInBounds (i+1)=pd1 at kj cL h ⊢;generalize SortSt.mk' (kindOf st) (arrOf st) pd1 (gallopOf st) (failedOf st)=st1 at kj cL ⊢;obtain ⟨p,ep,mp,rp⟩:=Ra sb (by (clear cL sz na1 hsb h2 h1;lia));refine wpS_bind (bI ep (wpS_bind (iu C kj.kind mp pH (by (clear rp ep cL dg na1 h2 h1;lia)) (by (clear rp ep cL sz hz dg hsb h2 h1;lia)) s1 fun k k1 k2 k3=> ?_)));dsimp only;refine aR (fun e=> ?_) (fun e=> ?_)
 ·have e:na - k=0:=eq_of_beq e
  refine wpS_pure (h st1 kj (fun j _=>by rw [cL]) fun i j a b c=> ?_);rw [cL]
  by_cases hj:j<sb
  ·exact s1 i j a b (by (clear c b a e k1 rp ep cL sz hz dg na1 h2 h1;lia))
  ·by_cases hi:i<sb
   ·have e1:=QH (k2 (i - sa) (by (clear hj c b a k1 rp ep cL sz hz dg h2 h1;lia)))
    rw [show sa+(i - sa)=i by (clear e1 hi hj c b e k1 rp ep cL sz hz dg na1 hsb h2 h1;lia)] at e1;have e2:=s2 sb j (Nat.le_refl _) (by (clear e1 hi c b a e k1 rp ep cL sz hz dg na1 hsb h2 h1;lia)) c
    (clear hi hj c b a e k1 ep cL sz hz dg na1 hsb h2 h1;lia)
   ·exact s2 i j (by (clear hj c b a e k1 rp ep cL sz hz dg na1 hsb h2 h1;lia)) b c
 have ek:k<na:=by have:¬na - k=0:=fun z=>e (beq_iff_eq.mpr z);(clear e k1 rp ep cL sz hz dg na1 hsb h2 h1;lia)
 obtain ⟨q,eq,mq,rq⟩:=Ra (sa+k+(na - k) - 1) (by (clear ek e rp ep cL sz dg h2 h1;lia));refine wpS_bind (bI eq (wpS_bind (iu C kj.kind mq pH (by (clear rq eq ek e k1 rp ep cL dg na1 hsb h2 h1;lia)) (by (clear rq eq ek e k1 rp ep cL sz hz na1 hsb h2 h1;lia)) s2 fun n2 l1 l2 l3=> ?_)));dsimp only;have aW:sa+k+(na - k) - 1=sb - 1:=by (clear l1 rq eq ek e rp ep cL sz hz dg na1 h2 h1;lia)
 rw [aW] at rq;refine aR (fun e=> ?_) (fun e=> ?_)
 ·have e:n2=0:=eq_of_beq e
  refine wpS_pure (h st1 kj (fun j _=>by rw [cL]) fun i j a b c=> ?_);rw [cL]
  by_cases hj:j<sb
  ·exact s1 i j a b (by (clear c b a e aW l1 rq eq ek k1 rp ep cL sz hz dg na1 h2 h1;lia))
  ·by_cases hi:i<sb
   ·have e1:=Bx (l3 (j - sb) (by (clear hi hj c b a aW l1 rq eq ek k1 rp ep cL sz hz dg na1 hsb h2 h1;lia)) (by (clear hi hj b a e aW l1 rq eq ek k1 rp ep cL sz hz na1 hsb h2 h1;lia)))
    rw [show sb+(j - sb)=j by (clear e1 hi c b a e aW l1 rq eq ek k1 rp ep cL sz hz dg na1 hsb h2 h1;lia)] at e1;have e2:=s1 i (sb - 1) a (by (clear e1 hj c b a e aW l1 rq eq ek k1 rp ep cL sz hz dg na1 hsb h2 h1;lia)) (by (clear e1 hi hj c b a e aW l1 rq eq ek k1 rp ep cL sz hz dg h2 h1;lia))
    (clear hi hj c b a e aW l1 eq ek k1 rp ep cL sz hz dg na1 hsb h2 h1;lia)
   ·exact s2 i j (by (clear hj c b a e aW l1 rq eq ek k1 rp ep cL sz hz dg na1 hsb h2 h1;lia)) b c
 have e2:¬n2=0:=fun z=>e (beq_iff_eq.mpr z);have eY:((arrOf st).extract (sa+k) sb).size=sb - (sa+k):=by rw [Array.size_extract,Nat.min_eq_left (by (clear e2 e aW l1 rq eq ek k1 rp ep cL dg na1 hsb h2 h1;lia))]
 have eZ:((arrOf st).extract sb (sb+n2)).size=n2:=by rw [Array.size_extract,Nat.min_eq_left (by (clear eY e2 e aW rq eq ek k1 rp ep cL dg na1 hsb h2 h1;lia))];(clear eY e2 e aW l1 rq eq ek k1 rp ep cL sz hz dg na1 hsb h2 h1;lia)
 have xin:∀p∈((arrOf st).extract (sa+k) sb).toList,p∈a₀.toList:=fun p hp=>pH p (by rw [cG] at hp;exact List.mem_of_mem_drop (List.mem_of_mem_take hp));have yin:∀p∈((arrOf st).extract sb (sb+n2)).toList,p∈a₀.toList:=fun p hp=>pH p (by rw [cG] at hp;exact List.mem_of_mem_drop (List.mem_of_mem_take hp))
 have sx:Seg rk ((arrOf st).extract (sa+k) sb) 0 ((arrOf st).extract (sa+k) sb).size:=fun i j a b c=>by
  rw [eY] at c;rw [rA (by (clear a eZ eY e2 e aW l1 rq eq ek k1 rp ep cL sz hz dg na1 hsb h2 h1;lia)) (by (clear c b a eZ eY e2 e aW l1 rq eq ek k1 rp ep cL dg na1 hsb h2 h1;lia)),rA (by (clear b a eZ eY e2 e aW l1 rq eq ek k1 rp ep cL sz hz dg na1 hsb h2 h1;lia)) (by (clear c b a eZ eY e2 e aW l1 rq eq ek k1 rp ep cL dg na1 hsb h2 h1;lia))];exact s1 _ _ (by (clear c b a eZ eY e2 e aW l1 rq eq ek k1 rp ep cL sz hz dg na1 hsb h2 h1;lia)) (by (clear c a eZ eY e2 e aW l1 rq eq ek k1 rp ep cL sz hz dg na1 hsb h2 h1;lia)) (by (clear b a eZ eY e2 e aW l1 rq eq ek k1 rp ep cL sz hz dg na1 h2 h1;lia))
 have sy:Seg rk ((arrOf st).extract sb (sb+n2)) 0 ((arrOf st).extract sb (sb+n2)).size:=fun i j a b c=>by
  rw [eZ] at c;rw [rA (by (clear a eZ eY e2 e aW l1 rq eq ek k1 rp ep cL sz hz dg na1 hsb h2 h1;lia)) (by (clear c b a eZ eY e2 e aW rq eq ek k1 rp ep cL dg na1 hsb h2 h1;lia)),rA (by (clear b a eZ eY e2 e aW l1 rq eq ek k1 rp ep cL sz hz dg na1 hsb h2 h1;lia)) (by (clear c b a eZ eY e2 e aW rq eq ek k1 rp ep cL dg na1 hsb h2 h1;lia))];exact s2 _ _ (by (clear c b a eZ eY e2 e aW l1 rq eq ek k1 rp ep cL sz hz dg na1 hsb h2 h1;lia)) (by (clear c a eZ eY e2 e aW l1 rq eq ek k1 rp ep cL sz hz dg na1 hsb h2 h1;lia)) (by (clear b a eZ eY e2 e aW rq eq ek k1 rp ep cL sz hz dg na1 hsb h2 h1;lia))
 have h0:R rk ((arrOf st).extract sb (sb+n2)) 0<=R rk ((arrOf st).extract (sa+k) sb) 0:=by
  rw [rA (by (clear eZ eY e aW l1 rq eq ek k1 rp ep cL sz hz dg na1 hsb h2 h1;lia)) (by (clear eZ eY e2 e aW rq eq ek k1 rp ep cL dg na1 hsb h2 h1;lia)),rA (by (clear eZ eY e2 e aW l1 rq eq k1 rp ep cL sz hz dg na1 h2 h1;lia)) (by (clear eZ eY e2 e aW l1 rq eq ek k1 rp ep cL dg na1 hsb h2 h1;lia)),Nat.add_zero,Nat.add_zero,rp];have:=Nf (k3 k (Nat.le_refl _) ek)
  (clear eZ eY e2 e aW l1 rq eq ek k1 rp ep cL sz hz dg na1 hsb h2 h1;lia)
 have hl:R rk ((arrOf st).extract sb (sb+n2)) (((arrOf st).extract sb (sb+n2)).size - 1)<=R rk ((arrOf st).extract (sa+k) sb) (((arrOf st).extract (sa+k) sb).size - 1):=by
  rw [eY,eZ,rA (by (clear h0 eZ eY e aW l1 rq eq ek k1 rp ep cL sz hz dg na1 hsb h2 h1;lia)) (by (clear h0 eZ eY e2 e aW rq eq ek k1 rp ep cL dg na1 hsb h2 h1;lia)),rA (by (clear h0 eZ eY e2 e aW l1 rq eq k1 rp ep cL sz hz dg na1 h2 h1;lia)) (by (clear h0 eZ eY e2 e aW l1 rq eq ek k1 rp ep cL dg na1 hsb h2 h1;lia)),show sa+k+(sb - (sa+k) - 1)=sb - 1 by (clear h0 eZ eY e2 e aW l1 rq eq k1 rp ep cL sz hz dg na1 h2 h1;lia),rq];have:=U4 (l2 (n2 - 1) (by (clear h0 eZ eY e aW l1 rq eq ek k1 rp ep cL sz hz dg na1 hsb h2 h1;lia)))
  (clear h0 eZ eY e2 e aW l1 rq eq ek k1 rp ep cL sz hz dg na1 hsb h2 h1;lia)
 have fin:∀r st2,zj st1 st2->Mg rk ((arrOf st).extract (sa+k) sb) ((arrOf st).extract sb (sb+n2)) r->wpS (model prog w) A E s (do
  modify fun s=>setArr s (List.foldl (fun a x=>a.setIfInBounds (sa+k+x.snd) x.fst) (arrOf s) r.toList.zipIdx)
  let __do_lift ←get
  pure (failedOf __do_lift).isNone) Q st2:=by
  intro r st2 k2' mg;have jW:arrOf st2=arrOf st:=k2'.a.trans cL;refine wpS_bind (wpS_modify ?_);refine wpS_bind (wpS_get ?_);have hf:failedOf (setArr st2 (List.foldl (fun a x=>a.setIfInBounds (sa+k+x.snd) x.fst) (arrOf st2) r.toList.zipIdx))=none:=k2'.f.trans kj.failed;rw [hf]
  have rl:r.toList.length=sb - (sa+k)+n2:=by
   rw [mg.perm.length_eq,List.length_append,Array.length_toList,Array.length_toList,eY,eZ]
  have rp':r.toList.Perm (((arrOf st).toList.drop (sa+k)).take (sb - (sa+k)+n2)):=by
   refine mg.perm.trans (List.Perm.of_eq ?_);rw [cG,cG,List.take_add,List.drop_drop,show sb+n2 - sb=n2 by (clear rl hf jW hl h0 eZ eY e2 e aW l1 rq eq ek k1 rp ep cL sz hz dg na1 hsb h2 h1;lia),show sa+k+(sb - (sa+k))=sb by (clear rl hf jW hl h0 eZ eY e2 e aW l1 rq eq ek rp ep cL sz hz dg na1 h2 h1;lia)]
  have get:∀j,(arrOf (setArr st2 (List.foldl (fun a x=>a.setIfInBounds (sa+k+x.snd) x.fst) (arrOf st2) r.toList.zipIdx)))[j]? = if sa+k<=j/\j<sb+n2 then r.toList[j - (sa+k)]? else (arrOf st)[j]? :=fun j=>by
   show (List.foldl (fun a x=>a.setIfInBounds (sa+k+x.snd) x.fst) (arrOf st2) r.toList.zipIdx)[j]? = _;rw [jW,Fd (sa+k) r.toList 0 (arrOf st) j (by (clear hf jW hl h0 eZ eY e2 e aW rq eq ek rp ep cL dg na1 h2 h1;lia)),rl]
   by_cases c:sa+k<=j/\j<sb+n2
   ·rw [if_pos c,if_pos (by (clear rl hf jW hl h0 eZ eY e2 e aW l1 rq eq ek k1 rp ep cL sz hz dg na1 hsb h2 h1;lia))];rfl
   ·rw [if_neg c,if_neg (by (clear rl hf jW hl h0 eZ eY e2 e aW l1 rq eq ek rp ep cL sz hz dg na1 h2 h1;lia))]
  have hB2:SB κ a₀ pd1 (setArr st2 (List.foldl (fun a x=>a.setIfInBounds (sa+k+x.snd) x.fst) (arrOf st2) r.toList.zipIdx)):=by
   refine ⟨?_,k2'.k.trans kj.kind,hf,k2'.p.trans kj.pend⟩;show (List.foldl (fun a x=>a.setIfInBounds (sa+k+x.snd) x.fst) (arrOf st2) r.toList.zipIdx).Perm a₀;rw [jW];exact (J0 rl (by (clear rl hf jW hl h0 eZ eY e2 e aW rq eq ek rp ep cL dg na1 h2 h1;lia)) rp').trans hB.perm
  generalize setArr st2 (List.foldl (fun a x=>a.setIfInBounds (sa+k+x.snd) x.fst) (arrOf st2) r.toList.zipIdx)=st3 at get hB2 ⊢;have out:∀j,¬(sa+k<=j/\j<sb+n2)->R rk (arrOf st3) j=R rk (arrOf st) j:=fun j hj=>fQ (by rw [get j,if_neg hj])
  have mid:∀j,sa+k<=j->j<sb+n2 -> ∃j0,sa+k<=j0/\j0<sb+n2/\R rk (arrOf st3) j=R rk (arrOf st) j0:=fun j j1 j2=>by
   have e:=get j;rw [if_pos ⟨j1,j2⟩,List.getElem?_eq_getElem (by (clear e j1 hf jW hl h0 eZ eY e2 aW l1 rq eq k1 rp ep cL sz hz dg na1 h2 h1;lia))] at e;have hm:r.toList[j - (sa+k)]'(by (clear e j1 hf jW hl h0 eZ eY e2 aW l1 rq eq k1 rp ep cL sz hz dg na1 h2 h1;lia))∈((arrOf st).toList.drop (sa+k)).take (sb - (sa+k)+n2):=rp'.mem_iff.mp (List.getElem_mem _);obtain ⟨j0,a1,a2,a3⟩:=iD (rk:=rk) hm;exact ⟨sa+k+j0,by (clear a3 a2 a1 e j1 hf jW hl h0 eZ eY e2 aW l1 rq eq k1 rp ep cL sz hz dg na1 h2 h1;lia),by (clear a3 a2 e j1 hf jW hl h0 eZ eY e2 aW l1 rq eq k1 rp ep cL sz hz dg na1 h2 h1;lia),by rw [uZ e,a3]⟩
  refine wpS_pure (h st3 hB2 (fun j hj=>by rw [get j,if_neg (by (clear rl hf jW hl h0 eZ eY e2 e aW rq eq ek k1 rp ep cL sz hz dg na1 hsb h2 h1;lia))]) fun i j a b c=> ?_)
  by_cases i1:i<sa+k
  ·have ei:=QH (k2 (i - sa) (by (clear c b rl hf jW hl h0 eZ eY e2 e aW l1 rq eq ek k1 rp ep cL sz hz dg na1 hsb h2 h1;lia)))
   rw [show sa+(i - sa)=i by (clear ei i1 c b rl hf jW hl h0 eZ eY e2 e aW l1 rq eq ek k1 rp ep cL sz hz dg na1 hsb h2 h1;lia),←rp] at ei;rw [out i (by (clear ei c b a rl hf jW hl h0 eZ eY e2 e aW l1 rq eq ek k1 rp ep cL sz hz dg na1 hsb h2 h1;lia))]
   have key:∀j0,sa+k<=j0->j0<sb+nb->R rk (arrOf st) i<=R rk (arrOf st) j0:=fun j0 b1 b2=>by
    by_cases c:j0<sb
    ·exact s1 i j0 a (by (clear c b2 ei b a rl hf jW hl h0 eZ eY e2 e aW l1 rq eq ek k1 rp ep cL sz hz dg na1 hsb h2 h1;lia)) (by (clear b2 b1 ei i1 b a rl hf jW hl h0 eZ eY e2 e aW l1 rq eq ek k1 rp ep cL sz hz dg na1 h2 h1;lia))
    ·have:=s2 sb j0 (Nat.le_refl _) (by (clear b2 b1 ei i1 b a rl hf jW hl h0 eZ eY e2 e aW l1 rq eq ek k1 rp ep cL sz hz dg na1 hsb h2 h1;lia)) b2;(clear c b2 b1 i1 b a rl hf jW hl h0 eZ eY e2 e aW l1 rq eq ek k1 rp ep cL sz hz dg na1 hsb h2 h1;lia)
   by_cases j1:sa+k<=j/\j<sb+n2
   ·obtain ⟨j0,b1,b2,b3⟩:=mid j j1.1 j1.2
    rw [b3];exact key j0 b1 (by (clear b3 b1 j1 ei i1 c b a rl hf jW hl h0 eZ eY e2 e aW rq eq ek k1 rp ep cL sz hz dg na1 hsb h2 h1;lia))
   ·rw [out j j1]
    by_cases j2:j<sa+k
    ·exact s1 i j a b (by (clear j1 ei i1 c b a rl hf jW hl h0 eZ eY e2 e aW l1 rq eq ek rp ep cL sz hz dg na1 hsb h2 h1;lia))
    ·exact key j (by (clear j1 ei i1 c b a rl hf jW hl h0 eZ eY e2 e aW l1 rq eq ek k1 rp ep cL sz hz dg na1 hsb h2 h1;lia)) c
  ·by_cases i2:i<sb+n2
   ·by_cases j2:j<sb+n2
    ·have e1:=get i
     have e2:=get j;rw [if_pos ⟨by (clear e2 e1 j2 i2 c b a rl hf jW hl h0 eZ eY e aW l1 rq eq ek k1 rp ep cL sz hz dg na1 hsb h2 h1;lia),i2⟩,List.getElem?_eq_getElem (by (clear e2 e1 j2 i1 c b a hf jW hl h0 eZ eY e aW l1 rq eq ek k1 rp ep cL sz hz dg na1 hsb h2 h1;lia))] at e1;rw [if_pos ⟨by (clear e2 e1 j2 i2 c a rl hf jW hl h0 eZ eY e aW l1 rq eq ek k1 rp ep cL sz hz dg na1 hsb h2 h1;lia),j2⟩,List.getElem?_eq_getElem (by (clear e2 e1 i2 i1 c b a hf jW hl h0 eZ eY e aW l1 rq eq ek k1 rp ep cL sz hz dg na1 hsb h2 h1;lia))] at e2;rw [uZ e1,uZ e2]
     by_cases eij:i=j
     ·subst eij;exact Nat.le_refl _
     ·exact List.pairwise_iff_getElem.mp mg.srt _ _ _ _ (by (clear e2 e1 j2 i2 c a rl hf jW hl h0 eZ eY e aW l1 rq eq ek k1 rp ep cL sz hz dg na1 hsb h2 h1;lia))
    ·obtain ⟨i0,b1,b2,b3⟩:=mid i (by (clear j2 i2 c b a rl hf jW hl h0 eZ eY e2 e aW l1 rq eq ek k1 rp ep cL sz hz dg na1 hsb h2 h1;lia)) i2
     rw [b3,out j (by (clear b3 b2 b1 i2 i1 c b a rl hf jW hl h0 eZ eY e2 e aW l1 rq eq ek k1 rp ep cL sz hz dg na1 hsb h2 h1;lia))]
     by_cases c':i0<sb
     ·have e1:=s1 i0 (sb - 1) (by (clear c' b3 b2 j2 i2 i1 c b a rl hf jW hl h0 eZ eY e2 e aW l1 rq eq ek k1 rp ep cL sz hz dg na1 hsb h2 h1;lia)) (by (clear b3 b2 b1 j2 i2 i1 c b a rl hf jW hl h0 eZ eY e2 e aW l1 rq eq ek k1 rp ep cL sz hz dg na1 hsb h2 h1;lia)) (by (clear c' b3 b2 b1 j2 i2 i1 c b a rl hf jW hl h0 eZ eY e2 e aW l1 rq eq ek k1 rp ep cL sz hz dg h2 h1;lia))
      have e2:=Bx (l3 (j - sb) (by (clear e1 c' b3 b2 b1 i2 i1 c b a rl hf jW hl h0 eZ eY e2 e aW l1 rq eq ek k1 rp ep cL sz hz dg na1 hsb h2 h1;lia)) (by (clear e1 c' b3 b2 b1 j2 i2 i1 b a rl hf jW hl h0 eZ eY e2 e aW l1 rq eq ek k1 rp ep cL sz hz na1 hsb h2 h1;lia)));rw [show sb+(j - sb)=j by (clear e2 e1 c' b3 b2 b1 i2 i1 c b a rl hf jW hl h0 eZ eY e aW l1 rq eq ek k1 rp ep cL sz hz dg na1 hsb h2 h1;lia),←rq] at e2
      (clear c' b3 b2 b1 j2 i2 i1 c b a rl hf jW hl h0 eZ eY e aW l1 rq eq ek k1 rp ep cL sz hz dg na1 hsb h2 h1;lia)
     ·exact s2 i0 j (by (clear b3 b2 b1 j2 i2 i1 c b a rl hf jW hl h0 eZ eY e2 e aW l1 rq eq ek k1 rp ep cL sz hz dg na1 hsb h2 h1;lia)) (by (clear c' b3 b1 i2 i1 c b a rl hf jW hl h0 eZ eY e2 e aW l1 rq eq ek k1 rp ep cL sz hz dg na1 hsb h2 h1;lia)) c
   ·rw [out i (by (clear i1 c b a rl hf jW hl h0 eZ eY e2 e aW l1 rq eq ek k1 rp ep cL sz hz dg na1 hsb h2 h1;lia)),out j (by (clear i1 c a rl hf jW hl h0 eZ eY e2 e aW l1 rq eq ek k1 rp ep cL sz hz dg na1 hsb h2 h1;lia))]
    exact s2 i j (by (clear i1 c b a rl hf jW hl h0 eZ eY e2 e aW l1 rq eq ek k1 rp ep cL sz hz dg na1 hsb h2 h1;lia)) b c
 refine aR (fun _=> ?_) (fun _=> ?_)
 ·exact wpS_bind (zm C kj.kind xin yin (by (clear hl h0 eZ e2 e aW l1 rq eq k1 rp ep cL sz hz dg na1 h2 h1;lia)) (by (clear hl h0 eY e2 e aW l1 rq eq k1 rp ep cL sz hz dg na1 hsb h2 h1;lia)) sx sy h0 hl fin)
 ·exact wpS_bind (zq C kj.kind xin yin (by (clear hl h0 eZ e2 e aW l1 rq eq ek k1 rp ep cL sz hz dg na1 h2 h1;lia)) (by (clear hl h0 eY e aW l1 rq eq ek k1 rp ep cL sz hz dg na1 hsb h2 h1;lia)) sx sy h0 hl fin)
end
end Tim
set_option Elab.async false
set_option linter.all false
set_option maxRecDepth 100000
set_option maxHeartbeats 4000000
namespace Tim
open PySem PyProof.Rows
section
variable {prog:Program} {w:World} {A:Around} {E:Value->Shared->Prop} {s:Shared} {κ:SortKind} {a₀:Array Keyed} {rk:Value->Nat} {pd:Array (Nat×Nat×Nat)}
def Runs (rk:Value->Nat) (xs:Array Keyed):List (Nat×Nat×Nat)->Nat->Nat->Prop
 | [],a,e=>a=e
 | (s,n,_)::r,a,e=>s=a/\1<=n/\Seg rk xs a (a+n)/\Runs rk xs r (a+n) e
theorem Runs.le {xs:Array Keyed}:∀{l:List (Nat×Nat×Nat)} {a e:Nat},Runs rk xs l a e->a+l.length<=e
 | [],a,e,h=>Nat.le_of_eq h
 | (s,n,_)::r,a,e,h=>by
   have:=Runs.le h.2.2.2;have:=h.2.1;rw [List.length_cons];lia
theorem Runs.app {xs:Array Keyed} {r:List (Nat×Nat×Nat)}:∀{l:List (Nat×Nat×Nat)} {a e:Nat},Runs rk xs (l++r) a e ↔ ∃m,Runs rk xs l a m/\Runs rk xs r m e
 | [],a,e=>⟨fun h=>⟨a,rfl,h⟩,fun ⟨m,h1,h2⟩=>by
     have h1:a=m:=h1;subst h1;exact h2⟩
 | (s,n,_)::l,a,e=>by
   constructor
   ·rintro ⟨h1,h2,h3,h4⟩
    obtain ⟨m,m1,m2⟩:=Runs.app.mp h4;exact ⟨m,⟨h1,h2,h3,m1⟩,m2⟩
   ·rintro ⟨m,⟨h1,h2,h3,h4⟩,m2⟩
    exact ⟨h1,h2,h3,Runs.app.mpr ⟨m,h4,m2⟩⟩
theorem Runs.congr {xs ys:Array Keyed}:∀{l:List (Nat×Nat×Nat)} {a e:Nat},Runs rk xs l a e->(∀j,a<=j->j<e->R rk xs j=R rk ys j)->Runs rk ys l a e
 | [],a,e,h,_=>h
 | (s,n,_)::r,a,e,⟨h1,h2,h3,h4⟩,g=>by
   have le:=Runs.le h4;refine ⟨h1,h2,fun i j x y z=> ?_,Runs.congr h4 fun j x y=>g j (by (clear y le h2 h1;lia)) y⟩;rw [←g i x (by (clear x h2 h1;lia)),←g j (by (clear z le h2 h1;lia)) (by (clear y x h2 h1;lia))];exact h3 i j x y z
theorem RW {α:Type} {l:List α} {i:Nat} (h:i+1<l.length):∃pre p q post,l=pre++p::q::post/\pre.length=i:=by
 refine ⟨l.take i,l[i],l[i+1],l.drop (i+2), ?_,by rw [List.length_take];lia⟩;rw [←List.drop_eq_getElem_cons,←List.drop_eq_getElem_cons,List.take_append_drop]
theorem nH {st:SortSt} {i e:Nat} {Q:Bool->SortSt->Prop} (C:BR prog w A s κ a₀ rk) (hB:SB κ a₀ pd st) (hr:Runs rk (arrOf st) pd.toList 0 e) (he:e<=a₀.size) (hi:i+1<pd.size)
 (h:∀pd' st',SB κ a₀ pd' st'->Runs rk (arrOf st') pd'.toList 0 e->pd'.size+1=pd.size->(∀j,e<=j->(arrOf st')[j]? = (arrOf st)[j]?)->Q true st'):wpS (model prog w) A E s (mergeAt' i) Q st:=by
 obtain ⟨pre,⟨sa,na,pw⟩,⟨sb,nb,pw2⟩,post,el,pl⟩:=RW (l:=pd.toList) (i:=i) (by rw [Array.length_toList];exact hi);rw [el] at hr;obtain ⟨m,r1,r2⟩:=Runs.app.mp hr;obtain ⟨e1,n1,s1,e2,n2,s2,r3⟩:=r2;subst e1;have gw:=Runs.le r3;have h1:pd[i]? = some (sa,na,pw):=by rw [←Array.getElem?_toList,el,List.getElem?_append_right (by (clear gw e2 n2 n1 el hi he;lia)),pl,Nat.sub_self];rfl
 have h2:pd[i+1]? = some (sb,nb,pw2):=by rw [←Array.getElem?_toList,el,List.getElem?_append_right (by (clear h1 gw e2 n2 n1 el hi he;lia)),pl,show i+1 - i=1 by (clear h1 gw e2 n2 n1 pl el hi he;lia)];rfl
 refine zu C hB h1 h2 e2 n1 n2 (by (clear h2 h1 n2 n1 pl el hi;lia)) s1 (by rw [e2];exact s2) fun st' hB' out seg=> ?_
 have ep:((pd.setIfInBounds i (sa,na+nb,pw)).eraseIdxIfInBounds (i+1)).toList=pre++(sa,na+nb,pw)::post:=by
  rw [Array.toList_eraseIdxIfInBounds,Array.toList_setIfInBounds,el,List.set_append_right _ _ (by (clear h2 h1 gw e2 n2 n1 el hi he;lia)),pl,Nat.sub_self];rw [List.eraseIdx_append_of_length_le (by (clear h2 h1 gw e2 n2 n1 el hi he;lia)),pl,show i+1 - i=1 by (clear h2 h1 gw e2 n2 n1 pl el hi he;lia)];rfl
 refine h _ st' hB' ?_ ?_ fun j hj=>out j (.inr (by (clear ep h2 h1 n2 n1 pl el hi he;lia)))
 ·rw [ep]
  refine Runs.app.mpr ⟨sa,r1.congr fun j _ j2=>fQ (out j (.inl j2)).symm,rfl,by (clear ep h2 h1 gw e2 n2 pl el hi he;lia), ?_, ?_⟩
  ·rw [show sa+(na+nb)=sb+nb by (clear ep h2 h1 gw n2 n1 pl el hi he;lia)];exact seg
  ·rw [←Nat.add_assoc]
   exact r3.congr fun j j1 j2=>fQ (out j (.inr (by (clear j2 ep h2 h1 gw n2 n1 pl el hi he;lia)))).symm
 ·rw [←Array.length_toList,ep,←Array.length_toList,el]
  simp only [List.length_append,List.length_cons]
  (clear ep h2 h1 gw e2 n2 n1 pl el hi he;lia)
theorem Runs.modify {xs:Array Keyed} {f:Nat×Nat×Nat->Nat×Nat×Nat} (hf:∀x,(f x).1=x.1/\(f x).2.1=x.2.1) (l:List (Nat×Nat×Nat)):∀(i a e:Nat),Runs rk xs l a e->Runs rk xs (l.modify i f) a e:=by
 induction l with
 | nil=>intro i a e h;cases i<;>exact h
 | cons t r ih=>
   obtain ⟨s,n,p⟩:=t;intro i a e h;obtain ⟨h1,h2,h3,h4⟩:=h;cases i with
   | zero=>
     rw [List.modify_zero_cons];have e2:=hf (s,n,p);rcases hfp:f (s,n,p) with ⟨s',n',p'⟩
     rw [hfp] at e2;obtain ⟨q1,q2⟩:=e2;have q1:s'=s:=q1;have q2:n'=n:=q2;rw [q1,q2];exact ⟨h1,h2,h3,h4⟩
   | succ i=>
     rw [List.modify_succ_cons];exact ⟨h1,h2,h3,ih i _ _ h4⟩
theorem wpS_sortRuns {st:SortSt} {Q:Unit->SortSt->Prop} (C:BR prog w A s κ a₀ rk) (hB:SB κ a₀ #[] st) (h2:2<=a₀.size)
 (h:∀st',(arrOf st').Perm a₀->failedOf st'=none->Seg rk (arrOf st') 0 a₀.size->Q () st'):wpS (model prog w) A E s sortRuns' Q st:=by
 rw [sortRuns'_eq];refine wpS_bind (wpS_get ?_);dsimp only;simp only [hB.size];generalize minRun' a₀.size a₀.size 0=mr
 refine wpS_bind (wpS_mono (wpS_forRange (I:=fun x c st'=>∃lo pd,c=(none,lo)/\x<=lo/\lo<=a₀.size/\SB κ a₀ pd st'/\Runs rk (arrOf st') pd.toList 0 lo)
  (Q:=fun c st'=>∃pd,c=(none,a₀.size)/\SB κ a₀ pd st'/\Runs rk (arrOf st') pd.toList 0 a₀.size) ?step ?fin ⟨0, #[],rfl,by (clear h2;lia),by (clear h2;lia),hB,rfl⟩) ?post)
 case fin=>
  rintro c st' ⟨lo,pd,rfl,x1,x2,hB',hr⟩;have:lo=a₀.size:=by (clear h2;lia)
  subst this;exact ⟨pd,rfl,hB',hr⟩
 case step=>
  rintro x c st' _ hx ⟨lo,pd,rfl,x1,x2,hB',hr⟩;dsimp only;refine aR (fun ge=> ?_) (fun ge=> ?_)
  ·have:lo=a₀.size:=by (clear x1 hx h2;lia)
   subst this;exact wpS_pure ⟨pd,rfl,hB',hr⟩
  refine wpS_bind (wpS_countRun C (by (clear ge x1 hx h2;lia)) (by (clear x2 x1 hx h2;lia)) hB' fun m st2 hB2 kb2 m1 m2 hs2=> ?_);dsimp only;have hr2:=hr.congr (ys:=arrOf st2) fun j _ j2=>fQ (kb2 j j2).symm;apply aR
  case' h1=>
   intro lt;refine wpS_bind (wpS_lift (wpAny_rule ⟨rfl, ?_⟩));refine wpS_bind (wpS_binarySort C (by (clear lt m2 m1 ge x1 hx h2;lia)) (by (clear m1 ge x2 x1 hx h2;lia)) hB2 hs2 fun st3 hB3 kb3 hs3=> ?_);simp only [Bool.not_true,Bool.false_eq_true,if_false];have Ww:=hr2.congr (ys:=arrOf st3) fun j _ j2=>fQ (kb3 j j2).symm;have n1:1<=min (a₀.size - lo) mr:=by (clear m2 m1 x2 x1 hx h2;lia)
   have n2:min (a₀.size - lo) mr<=a₀.size - lo:=by (clear n1 lt m2 m1 ge x2 x1 hx h2;lia)
   generalize min (a₀.size - lo) mr=n at hs3 n1 n2 ⊢
  case' h2=>
   intro lt;have Ww:=hr2;have hB3:=hB2;have hs3:=hs2;have n1:=m1;have n2:=m2;revert Ww hB3 hs3;generalize st2=st3;revert n1 n2;generalize m=n;intro n1 n2 Ww hB3 hs3
  all_goals
   refine wpS_bind (wpS_get ?_)
   have done:∀lQ lW,SB κ a₀ lQ lW->Runs rk (arrOf lW) lQ.toList 0 lo->Seg rk (arrOf lW) lo (lo+n)->wpS (model prog w) A E s (do
    modify fun s=>setPending s ((pendingOf s).push (lo,n,0))
    pure (ForInStep.yield ((none:Option Unit),lo+n))) (fun r st'=>match r with
     | ForInStep.done c'=>∃pd,c'=(none,a₀.size)/\SB κ a₀ pd st'/\Runs rk (arrOf st') pd.toList 0 a₀.size
     | ForInStep.yield c'=>∃lo pd,c'=(none,lo)/\x+1<=lo/\lo<=a₀.size/\SB κ a₀ pd st'/\Runs rk (arrOf st') pd.toList 0 lo) lW:=by
    intro lQ lW qC yI Ud;refine wpS_bind (wpS_modify (wpS_pure ⟨lo+n,lQ.push (lo,n,0),rfl,by (clear n2 lt m2 m1 ge x2 hx h2;lia),by (clear n1 lt m2 m1 ge x1 hx h2;lia),⟨qC.perm,qC.kind,qC.failed,by show (pendingOf lW).push _=_;rw [qC.pend]⟩, ?_⟩));rw [Array.toList_push];exact Runs.app.mpr ⟨lo,yI,rfl,n1,Ud,rfl⟩
   cases hb:(pendingOf st3).back? with
   | none=>exact done _ _ hB3 Ww hs3
   | some t=>
     obtain ⟨s1,n1',pw⟩:=t;dsimp only;generalize power' a₀.size (2*s1+n1') (2*s1+n1'+n1'+n) a₀.size=pwr
     refine wpS_bind (wpS_mono (wpS_forRange (I:=fun y c lW=>∃lQ,c=(none,())/\SB κ a₀ lQ lW/\Runs rk (arrOf lW) lQ.toList 0 lo/\Seg rk (arrOf lW) lo (lo+n))
      (Q:=fun c lW=>∃lQ,c=(none,())/\SB κ a₀ lQ lW/\Runs rk (arrOf lW) lQ.toList 0 lo/\Seg rk (arrOf lW) lo (lo+n)) ?_ (fun _ _ z=>z) ⟨_,rfl,hB3,Ww,hs3⟩) ?_)
     ·rintro y c lW _ hy ⟨lQ,rfl,qC,yI,Ud⟩
      refine wpS_bind (wpS_get ?_);rw [qC.pend];cases hg:(if lQ.size>1 then lQ[lQ.size - 2]? else none) with
      | none=>exact wpS_pure ⟨lQ,rfl,qC,yI,Ud⟩
      | some t=>
        obtain ⟨f1,f2,older⟩:=t;dsimp only
        have gt:lQ.size>1:=by
         by_cases g:lQ.size>1
         ·exact g
         ·rw [if_neg g] at hg;cases hg
        refine aR (fun _=> ?_) (fun _=> ?_)
        ·exact wpS_pure ⟨lQ,rfl,qC,yI,Ud⟩
        ·refine wpS_bind (nH C qC yI x2 (by (clear hg hy hb n2 n1 lt m2 m1 ge x2 x1 hx h2;lia)) fun pd5 zf hB5 hr5 _ VR=> ?_)
         simp only [Bool.not_true,Bool.false_eq_true,if_false];refine wpS_pure ⟨pd5,rfl,hB5,hr5,fun i j a b c=> ?_⟩;rw [fQ (VR i a),fQ (VR j (by (clear c gt hg hy hb n2 n1 lt m2 m1 ge x2 x1 hx h2;lia)))];exact Ud i j a b c
     ·rintro c lW ⟨lQ,rfl,qC,yI,Ud⟩
      dsimp only;refine wpS_bind (wpS_modify ?_);refine done _ _ ⟨qC.perm,qC.kind,qC.failed,rfl⟩ ?_ Ud;rw [←qC.pend] at yI;rw [Array.toList_modify];refine Runs.modify (fun x=> ?_) _ _ _ _ yI;exact ⟨rfl,rfl⟩
 case post=>
  rintro c st' ⟨pd,rfl,hB',hr⟩;dsimp only;have le:=Runs.le hr;rw [Array.length_toList] at le
  refine wpS_bind (wpS_mono (wpS_forRange (I:=fun y c lW=>∃lQ,c=(none,())/\SB κ a₀ lQ lW/\Runs rk (arrOf lW) lQ.toList 0 a₀.size/\lQ.size<=max 1 (a₀.size - y))
   (Q:=fun c lW=>∃lQ,c=(none,())/\SB κ a₀ lQ lW/\Runs rk (arrOf lW) lQ.toList 0 a₀.size/\lQ.size<=1) ?_ ?_ ⟨pd,rfl,hB',hr,by (clear h2;lia)⟩) ?_)
  ·rintro y c lW _ hy ⟨lQ,rfl,qC,yI,Wa⟩
   refine wpS_bind (wpS_get ?_);rw [qC.pend];refine aR (fun l1=> ?_) (fun l1=> ?_)
   ·exact wpS_pure ⟨lQ,rfl,qC,yI,l1⟩
   ·have hix:∀(c:Prop) [Decidable c],(if c then lQ.size - 2 - 1 else lQ.size - 2)+1<lQ.size:=by
     intro c _;split<;>(clear Wa hy le h2;lia)
    refine wpS_bind (nH C qC yI (Nat.le_refl _) (hix _) fun pd5 zf hB5 hr5 z5 _=> ?_);simp only [Bool.not_true,Bool.false_eq_true,if_false];exact wpS_pure ⟨pd5,rfl,hB5,hr5,by (clear l1 hy le h2;lia)⟩
  ·rintro c lW ⟨lQ,rfl,qC,yI,Wa⟩
   exact ⟨lQ,rfl,qC,yI,by (clear le h2;lia)⟩
  ·rintro c lW ⟨lQ,rfl,qC,yI,Wa⟩
   refine wpS_pure (h lW qC.perm qC.failed ?_);have ll:lQ.toList.length<=1:=by rw [Array.length_toList];exact Wa
   match hl:lQ.toList,ll,yI with
   | [],_,yI=>have:0=a₀.size:=yI;(clear hl ll Wa le;lia)
   | [(s,n,p)],_,yI=>
     obtain ⟨_,_,hs,e⟩:=yI;have e:0+n=a₀.size:=e;rw [e] at hs;exact hs
end
end Tim
set_option Elab.async false
set_option linter.all false
set_option maxRecDepth 100000
set_option maxHeartbeats 4000000
namespace Tim
open PySem PyProof.Rows
section
variable {prog:Program} {w:World} {A:Around} {E:Value->Shared->Prop} {s:Shared} {κ:SortKind} {rk:Value->Nat}
theorem Td {vs:List Value} {xs:Array Keyed} (hp:xs.Perm (pairsOf vs)) (hs:Seg rk xs 0 (pairsOf vs).size):(xs.map (·.2)).toList.Perm vs/\(xs.map (·.2)).toList.Pairwise (fun x y=>rk x<=rk y):=by
 have hl:xs.toList.Perm (vs.zip vs):=by rw [←pairsOf_toList];exact Array.perm_iff_toList_perm.mp hp
 have hmem:∀p,p∈xs.toList->p.1=p.2:=fun p hp'=>(mem_zip_self (hl.mem_iff.mp hp')).1
 have e:(xs.map (·.2)).toList=xs.toList.map (·.1):=by
  rw [Array.toList_map];exact List.map_congr_left fun p hp'=>(hmem p hp').symm
 rw [e];constructor
 ·have:=hl.map Prod.fst
  rwa [List.map_fst_zip (Nat.le_refl _)] at this
 ·rw [List.pairwise_map,List.pairwise_iff_getElem]
  intro i j hi hj hij;rw [Array.length_toList] at hi hj;have:=hs i j (Nat.zero_le _) (Nat.le_of_lt hij) (by rw [←hp.size_eq];exact hj);rw [gW hi,gW hj] at this;simpa using this
theorem vN {a:Addr} {vs:List Value} {n:Nat} {P:PySem.Fin->Shared->Prop} (ho:s.heap.get? a=some (seqObj "list" vs.toArray n)) (hz:vs.length<=sizeLine)
 (hk:2<=vs.length -> ∀h':Heap,(∀b o,b≠a->s.heap.get? b=some o->h'.get? b=some o)->(∀(Q:SortKind->Shared->Prop) (E:Value->Shared->Prop),Q κ {s with heap:=h'}->wpAny (model prog w) A (keyKind' vs.toArray) Q E {s with heap:=h'})/\BR prog w A {s with heap:=h'} κ (pairsOf vs) rk)
 (h:∀out:List Value,out.Perm vs->out.Pairwise (fun x y=>rk x<=rk y)->P (.done (.ret .none)) {s with heap:=sortedHeap s.heap a vs out.toArray}):
 wpAny (model prog w) A (Builtin.«list.sort» ⟨[.ref a],[]⟩) P E s:=by
 rw [list_sort_plain];have ha:a<s.heap.objs.size:=Heap.lt_size ho;refine wpAny_bind (listItems_at ho rfl ?_);refine wpAny_bind (listUpdate_at ho rfl ?_ (by rw [List.size_toArray];exact hz) (Nat.zero_le _));obtain ⟨e1,ho1⟩:∃e1,(s.heap.update a (Obj.mapSeq fun _=> #[])).get? a=some (seqObj "list" #[] e1):=⟨_,get?_update_seq ho (fun _=> #[])⟩;refine wpAny_bind (seqEpoch_at ho1 rfl ?_);refine wpAny_bind (wpAny_newTuple ?_ (by show vs.length<=_;exact hz));refine wpAny_bind (wpAny_newList ?_ (Nat.zero_le _));refine wpAny_holding ?_
 have keep:∀b o,b≠a->s.heap.get? b=some o->(((s.heap.update a (Obj.mapSeq fun _=> #[])).push (seqObj "tuple" vs.toArray 0)).push (seqObj "list" #[] 0)).get? b=some o:=fun b o nb e=>by
  refine Heap.get?_push_of_some _ (Heap.get?_push_of_some _ ?_);rw [Heap.get?_update_ne _ _ _ _ nb];exact e
 have ho6:(((s.heap.update a (Obj.mapSeq fun _=> #[])).push (seqObj "tuple" vs.toArray 0)).push (seqObj "list" #[] 0)).get? a=some (seqObj "list" #[] e1):=Heap.get?_push_of_some _ (Heap.get?_push_of_some _ ho1);show wpAny (model prog w) A _ P E {s with heap:=((s.heap.update a (Obj.mapSeq fun _=> #[])).push (seqObj "tuple" vs.toArray 0)).push (seqObj "list" #[] 0)};dsimp only;have hsz:vs.toArray.size=vs.length:=by simp
 have fin:∀st':SortSt,(arrOf st').Perm (pairsOf vs)->Seg rk (arrOf st') 0 (pairsOf vs).size ->
  P (.done (.ret .none)) {s with heap:=sortedHeap s.heap a vs ((arrOf st').map (·.2))}:=by
  intro st' hp hs;obtain ⟨h1,h2⟩:=Td hp hs;have:=h _ h1 h2;rwa [Array.toArray_toList] at this
 by_cases h2:vs.toArray.size<2
 ·rw [if_pos h2,if_pos h2]
  refine wpAny_bind (wpAny_pure ?_);rw [StateT.run_pure];refine wpAny_bind (wpAny_pure ?_);dsimp only;refine wpAny_bind (seqEpoch_at ho6 rfl ?_);refine wpAny_bind (listUpdate_at ho6 rfl ?_ (Nat.zero_le _) (by rw [Array.size_map];show (pairsOf vs).size<=_;rw [pairsOf_size];omega));simp only [bne_self_eq_false,Bool.false_eq_true,if_false];refine wpAny_pure (fin (SortSt.mk' general' (vs.toArray.zip vs.toArray) #[] 7 none) (Array.Perm.refl _) ?_);intro i j _ hij hj;have:i=j:=by rw [pairsOf_size] at hj;omega
  subst this;exact Nat.le_refl _
 ·rw [if_neg h2,if_neg h2]
  obtain ⟨kk,kc⟩:=hk (by omega) _ keep;refine wpAny_bind (kk _ _ ?_)
  refine wpAny_bind (wpAny_mono (wpS_sortRuns (a₀:=pairsOf vs) (rk:=rk) (st:=SortSt.mk' κ (vs.toArray.zip vs.toArray) #[] 7 none)
   (Q:=fun _ st'=>(arrOf st').Perm (pairsOf vs)/\failedOf st'=none/\Seg rk (arrOf st') 0 (pairsOf vs).size)
   kc ⟨Array.Perm.refl _,rfl,rfl,rfl⟩ (by rw [pairsOf_size];omega) fun st' a1 a2 a3=>⟨a1,a2,a3⟩) ?_ fun _ _ e=>e)
  rintro ⟨⟨⟩,st'⟩ s' ⟨rfl,hp,hf,hs⟩;dsimp only;refine wpAny_bind (seqEpoch_at ho6 rfl ?_);refine wpAny_bind (listUpdate_at ho6 rfl ?_ (Nat.zero_le _) (Nat.le_trans (Nat.le_of_eq ((Array.size_map ..).trans (hp.size_eq.trans (pairsOf_size _)))) (Nat.le_succ_of_le hz)));rw [hf];simp only [bne_self_eq_false,Bool.false_eq_true,if_false];exact wpAny_pure (fin st' hp hs)
theorem sY {l:Addr} {vs:List Value} {Q:Value->Shared->Prop} (hl:s.heap.IsList l vs.toArray) (hz:vs.length<=sizeLine)
 (hk:2<=vs.length -> ∀h':Heap,(∀b o,s.heap.get? b=some o->h'.get? b=some o)->(∀(Q:SortKind->Shared->Prop) (E:Value->Shared->Prop),Q κ {s with heap:=h'}->wpAny (model prog w) A.in1.in1 (keyKind' vs.toArray) Q E {s with heap:=h'})/\BR prog w A.in1.in1 {s with heap:=h'} κ (pairsOf vs) rk)
 (h:∀(h':Heap) (D:Addr) (c:Nat) (out:List Value),(∀b o,s.heap.get? b=some o->h'.get? b=some o)->s.heap.objs.size<=D->h'.get? D=some (seqObj "list" out.toArray c)->out.Perm vs->out.Pairwise (fun x y=>rk x<=rk y)->Q (.ref D) {s with heap:=h'}):
 wpAny (model prog w) A (call (.builtin "sorted") [.ref l]) Q E s:=by
 refine Calls.call_function_entry kind_sorted plain_sorted entry_sorted (args_sorted1 _) ?_;unfold Builtin.«sorted»;refine wpAny_bind (m:=checkCount "sorted" 1 1 _) (wpAny_pure ?_);refine wpAny_bind (collect_list hl ?_ hz);refine wpAny_bind (wpAny_newList ?_ hz)
 have hsz:((s.heap.push (seqObj "list" #[] 0)).update s.heap.objs.size (Obj.mapSeq (· ++ vs.toArray))).objs.size=s.heap.objs.size+1:=by
  rw [Heap.size_update,size_push']
 have hoL:(((s.heap.push (seqObj "list" #[] 0)).update s.heap.objs.size (Obj.mapSeq (· ++ vs.toArray))).push (seqObj "list" vs.toArray 0)).get? (s.heap.objs.size+1)=some (seqObj "list" vs.toArray 0):=by
  rw [←hsz];exact Heap.get?_push_size _ rfl
 have keep:∀b o,s.heap.get? b=some o->(((s.heap.push (seqObj "list" #[] 0)).update s.heap.objs.size (Obj.mapSeq (· ++ vs.toArray))).push (seqObj "list" vs.toArray 0)).get? b=some o:=fun b o q=>by
  have hlt:b<s.heap.objs.size:=Heap.lt_size q;rw [Heap.get?_push_ne _ _ _ (by rw [hsz];exact Nat.ne_of_lt (Nat.lt_succ_of_lt hlt)),Heap.get?_update_ne _ _ _ _ (Nat.ne_of_lt hlt),Heap.get?_push_ne _ _ _ (Nat.ne_of_lt hlt)];exact q
 show wpAny _ _ _ _ _ {s with heap:=((s.heap.push (seqObj "list" #[] 0)).update s.heap.objs.size (Obj.mapSeq (· ++ vs.toArray))).push (seqObj "list" vs.toArray 0)};rw [hsz];generalize ((s.heap.push (seqObj "list" #[] 0)).update s.heap.objs.size (Obj.mapSeq (· ++ vs.toArray))).push (seqObj "list" vs.toArray 0)=h1 at keep hoL ⊢;have nD:∀b o,s.heap.get? b=some o->b≠s.heap.objs.size+1:=fun b o e=>Nat.ne_of_lt (Nat.lt_succ_of_lt (Heap.lt_size e));refine wpAny_bind (wpAny_holding (wpAny_call_entry slot_list_sort ⟨_,hoL,rfl⟩ entry_list_sort (vN (s:={s with heap:=h1}) hoL hz (fun h2 h' kp=>hk h2 h' fun b o e=>kp b o (nD b o e) (keep b o e)) fun out p1 p2=>⟨_,rfl, ?_⟩) (args_list_sort _)));refine wpAny_pure ⟨_,rfl, ?_⟩;obtain ⟨e1,ho1⟩:∃e1,(h1.update (s.heap.objs.size+1) (Obj.mapSeq fun _=> #[])).get? (s.heap.objs.size+1)=some (seqObj "list" #[] e1):=⟨_,get?_update_seq hoL (fun _=> #[])⟩;have ho2:(((h1.update (s.heap.objs.size+1) (Obj.mapSeq fun _=> #[])).push (seqObj "tuple" vs.toArray 0)).push (seqObj "list" #[] 0)).get? (s.heap.objs.size+1)=some (seqObj "list" #[] e1):=Heap.get?_push_of_some _ (Heap.get?_push_of_some _ ho1);refine h (sortedHeap h1 (s.heap.objs.size+1) vs out.toArray) _ _ out (fun b o e=> ?_) (Nat.le_succ _) (by unfold sortedHeap;exact get?_update_seq ho2 (fun _=>out.toArray)) p1 p2;unfold sortedHeap;rw [Heap.get?_update_ne _ _ _ _ (nD b o e)];refine Heap.get?_push_of_some _ (Heap.get?_push_of_some _ ?_);rw [Heap.get?_update_ne _ _ _ _ (nD b o e)];exact keep b o e
end
section
theorem wR {α:Type} {p q:α->Bool} {u:α}:∀{l:List α},u∈l->q u=true->p u=false->(∀x,p x=true->q x=true)->l.countP p<l.countP q
 | [],hm,_,_,_=>by simp at hm
 | x::l,hm,hq,hp,hi=>by
   have mono:l.countP p<=l.countP q:=List.countP_mono_left fun x _=>hi x;rw [List.countP_cons,List.countP_cons];rcases List.mem_cons.mp hm with rfl|hm
   ·rw [hq,hp];simp;omega
   ·have:=wR hm hq hp hi
    cases e:p x with
    | true=>rw [hi x e];simp;omega
    | false=>simp;omega
def jO {α:Type} (L:α->α->Bool) (vs:List α) (v:α):Nat:=vs.countP fun u=>L u v
structure Swo {α:Type} (L:α->α->Bool):Prop where
 irr:∀a,L a a=false
 tr:∀a b c,L a b=true->L b c=true->L a c=true
 ntr:∀a b c,L a b=false->L b c=false->L a c=false
theorem yg {α:Type} {L:α->α->Bool} (S:Swo L) {vs:List α} {u v:α} (hu:u∈vs):decide (jO L vs u<jO L vs v)=L u v:=by
 cases e:L u v with
 | true=>exact decide_eq_true (wR hu e (S.irr u) fun x hx=>S.tr x u v hx e)
 | false=>
   refine decide_eq_false fun z=> ?_
   have:jO L vs v<=jO L vs u:=List.countP_mono_left fun x _ hx=>by
    cases e':L x u with
    | true=>rfl
    | false=>rw [S.ntr x u v e' e] at hx;cases hx
   omega
theorem E_ {α:Type} {L:α->α->Bool} (S:Swo L) {vs:List α} {u v:α} (hv:v∈vs) (h:jO L vs u<=jO L vs v):L v u=false:=by
 have:=yg S (u:=v) (v:=u) hv;rw [←this];exact decide_eq_false (by omega)
def fY:List Int->List Int->Bool
 | _,[]=>false
 | [],_::_=>true
 | a::as,b::bs=>if a=b then fY as bs else decide (a<b)
theorem Ah (a:List Int):fY a []=false:=by cases a<;>rfl
theorem Ai:∀a,fY a a=false
 | []=>rfl
 | a::as=>by unfold fY;rw [if_pos rfl];exact Ai as
theorem Fw:∀a b c,fY a b=true->fY b c=true->fY a c=true
 | a,[],_,h,_=>by rw [Ah] at h;cases h
 | [],_::_,[],_,h=>by cases h
 | [],_::_,_::_,_,_=>rfl
 | _::_,_::_,[],_,h=>by cases h
 | a::as,b::bs,c::cs,h1,h2=>by
   unfold fY at h1 h2 ⊢
   by_cases e1:a=b
   ·rw [if_pos e1] at h1
    by_cases e2:b=c
    ·rw [if_pos e2] at h2
     rw [if_pos (e1.trans e2)];exact Fw as bs cs h1 h2
    ·rw [if_neg e2] at h2
     rw [if_neg (e1▸e2),e1];exact h2
   ·rw [if_neg e1] at h1
    have h1:=of_decide_eq_true h1
    by_cases e2:b=c
    ·rw [←e2,if_neg e1];exact decide_eq_true h1
    ·rw [if_neg e2] at h2
     have h2:=of_decide_eq_true h2;rw [if_neg (by omega)];exact decide_eq_true (by omega)
theorem Ag:∀a b c,fY a b=false->fY b c=false->fY a c=false
 | a,_,[],_,_=>Ah a
 | [],[],_::_,_,h=>by cases h
 | [],_::_,_::_,h,_=>by cases h
 | _::_,[],_::_,_,h=>by cases h
 | a::as,b::bs,c::cs,h1,h2=>by
   unfold fY at h1 h2 ⊢
   by_cases e1:a=b
   ·rw [if_pos e1] at h1
    by_cases e2:b=c
    ·rw [if_pos e2] at h2
     rw [if_pos (e1.trans e2)];exact Ag as bs cs h1 h2
    ·rw [if_neg e2] at h2
     rw [if_neg (e1▸e2),e1];exact h2
   ·rw [if_neg e1] at h1
    have h1:=of_decide_eq_false h1
    by_cases e2:b=c
    ·rw [←e2,if_neg e1];exact decide_eq_false h1
    ·rw [if_neg e2] at h2
     have h2:=of_decide_eq_false h2;rw [if_neg (by omega)];exact decide_eq_false (by omega)
theorem rP {α:Type} (key:α->List Int):Swo fun a b=>fY (key a) (key b):=⟨fun a=>Ai _,fun a b c=>Fw _ _ _,fun a b c=>Ag _ _ _⟩
end
end Tim
set_option Elab.async false
set_option linter.all false
set_option maxRecDepth 100000
set_option maxHeartbeats 4000000
namespace L2
open PySem PySem.Spec PyProof.Rows PySem.W
section
variable {X:Cx}
def keyOf (h:Heap):Value->List Int
 | .int n _=>[n]
 | .ref a=>match h.get? a with
   | some o=>match o.data with
     | .seq xs _=>xs.toList.map numOf
     | _=>[]
   | none=>[]
 | _=>[]
theorem Fv {prog:Program} {w:World} {A:Around} {s:Shared} {Q:Bool->Shared->Prop}:∀(xs ys:List Value) (ns ms:List Int) (i:Nat),IntsAre xs ns->IntsAre ys ms -> ∀(fin:Bool),(ns.length=ms.length->fin=false)->ns.length=ms.length->Q (Tim.fY ns ms) s->KatLex prog w A true fin Q (xs.zip ys) i s
 | _,_,[],[],i,.nil,.nil,fin,hf,_,h=>by
   show Q fin s;rw [hf rfl];exact h
 | _,_,_::_,[],_,_,_,_,_,hl,_=>by cases hl
 | _,_,[],_::_,_,_,_,_,_,hl,_=>by cases hl
 | _,_,n::ns,m::ms,i,.cons _ t hx,.cons _ u hy,fin,hf,hl,h=>by
   rw [List.zip_cons_cons];refine kat_cons (wpAny_eqBool_int ?_);have hl':ns.length=ms.length:=by simpa using hl
   by_cases e:n=m
   ·subst e
    rw [show (n==n)=true by simp];refine kat_yes (Fv _ _ ns ms (i+1) hx hy fin (fun z=>hf (by simpa using z)) hl' ?_);unfold Tim.fY at h;rwa [if_pos rfl] at h
   ·rw [show (n==m)=false by simpa using e]
    unfold Tim.fY at h;rw [if_neg e] at h;refine kat_no ?_;cases (true&&i==0) with
    | true=>exact oneLt_int h
    | false=>exact kat_one _ _ (lt_int (show W.BoolBack Q (.bool (decide (n<m))) s from h))
theorem nj {h:Heap} {a:Addr} {its:List Value} {ns:List Int} (ht:IsTup h a its.toArray) (hi:IntsAre its ns):keyOf h (.ref a)=ns:=by
 obtain ⟨o,e,_,n,d⟩:=ht
 show (match h.get? a with
  | some o=>match o.data with
    | .seq xs _=>xs.toList.map numOf
    | _=>[]
  | none=>[])=ns
 rw [e];dsimp only;rw [d];dsimp only;exact hi.nums
def Ru (h:Heap) (vs:List Value):Prop:=∀v∈vs,∃n t,v=Value.int n t
def Gh (h:Heap) (k:Nat) (vs:List Value):Prop:=∀v∈vs,∃a its ns,v = .ref a/\IsTup h a its.toArray/\IntsAre its ns/\ns.length=k
theorem Jw {prog:Program} {w:World} {A:Around} {s:Shared} {vs:List Value} {k:Nat} {h0:Heap} (T:Gh h0 k vs) (kp:∀b o,h0.get? b=some o->s.heap.get? b=some o):
 Tim.BR prog w A s (tuples' true) (pairsOf vs) (Tim.jO (fun a b=>Tim.fY (keyOf h0 a) (keyOf h0 b)) vs):=by
 refine ⟨fun p hp q hq E Q h=> ?_⟩;rw [pairsOf_toList] at hp hq;obtain ⟨_,mp⟩:=mem_zip_self hp;obtain ⟨_,mq⟩:=mem_zip_self hq;rw [Tim.yg (Tim.rP (keyOf h0)) mp] at h;obtain ⟨a,its,ns,ep,ta,ia,la⟩:=T _ mp;obtain ⟨b,jts,ms,eq,tb,ib,lb⟩:=T _ mq;rw [ep,eq] at h ⊢;rw [nj ta ia,nj tb ib] at h;obtain ⟨oa,ea,ca,n1,da⟩:=ta;obtain ⟨ob,eb,cb,n2,db⟩:=tb;have l1:its.length=ns.length:=ia.length;have l2:jts.length=ms.length:=ib.length;refine kat_lt (kp _ _ ea) da (kp _ _ eb) db ?_;have e1:its.toArray.toList=its:=by simp
 have e2:jts.toArray.toList=jts:=by simp
 rw [e1,e2];exact Fv its jts ns ms 0 ia ib _ (fun z=>decide_eq_false (by rw [List.size_toArray,List.size_toArray];omega)) (by omega) h
theorem qR {h0 h1:Heap} {k:Nat} (hk:1<=k) (kp:∀b o,h0.get? b=some o->h1.get? b=some o):∀{vs:List Value},Gh h0 k vs -> ∃fs,KatTups h1 vs fs/\fs.length=vs.length /\ ∀f∈fs,∃n t,f=Value.int n t
 | [],_=>⟨[],trivial,rfl,fun _ z=>absurd z (by simp)⟩
 | v::vs,T=>by
   obtain ⟨fs,t1,t2,t3⟩:=qR hk kp (vs:=vs) fun u hu=>T u (List.mem_cons_of_mem _ hu);obtain ⟨a,its,ns,rfl,⟨o,e,c,n,d⟩,ia,la⟩:=T v (List.mem_cons_self ..)
   match its,ns,ia,la,d with
   | _,_,.nil,la,d=>simp at la;omega
   | _,_,.cons m t r,la,d=>
     refine ⟨_::fs,KatTups.cons (kp _ _ e) c d rfl t1,by simp [t2],fun f hf=> ?_⟩;rcases List.mem_cons.mp hf with rfl|hf
     ·exact ⟨_,_,rfl⟩
     ·exact t3 f hf
theorem Gy {prog:Program} {w:World} {A:Around} {s:Shared} {vs:List Value} {k:Nat} {h0:Heap} {Q:SortKind->Shared->Prop} {E:Value->Shared->Prop} (hk:1<=k) (T:Gh h0 k vs) (hv:2<=vs.length) (kp:∀b o,h0.get? b=some o->s.heap.get? b=some o)
 (h:Q (tuples' true) s):wpAny (model prog w) A (keyKind' vs.toArray) Q E s:=by
 obtain ⟨fs,t1,t2,t3⟩:=qR hk kp T;refine kat_kind (T:= .type "int") t1 (by omega) (fun v hv=> ?_) rfl h;obtain ⟨n,t,rfl⟩:=t3 v hv;exact .now
theorem Li {prog:Program} {w:World} {A:Around} {s:Shared} {vs:List Value} {h0:Heap} (T:Ru h0 vs):
 Tim.BR prog w A s oneType' (pairsOf vs) (Tim.jO (fun a b=>Tim.fY (keyOf h0 a) (keyOf h0 b)) vs):=by
 refine ⟨fun p hp q hq E Q h=> ?_⟩;rw [pairsOf_toList] at hp hq;obtain ⟨_,mp⟩:=mem_zip_self hp;obtain ⟨_,mq⟩:=mem_zip_self hq;rw [Tim.yg (Tim.rP (keyOf h0)) mp] at h;obtain ⟨n,t,ep⟩:=T _ mp;obtain ⟨m,u,eq⟩:=T _ mq;rw [ep,eq] at h ⊢;rw [keyLt'_oneType];refine oneLt_int ?_
 have e:Tim.fY (keyOf h0 (.int n t)) (keyOf h0 (.int m u))=decide (n<m):=by
  show (if n=m then Tim.fY [] [] else decide (n<m))=_
  by_cases e:n=m
  ·subst e;rw [if_pos rfl];simp [Tim.fY]
  ·rw [if_neg e]
 rwa [e] at h
theorem Gs {ys:List V} {us out:List Value} (r:Vals ys us) (p:out.Perm us):∃zs,Vals zs out/\zs.Perm ys:=by
 induction p generalizing ys with
 | nil=>cases r;exact ⟨[],.nil,.refl _⟩
 | cons x p ih=>
   cases r with
   | cons rx rt=>
     obtain ⟨zs,z1,z2⟩:=ih rt;exact ⟨_::zs,.cons rx z1,.cons _ z2⟩
 | swap x y l=>
   cases r with
   | cons rx rt=>
     cases rt with
     | cons ry rl=>exact ⟨_,.cons ry (.cons rx rl),.swap _ _ _⟩
 | trans p q ih1 ih2=>
   obtain ⟨zs,z1,z2⟩:=ih2 r;obtain ⟨ws,w1,w2⟩:=ih1 z1;exact ⟨ws,w1,w2.trans z2⟩
theorem qy:∀{ns:List Int} {vs:List Value},Vals (ns.map V.int) vs->IntsAre vs ns
 | [],_,.nil=> .nil
 | n::ns,_,.cons ⟨t,e⟩ r=>by subst e;exact .cons n t (qy r)
theorem v9 {R:Value->Value->Prop} {S:V->V->Prop} (hRS:∀x y u v,RelV x u->RelV y v->R u v->S x y):∀{zs:List V} {out:List Value},Vals zs out->out.Pairwise R->zs.Pairwise S
 | _,_,.nil,_=> .nil
 | _,_,.cons rx rt,p=>by
   rw [List.pairwise_cons] at p;refine .cons (fun y hy=> ?_) (v9 hRS rt p.2);obtain ⟨i,hi,e⟩:=List.getElem_of_mem hy;obtain ⟨v,hv,ry⟩:=Vals.get rt (i:=i) (x:=y) (by rw [List.getElem?_eq_getElem hi,e]);exact hRS _ _ _ _ rx ry (p.1 v (List.mem_of_getElem? hv))
def ag5 (K:PySem.W.Frag) (H:Hp) (k:Nat) (f:V->List Int) (x:V):Prop:=∃a,x = .ref a/\bL K H a ((f x).map V.int)/\(f x).length=k
def CG (K:PySem.W.Frag):List V->Hp->VK->Prop:=fun xs H Q=>∃(p:Addr) (ys:List V) (k:Nat) (f:V->List Int),xs=[.ref p]/\aZ K H p ys/\1<=k/\(∀y∈ys,ag5 K H k f y) /\
 ∀l zs,H l=none->zs.Perm ys->zs.Pairwise (fun x y=>Tim.fY (f y) (f x)=false)->Q (.ref l) (upd H l (.lst zs))
theorem Dy:ig X (.builtin "sorted") (CG X.K):=by
 intro pins s σ H xs us Q I r h;obtain ⟨p,ys,k,f,rfl,hq,hk,ht,q⟩:=h;obtain ⟨u,rfl,rx⟩:=vals1 r;cases rx;obtain ⟨its,rv,pl,hz⟩:=I.list hq;have hlen:its.length=ys.length:=by rw [←rv.length]
 have item:∀x v,x∈ys->RelV x v -> ∃a jts,v = .ref a/\IsTup s.heap a jts.toArray/\IntsAre jts (f x)/\(f x).length=k:=by
  intro x v hx rxv;obtain ⟨a,rfl,sq,hl⟩:=ht x hx;cases rxv;obtain ⟨jts,rj,tj,_⟩:=I.tuple sq;exact ⟨a,jts,rfl,tj,qy rj,hl⟩
 have T:Gh s.heap k its:=fun v hv=>by
  obtain ⟨i,hi,e⟩:=List.getElem_of_mem hv;have hy:i<ys.length:=by omega
  obtain ⟨v',hv',ry⟩:=rv.get (i:=i) (x:=ys[i]) (by rw [List.getElem?_eq_getElem hy]);rw [List.getElem?_eq_getElem hi,e] at hv';cases hv';obtain ⟨a,jts,e1,e2,e3,e4⟩:=item _ _ (List.getElem_mem hy) ry;exact ⟨a,jts,_,e1,e2,e3,e4⟩
 refine Tim.sY (κ:=tuples' true) (rk:=Tim.jO (fun a b=>Tim.fY (keyOf s.heap a) (keyOf s.heap b)) its) pl.isList (by omega)
  (fun h2 h' kp=>⟨fun Q E hQ=>Gy hk T h2 kp hQ,Jw T kp⟩) fun h' D c out kp hD hd hp hs=> ?_
 obtain ⟨zs,z1,z2⟩:=Gs rv hp;have hzl:zs.length<=sizeLine:=by rw [z2.length_eq];omega
 refine ⟨.ref D,_,I.laid (t':=s.toks) kp hD (show bY X.prog X.w _ h' _ (.lst zs) from ⟨hzl,out,c,z1,hd⟩),rfl,q D zs (I.hok.fresh hD) z2 ?_⟩
 have hs':out.Pairwise (fun u v=>u∈its/\v∈its/\Tim.fY (keyOf s.heap v) (keyOf s.heap u)=false):=by
  refine List.Pairwise.imp_of_mem (fun {u v} hu hv huv=> ?_) hs;have mu:=hp.mem_iff.mp hu;have mv:=hp.mem_iff.mp hv;exact ⟨mu,mv,Tim.E_ (Tim.rP (keyOf s.heap)) mv huv⟩
 have zin:∀z∈zs,z∈ys:=fun z hz=>z2.mem_iff.mp hz
 have zp:zs.Pairwise (fun x y=>x∈zs/\y∈zs):=by
  rw [List.pairwise_iff_getElem];intro i j hi hj _;exact ⟨List.getElem_mem hi,List.getElem_mem hj⟩
 have:=v9 (S:=fun x y=>x∈ys->y∈ys->Tim.fY (f y) (f x)=false) (fun x y u v rx ry huv hx hy=>by
  obtain ⟨a,jts,rfl,e2,e3,e4⟩:=item x u hx rx;obtain ⟨b,kts,rfl,g2,g3,g4⟩:=item y v hy ry;have:=huv.2.2;rwa [nj e2 e3,nj g2 g3] at this) z1 hs'
 exact List.Pairwise.imp₂ (fun {x y} (h1:x∈ys->y∈ys->Tim.fY (f y) (f x)=false) (h2:x∈zs/\y∈zs)=>h1 (zin _ h2.1) (zin _ h2.2)) this zp
def JZ (K:PySem.W.Frag):List V->Hp->VK->Prop:=fun xs H Q=>∃(p:Addr) (ns:List Int),xs=[.ref p]/\aZ K H p (ns.map V.int) /\
 ∀(l:Addr) (ms:List Int),H l=none->ms.Perm ns->ms.Pairwise (fun x y=>x<=y)->Q (.ref l) (upd H l (.lst (ms.map V.int)))
theorem Dz:ig X (.builtin "sorted") (JZ X.K):=by
 intro pins s σ H xs us Q I r h;obtain ⟨p,ns,rfl,hq,q⟩:=h;obtain ⟨u,rfl,rx⟩:=vals1 r;cases rx;obtain ⟨its,rv,pl,hz⟩:=I.list hq;have hI:=qy rv;have T:Ru s.heap its:=fun v hv=>hI.all v hv;rw [List.length_map] at hz;have hl:its.length=ns.length:=hI.length
 refine Tim.sY (κ:=oneType') (rk:=Tim.jO (fun a b=>Tim.fY (keyOf s.heap a) (keyOf s.heap b)) its) pl.isList (by omega)
  (fun h2 h' kp=>⟨fun Q E hQ=> ?_,Li T⟩) fun h' D c out kp hD hd hp hs=> ?_
 ·match its,ns,hI,h2 with
  | [],_,_,h2=>simp at h2
  | [_],_,_,h2=>simp at h2
  | v₁::v₂::rest,_,hI,_=>rw [keyKind_ints hI];exact wpAny_pure hQ
 have hO:IntsAre out (out.map numOf):=intsAre_map out fun v hv=>T v (hp.mem_iff.mp hv);have z1:Vals ((out.map numOf).map V.int) out:=wg hO;have z2:(out.map numOf).Perm ns:=by rw [←hI.nums];exact hp.map _
 have hzl:((out.map numOf).map V.int).length<=sizeLine:=by rw [List.length_map,z2.length_eq];exact hz
 refine ⟨.ref D,_,I.laid (t':=s.toks) kp hD (show bY X.prog X.w _ h' _ (.lst ((out.map numOf).map V.int)) from ⟨hzl,out,c,z1,hd⟩),rfl,q D _ (I.hok.fresh hD) z2 ?_⟩;rw [List.pairwise_map];refine List.Pairwise.imp_of_mem (fun {u v} hu hv huv=> ?_) hs;obtain ⟨n,t,rfl⟩:=T u (hp.mem_iff.mp hu);obtain ⟨m,t',rfl⟩:=T v (hp.mem_iff.mp hv);have:=Tim.E_ (Tim.rP (keyOf s.heap)) (hp.mem_iff.mp hv) huv
 have e:Tim.fY (keyOf s.heap (.int m t')) (keyOf s.heap (.int n t))=decide (m<n):=by
  show (if m=n then Tim.fY [] [] else decide (m<n))=_
  by_cases e:m=n
  ·subst e;rw [if_pos rfl];simp [Tim.fY]
  ·rw [if_neg e]
 have this:Tim.fY (keyOf s.heap (.int m t')) (keyOf s.heap (.int n t))=false:=this;rw [e] at this;have:=of_decide_eq_false this;show n<=m;omega
theorem Bd {K:PySem.W.Frag} (hK:X.K=K):ig X (.builtin "sorted") (CG K):=by subst hK;exact Dy
theorem q_ {K:PySem.W.Frag} (hK:X.K=K):ig X (.builtin "sorted") (JZ K):=by subst hK;exact Dz
end
end L2
set_option Elab.async false
set_option linter.all false
set_option maxRecDepth 100000
set_option maxHeartbeats 4000000
namespace L2
open PySem PySem.Spec PyProof.Rows
section
variable {prog:Program} {w:World} {A:Around} {E:Value->Shared->Prop} {s:Shared} {it d:Addr} {ep:Nat} {od:Obj} {es:Array DictEntry}
theorem Di {Q:Value->Shared->Prop} (nsm:(d==sysModules)=false) (ho:s.heap.get? d=some od) (hx:od.ExactDict) (he:od.data = .dict es ep)
 (k:Q (.ref s.heap.objs.size) {s with heap:=s.heap.push {cls:= .type "dict_keyiterator",data:= .fields #[.ref d,.int 0 0,.int es.size 0,.int ep 0]}}):wpAny (model prog w) A (pyIter (.ref d)) Q E s:=by
 have ty:s.TypeIs (.ref d) "dict" :=⟨od,ho,hx.1⟩
 refine wpAny_pyIter_slot ty F.slot_dict_iter (wpAny_call_entry F.slot_dict_iter ty F.entry_dict_iter (by
  unfold Builtin.«dict.__iter__» Builtin.Dict.dictSlotNone;refine wpAny_bind (wpAny_bind (wpAny_notOrdered_dict ty ?_));show wpAny _ _ (pure (Value.ref d)) _ _ s;refine wpAny_pure ?_;show wpAny _ _ (Builtin.Dict.showsAll d >>= _) _ _ s;unfold Builtin.Dict.showsAll;rw [nsm];rw [if_neg Bool.false_ne_true];refine wpAny_bind (wpAny_pure (wpAny_bind (wpAny_dictEntries ho he (wpAny_bind (wpAny_dictEpoch ho he (wpAny_bind (wpAny_newObj_type (wpAny_pure ?_))))))));exact ⟨_,rfl,"dict_keyiterator",_,⟨_,Heap.get?_push_size _ rfl,rfl⟩,F.slot_dict_keyiterator_next.lookup,by simpa [rawInt] using k⟩) (F.args_dict_iter_1 _))
theorem HB {i:Nat} {Q:Option Value->Shared->Prop} (st:s.heap.IsKeyIter it d i es.size ep) (ho:s.heap.get? d=some od) (he:od.data = .dict es ep) (hi:i<es.size)
 (k:∀h',h'.IsKeyIter it d (i+1) es.size ep->Heap.SameBut it s.heap h'->Q (some es[i].key) {s with heap:=h'}):wpAny (model prog w) A (pyNext (.ref it)) Q E s:=by
 obtain ⟨oi,hoi,ci,di⟩:=id st;have ty:=st.typeIs;have Hs:Builtin.Dict_items.ownsTuple "dict_keyiterator" = false:=by decide
 have Tt:¬((i:Int)<0):=by omega
 have st':(s.heap.update it (Obj.mapFields (·.setIfInBounds 1 (rawInt ((i:Int)+1))))).IsKeyIter it d (i+1) es.size ep:=
  ⟨_,Heap.get?_update_self _ hoi (Obj.isFreed_of_fields (Obj.data_mapFields di _)),by rw [Obj.cls_mapFields];exact ci,by rw [Obj.data_mapFields di];simp [rawInt]⟩
 unfold pyNext
 refine wpAny_bind (wpAny_attempt (wpAny_callSpecial?_slot (name:=Str.ofString "__next__") ty F.slot_dict_keyiterator_next (wpAny_call_entry F.slot_dict_keyiterator_next ty F.entry_dict_keyiterator_next (by
  refine wpAny_bind (wpAny_pure (wpAny_bind (wpAny_bind ?_)));refine wpAny_bind (wpAny_typeNameOfWhole_keyiter ty (wpAny_pure (wpAny_bind (wpAny_fieldsOf hoi di ?_))));rw [Hs];simp only [Bool.false_eq_true,if_false];show wpAny _ _ (if (Value.ref d==Value.none)=true then _ else _) _ _ s;rw [show (Value.ref d==Value.none)=false from rfl];rw [if_neg Bool.false_ne_true];refine wpAny_bind (wpAny_pure (wpAny_bind (wpAny_dictEntries ho he ?_)));rw [if_neg (by simp)];refine wpAny_bind (wpAny_pure (wpAny_bind (wpAny_dictEpoch ho he ?_)));rw [if_neg (by simp)];refine wpAny_pure ?_;simp only [Tt,if_false,Int.toNat_natCast,Array.getElem?_eq_getElem hi];refine wpAny_bind (wpAny_bind (wpAny_typeNameOfWhole_keyiter ty (wpAny_pure (wpAny_bind (wpAny_isOneOf_keyiter ty ?_)))));show wpAny _ _ (setField (.ref it) 1 (rawInt ((i:Int)+1)) >>= _) _ _ s;refine wpAny_bind (wpAny_setField hoi di (by simp) ?_);refine wpAny_bind (wpAny_holding (wpAny_bind (wpAny_isOneOf_keyiter (s:={s with heap:=s.heap.update it (Obj.mapFields (·.setIfInBounds 1 (rawInt ((i:Int)+1))))}) st'.typeIs ?_)));show wpAny _ _ (pure es[i].key) _ _ _;exact wpAny_pure (wpAny_pure ⟨_,rfl,wpAny_pure (k _ st' (Heap.SameBut.update ..))⟩)) (F.args_dict_keyiterator_next_1 _))))
theorem Ld {i:Nat} {Q:Option Value->Shared->Prop} (calm:A.handled=none) (st:s.heap.IsKeyIter it d i es.size ep) (ho:s.heap.get? d=some od) (he:od.data = .dict es ep) (hi:es.size<=i)
 (k:∀h',Heap.ExtBut it s.heap h'->Q none {s with heap:=h'}):wpAny (model prog w) A (pyNext (.ref it)) Q E s:=by
 obtain ⟨oi,hoi,ci,di⟩:=id st;have ty:=st.typeIs;have Hs:Builtin.Dict_items.ownsTuple "dict_keyiterator" = false:=by decide
 have Tt:¬((i:Int)<0):=by omega
 unfold pyNext
 refine wpAny_bind (wpAny_attempt (wpAny_callSpecial?_slot (name:=Str.ofString "__next__") ty F.slot_dict_keyiterator_next (wpAny_call_entry F.slot_dict_keyiterator_next ty F.entry_dict_keyiterator_next (by
  refine wpAny_bind (wpAny_pure (wpAny_bind (wpAny_bind ?_)));refine wpAny_bind (wpAny_typeNameOfWhole_keyiter ty (wpAny_pure (wpAny_bind (wpAny_fieldsOf hoi di ?_))));rw [Hs];simp only [Bool.false_eq_true,if_false];show wpAny _ _ (if (Value.ref d==Value.none)=true then _ else _) _ _ s;rw [show (Value.ref d==Value.none)=false from rfl];rw [if_neg Bool.false_ne_true];refine wpAny_bind (wpAny_pure (wpAny_bind (wpAny_dictEntries ho he ?_)));rw [if_neg (by simp)];refine wpAny_bind (wpAny_pure (wpAny_bind (wpAny_dictEpoch ho he ?_)));rw [if_neg (by simp)];refine wpAny_pure ?_;simp only [Tt,if_false,Int.toNat_natCast,Array.getElem?_eq_none hi];refine wpAny_bind (wpAny_bind (wpAny_typeNameOfWhole_keyiter ty (wpAny_pure ?_)));show wpAny _ _ (setField (.ref it) 0 .none >>= _) _ _ s;refine wpAny_bind (wpAny_setField hoi di (by simp) ?_);show wpAny _ _ (newExc (.type "StopIteration") [] >>= _) _ _ _;refine wpAny_bind ?_;simp only [newExc,newTuple];refine wpAny_bind (wpAny_newObj_type ?_ (by size_fits));refine wpAny_bind (m:=firstArgMember _ _) (wpAny_of_eq (a:=Value.none) (by first |rfl|(simp only [firstArgMember];rfl)) (wpAny_newObj_type ?_ (by size_fits)));simp only [raiseNew];refine wpAny_bind (wpAny_handled ?_);rw [show A.in1.handled=none from calm];refine wpAny_bind (wpAny_pure (wpAny_throw ?_));refine wpAny_bind (wpAny_isInstance (T:= "StopIteration") (b:=true) ⟨_,Heap.get?_push_size _ rfl,rfl⟩ isSubtype_stop ?_);exact wpAny_pure (k _ (((Heap.SameBut.update ..).extBut.push _).push _))) (F.args_dict_keyiterator_next_1 _))))
end
end L2
set_option Elab.async false
set_option linter.all false
set_option maxRecDepth 100000
set_option maxHeartbeats 4000000
namespace L2
open PySem PySem.Spec PyProof.Rows
section
variable {X:Cx} {pins:List (Addr×Obj)} {σ:St} {H:Hp} {s:Shared} {d:Addr}
theorem La {kvs:List (List Key×V)} {xs:List (List Key×Addr×Value)} {u v:HO} (r:KT H kvs xs) (e:H d=some u) (h1:∀ys,u ≠ .tup ys):KT (upd H d v) kvs xs:=by
 refine Paired.TF r fun p q z=>⟨z.1, ?_,z.2.2⟩;have:q.2.1≠d:=fun w=>by rw [w,e] at z;exact h1 _ (Option.some.inj z.2.1)
 rw [bA this];exact z.2.1
theorem Inv.KQ {kvs:List (List Key×V)} (I:Inv X pins σ H s) (e:H d=some (.dT kvs)):∀o v,X.H₀ d≠some (.iV o v):=fun o v q=>by
 have:=I.base.qF d o v q;rw [e] at this;cases this
theorem Inv.P0 {kvs:List (List Key×V)} {o:Obj} (I:Inv X pins σ H s) (e:H d=some (.dT kvs)) (ho:s.heap.get? d=some o):Inv X pins σ (upd H d (.iV o (.dT kvs))) s:=by
 refine I.EY e (fun _ z=>by cases z) (fun _ z=>by cases z) (fun _ z=>by cases z) (I.KQ e) ⟨ho, ?_⟩;obtain ⟨z,y,xs,r,dd⟩:=(show bY X.prog X.w H s.heap d (.dT kvs) from I.hok d _ e);exact ⟨z,y,xs,La r e (fun _ z=>by cases z),dd⟩
theorem Inv.Vh {kvs:List (List Key×V)} {o:Obj} (I:Inv X pins σ H s) (e:H d=some (.iV o (.dT kvs))) (hz:∀o v,X.H₀ d≠some (.iV o v)):Inv X pins σ (upd H d (.dT kvs)) s:=by
 refine I.EY e (fun _ z=>by cases z) (fun _ z=>by cases z) (fun _ z=>by cases z) hz ?_;obtain ⟨_,z,y,xs,r,dd⟩:=(show bY X.prog X.w H s.heap d (.iV o (.dT kvs)) from I.hok d _ e);exact ⟨z,y,xs,La r e (fun _ z=>by cases z),dd⟩
end
def M7 (d:Addr) (o:Obj) (kvs:List (List Key×V)):It:=
 ⟨fun i H=>i<kvs.length/\H d=some (.iV o (.dT kvs)),fun i H x H'=>H'=H /\ ∃k v b,kvs[i]? = some (k,v)/\x = .ref b/\H b=some (.tup (k.map kV)),fun i H=>kvs.length<=i/\H d=some (.iV o (.dT kvs))⟩
theorem TX {H:Hp} {kvs:List (List Key×V)} {xs:List (List Key×Addr×Value)} (r:KT H kvs xs):∀(i:Nat) (k:List Key) (v:V),kvs[i]? = some (k,v) -> ∃q,xs[i]? = some q/\H q.2.1=some (.tup (k.map kV)):=by
 induction r with
 | nil=>intro i k v h;cases h
 | @cons p q ps qs h r ih=>
   intro i k v e;cases i with
   | zero=>
     have e':p=(k,v):=Option.some.inj e;subst e';exact ⟨q,rfl,h.2.1⟩
   | succ i=>exact ih i k v (by simpa using e)
theorem Cg {P:Program} {w:World} {K:PySem.W.Frag} {tg:Expr} (d it:Addr) (o:Obj) (kvs:List (List Key×V)) (es:Array DictEntry) (ep:Nat) (hd:o.data = .dict es ep):Turn P w K tg (M7 d o kvs) [it] it (fun i h=>h.IsKeyIter it d i es.size ep) where
 mem:=by simp
 obj:=fun i h st b hb=>by
  have e:b=it:=by simpa using hb
  subst e;obtain ⟨o,e,c,d⟩:=st;exact ⟨o,e,fun v z=>by rw [d] at z;cases z⟩
 keep:=fun i h h' st k=>by
  obtain ⟨o,e,c,d⟩:=st;exact ⟨o,k it (by simp) o e,c,d⟩
 item:=by
  intro X hP hw hK hc i pins s σ H E I hf st hg;subst hP hw hK;obtain ⟨hi,hH⟩:=hg;obtain ⟨ho,z,y,xs,r,o',es',ep',q1,q2,q3,q4,q5⟩:=(show bY X.prog X.w H s.heap d (.iV o (.dT kvs)) from I.hok d _ hH);rw [ho] at q1;cases q1;rw [hd] at q3;cases q3;have hl:kvs.length=xs.length:=Paired.length r;have hsz:es.size=xs.length:=by rw [←Array.length_toList,q4,List.length_map]
  obtain ⟨k,v,WY⟩:∃k v,kvs[i]? = some (k,v):=⟨kvs[i].1,kvs[i].2,by simp [hi]⟩;obtain ⟨q,eq,hq⟩:=TX r i k v WY;have ie:i<es.size:=by omega
  have ek:es[i].key = .ref q.2.1:=by
   have e1:es.toList[i]? = some es[i]:=by simp [ie]
   rw [q4,List.getElem?_map,eq] at e1;have:=Option.some.inj e1;rw [←this];rfl
  obtain ⟨f0,f1,f2,f3,f4,f5⟩:=hf it (by simp);refine HB st ho hd ie fun h' st' sb=> ?_;have I1:Inv X pins σ H {s with heap:=h'}:=I.turned (t':=s.toks) (fun b o hb e=>(sb.2 b hb).trans e) f0 f1 f3 f4 f5;obtain ⟨ob,e,c,dd⟩:=id st';rw [ek];exact ⟨.ref q.2.1,rfl,wM (s:={s with heap:=h'}) e c dd (by decide) ⟨.ref q.2.1,H,I1,rfl,⟨rfl,k,v,q.2.1,WY,rfl,hq⟩,st',fun b hb=>(hf b hb).1⟩⟩
 done:=by
  intro X hP hw hK hc i pins s σ H E I hf st hg;subst hP hw hK;obtain ⟨hi,hH⟩:=hg;obtain ⟨ho,z,y,xs,r,o',es',ep',q1,q2,q3,q4,q5⟩:=(show bY X.prog X.w H s.heap d (.iV o (.dT kvs)) from I.hok d _ hH);rw [ho] at q1;cases q1;rw [hd] at q3;cases q3;have hl:kvs.length=xs.length:=Paired.length r;have hsz:es.size=xs.length:=by rw [←Array.length_toList,q4,List.length_map]
  obtain ⟨f0,f1,f2,f3,f4,f5⟩:=hf it (by simp);exact Ld (I.ok.hd hc) st ho hd (by omega) fun h' eb=>⟨rfl,I.turned (t':=s.toks) (fun b o hb e=>eb b o hb e) f0 f1 f3 f4 f5⟩
 self:=fun _ _ _ _ _ st h=>wpAny_pyIter_keyiter st h
section
variable {X:Cx} {tg:Expr}
def Ua (tl:TE):TI:=fun σ H R=>tl σ H fun x H1=>∃d kvs,x = .ref d/\H1 d=some (.dT kvs) /\ ∀o,R (M7 d o kvs) (upd H1 d (.iV o (.dT kvs)))
theorem Ka {l:Expr} {tl:TE} (hl:PE X l tl):PI X tg l (Ua tl):=by
 intro pins s σ H R I h;refine cF (hl pins s σ H _ I h) fun v s1 ⟨x,H1,I1,r1,q1⟩=> ?_;obtain ⟨d,kvs,e,hH,q⟩:=q1;subst e;cases r1;obtain ⟨z,hd,xs,r,o,es,ep,ho,q2,q3,q4,q5⟩:=(show bY X.prog X.w H1 s1.heap d (.dT kvs) from I1.hok d _ hH);refine Di hd ho q2 q3 ?_;have If:=I1.P0 hH ho
 have Pa:(upd H1 d (HO.iV o (.dT kvs))) s1.heap.objs.size=none:=by
  rw [bA (Ne.symm (Nat.ne_of_lt (Heap.lt_size ho)))];exact I1.hok.fresh (Nat.le_refl _)
 refine ⟨s1.heap.objs.size,[s1.heap.objs.size],_,_,upd H1 d (.iV o (.dT kvs)),rfl,If.kept (t':=s1.toks) fun b o e=>Heap.get?_push_of_some _ e,Cg d _ o kvs es ep q3,⟨_,Heap.get?_push_size _ rfl,rfl,rfl⟩,fun b hb=> ?_,q o⟩;have e:b=s1.heap.objs.size:=by simpa using hb
 subst e;exact If.uy (Nat.le_refl _) Pa
end
def XS (H H' QB:Hp):Prop:=∃d K_ o kvs,H d=some (.dT K_)/\H' d=some (.iV o (.dT kvs))/\QB=upd H' d (.dT kvs)
def Sh (t:TS):TS:=fun D σ H=>t {D with nx:=fun σ' H'=>∃QB,XS H H' QB/\D.nx σ' QB} σ H
theorem J6 {X:Cx} {st:Stmt} {t:TS} (h:PS X st t):PS X st (Sh t):=by
 intro pins s σ H D I q;refine wpAny_mono (h pins s σ H _ I q) (fun f s1 q1=> ?_) fun _ _ z=>z;cases f with
 | next=>
   obtain ⟨σ1,H1,I1,H2,⟨d,K_,o,kvs,e1,e2,rfl⟩,q2⟩:=q1;exact ⟨σ1,_,I1.Vh e2 (I.KQ e1),q2⟩
 | brk=>exact q1
 | cont=>exact q1
 | ret u=>exact q1
section
variable {d D:Addr} {o:Obj} {kvs:List (List Key×V)} {tc:TT} {te:TE} {Q:VK} {rest:St} {H1:Hp}
end
end L2
set_option Elab.async false
set_option linter.all false
set_option maxRecDepth 100000
set_option maxHeartbeats 4000000
namespace L2
open PySem PySem.Spec PyProof.Rows
section
variable {X:Cx} {k:Nat} {C:Addr} {sp:Sp}
end
end L2
set_option Elab.async false
set_option linter.all false
set_option maxRecDepth 100000
set_option maxHeartbeats 4000000
namespace L2
open PySem PySem.Spec PyProof.Rows
section
variable {prog:Program} {w:World} {K:Type} [DecidableEq K] {knd:HeapKind prog w K} {A:Around} {E:Value->Shared->Prop} {s:Shared}
end
section
variable {X:Cx}
end
end L2
set_option Elab.async false
set_option linter.all false
set_option maxRecDepth 100000
set_option maxHeartbeats 4000000
namespace L2
open PySem PySem.Spec PyProof.Rows
section
variable {P:Program} {w:World} {K:PySem.W.Frag} {mg:Str->Option Value} {base:Heap}
end
section
variable {X:Cx} {k:Nat} {x kn:Str} {ps:List Str} {sp:Sp} {LQ:List V} {e ke:Expr} {es:List Expr} {te:TE} {t:TA} {p pos kpos:Pos} {E:St->XK}
end
end L2
set_option Elab.async false
set_option linter.all false
set_option maxRecDepth 100000
set_option maxHeartbeats 4000000
namespace L2
open PySem PySem.Spec PyProof.Rows
section
variable {X:Cx} {K:PySem.W.Frag}
end
end L2
set_option Elab.async false
set_option linter.all false
set_option maxRecDepth 100000
set_option maxHeartbeats 4000000
namespace L2
open PySem PySem.Spec PyProof.Rows
section
variable {prog:Program} {w:World} {K:Type} [DecidableEq K] {knd:HeapKind prog w K} {A:Around} {E:Value->Shared->Prop} {s:Shared} {d:Addr} {xs:List (K×Addr×Value)}
end
section
variable {X:Cx} {pos:Pos} {k v a:Expr} {tk tv ta:TE}
end
end L2
namespace L2
open PySem PySem.Spec PyProof.Rows
section
variable {d:Addr} {o:Obj} {kvs:List (List Key×V)} {g:TG} {tb:TS} {D:Ends} {σ:St} {H:Hp}
theorem Ui (Pv:Nat->St->Hp->Prop) (h0:Pv 0 σ H) (hl:∀i σ H,i<=kvs.length->Pv i σ H->H d=some (.iV o (.dT kvs)))
 (hs:∀i k v b σ H,kvs[i]? = some (k,v)->H b=some (.tup (k.map kV))->Pv i σ H->g (.ref b) σ H fun σ2 H2=>tb {D with nx:=Pv (i+1),ct:=Pv (i+1),bk:=D.nx} σ2 H2) (hd:∀σ H,Pv kvs.length σ H->D.nx σ H):
 ∃W:Nat->Nat->St->Hp->Prop,(∃m,W 0 m σ H) /\ ∀i m σ H,W i m σ H ->
  ((M7 d o kvs).stop i H/\D.nx σ H)\/((M7 d o kvs).go i H /\ ∃N:St->Hp->Prop,(∀σ' H',N σ' H' -> ∃m',m'<m/\W (i+1) m' σ' H') /\ ∀x H',(M7 d o kvs).Nk i H x H'->g x σ H' fun σ2 H2=>tb {D with nx:=N,ct:=N,bk:=D.nx} σ2 H2):=by
 refine ⟨fun i m σ H=>m=kvs.length - i/\i<=kvs.length/\Pv i σ H,⟨kvs.length,by simp,Nat.zero_le _,h0⟩, ?_⟩;rintro i m σ H ⟨rfl,hi,p⟩;have q:=hl i σ H hi p
 by_cases hlt:i<kvs.length
 ·refine .inr ⟨⟨hlt,q⟩,Pv (i+1),fun σ' H' p'=>⟨kvs.length - (i+1),by omega,rfl,hlt,p'⟩,fun x H' y=> ?_⟩
  obtain ⟨rfl,k,v,b,e,rfl,hb⟩:=y;exact hs i k v b σ _ e hb p
 ·have e:i=kvs.length:=by omega
  subst e;exact .inl ⟨⟨Nat.le_refl _,q⟩,hd σ H p⟩
end
end L2
namespace L2
open PySem PySem.Spec PyProof.Rows
section
variable {X:Cx}
end
end L2
set_option Elab.async false
set_option linter.all false
set_option maxRecDepth 100000
set_option maxHeartbeats 4000000
namespace L2
open PySem PySem.Spec PyProof.Rows
theorem yF:typeLookup (.type "list") "keys" = pure none:=by rw [typeLookup_type,builtinLookup_eq_fast];kernel_rfl
theorem lO:entryFor table "dict.update.loop" = some Builtin.«dict.update.loop» :=entryFor_of_tree (by kernel_rfl)
theorem gk:plainId "dict.update.loop" = true:=by decide +kernel
section
variable {prog:Program} {w:World} {A:Around} {E:Value->Shared->Prop} {s:Shared}
theorem MN {a:Addr} {o:Obj} {xs:Array Value} {k:Nat} {Q:Option Value->Shared->Prop} (hx:s.heap.get? a=some o) (hc:o.cls = .type "list") (hdat:o.data = .seq xs k) (hd:o.dict=none) (hA:A.handled=none)
 (h:∀h' tk e,Heap.NewExcOf s.heap h' e "AttributeError" -> Q none {s with heap:=h',toks:=tk}):wpAny (model prog w) A (getAttr? (.ref a) "keys") Q E s:=by
 obtain ⟨c,dct,dat,sl⟩:=o;simp only at hc hdat hd;subst hc hdat hd;obtain ⟨hp,g,d,tk,os⟩:=s;have hT:∀tk',(⟨hp,g,d,tk',os⟩:Shared).TypeIs (.ref a) "list" :=fun _=>⟨_,hx,rfl⟩;have f1:=sub_AttributeError;have f3:=F.slot_list_getattribute.lookup;have f4:=F.slot_list_getattribute.bind (.ref a);have f5:=am_list_getattr_none;unfold getAttr? getAttrBy? getAttrBy
 repeat (any_goals (first |assumption|exact hT _|((with_reducible show wpAny _ _ (call (Value.builtin "list.__getattribute__") _ _) _ _ _);refine call_meets F.slot_list_getattribute (hT _) am_entry_list_getattribute (F.args_list_getattribute_2 _ _) (meets_getattribute_miss_list a xs k sl _ _ yF (by decide) (by size_fits)) ⟨hx,hA,fun h' tk' e hx'=> ?_⟩)|wp_step))
 obtain ⟨t',u',he⟩:=hx'.there;show wpAny _ _ (getattributeRaised _ _ _ _ _ _ _) _ _ _;unfold getattributeRaised
 repeat (any_goals (first |assumption|wp_step))
 exact h _ _ _ hx'.of
def lu (kvs:List (List Key×V)) (ps:List (List Key×V)):List (List Key×V):=ps.foldl (fun l p=>putK l p.1 p.2) kvs
theorem zP (kvs ps:List (List Key×V)):(lu kvs ps).length<=kvs.length+ps.length:=by
 induction ps generalizing kvs with
 | nil=>exact Nat.le_refl _
 | cons p ps ih=>
   have h1:=ih (putK kvs p.1 p.2);have h2:=dG kvs p.1 p.2;show (lu (putK kvs p.1 p.2) ps).length<=_;rw [List.length_cons];omega
theorem G5 {ps:List (List Key×V)} {i:Nat} {p:List Key×V} (h:ps[i]? = some p):lu [] (ps.take (i+1))=putK (lu [] (ps.take i)) p.1 p.2:=by
 rw [List.take_add_one,h];unfold lu;rw [List.foldl_append];rfl
def sI (H:Hp) (vs:List V) (ps:List (List Key×V)):Prop:=vs.length=ps.length /\ ∀(i:Nat) v p,vs[i]? = some v->ps[i]? = some p -> ∃t a,v = .ref t/\H t=some (.tup [.ref a,p.2])/\H a=some (.tup (p.1.map kV))
theorem TV {H:Hp} {kvs:List (List Key×V)} {xs:List (List Key×Addr×Value)} (r:KT H kvs xs) {x:List Key×Addr×Value} (hx:x∈xs):H x.2.1=some (.tup (x.1.map kV)):=by
 induction r with
 | nil=>cases hx
 | @cons p q ps qs h t ih=>
   rcases List.mem_cons.mp hx with rfl|hx
   ·rw [←h.1];exact h.2.1
   ·exact ih hx
theorem Hh {H:Hp} {h0:Heap} {d it p:Addr} {vs:List V} {its:List Value} {ps:List (List Key×V)} {R:Result->Shared->Prop} (hu:A.in1.units<cLine)
 (W:Walks prog w A.in1 it [it,p] [it] its.length (fun i v=>its[i]? = some v) (fun i h=>h.IsListIter it p i/\h.IsList p its.toArray))
 (ok:nP prog w H h0) (rv:Vals vs its) (pa:sI H vs ps) (hd:h0.get? d=none) (hi0:h0.get? it=none) (hp:∃o,h0.get? p=some o) (ndi:d≠it) (hz:ps.length<=sizeLine):
 ∀(m i:Nat) (s:Shared) (xs:List (List Key×Addr×Value)),its.length - i=m->i<=its.length->(s.heap.IsListIter it p i/\s.heap.IsList p its.toArray)->(∀b o,h0.get? b=some o->s.heap.get? b=some o) ->
  s.heap.DictOfH (tupleKind (bD prog w)) d xs->KT H (lu [] (ps.take i)) xs ->
  (∀h' tk xs',(∀b o,h0.get? b=some o->h'.get? b=some o)->h'.DictOfH (tupleKind (bD prog w)) d xs'->KT H (lu [] ps) xs'->R (.ok (.ret .none)) {s with heap:=h',toks:=tk}) ->
  codeAny (model prog w) A (.builtin "dict.update.loop" ⟨[.ref d,.ref it,rawInt i,.none],[]⟩) R s:=by
 have lens:its.length=ps.length:=by rw [←rv.length];exact pa.1
 have dp:d≠p:=fun z=>by obtain ⟨o,ho⟩:=hp;rw [←z,hd] at ho;cases ho
 have moved:∀{h h':Heap} {xs:List (List Key×Addr×Value)} {kvs:List (List Key×V)},(∀b o,b≠it->h.get? b=some o->h'.get? b=some o)->(∀b o,h0.get? b=some o->h.get? b=some o)->h.DictOfH (tupleKind (bD prog w)) d xs->KT H kvs xs ->
  (∀b o,h0.get? b=some o->h'.get? b=some o)/\h'.DictOfH (tupleKind (bD prog w)) d xs:=fun {h h' xs kvs} k k0 dd kt=>by
  have k1:∀b o,h0.get? b=some o->h'.get? b=some o:=fun b o e=>k b o (fun z=>by rw [z,hi0] at e;cases e) (k0 b o e);refine ⟨k1, ?_⟩;obtain ⟨o,es,ep,h1,h2,h3,h4,h5,h6⟩:=dd;have ok':=ok.kept k1;refine ⟨o,es,ep,k d o ndi h1,h2,h3,h4,fun x hx=> ?_,h6⟩;exact lD ok' (TV kt hx)
 intro m
 induction m with
 | zero=>
   intro i s xs hm hi st k0 dd kt hR;have hin:i=its.length:=by omega
   subst hin;refine codeAny_builtin lO ?_;rw [Around.under_plainId gk _];show wpAny _ A.in1 (pyNext (.ref it) >>= _) _ _ s;refine wpAny_bind (W.done s _ _ st fun h' tk k=> ?_);obtain ⟨k1,d1⟩:=moved (h:=s.heap) (h':=h') (fun b o nb e=>k b o (by simpa using nb) e) k0 dd kt;show wpAny _ A.in1 (ret Value.none) _ _ _;rw [lens,List.take_length] at kt;exact wpAny_pure (hR h' tk xs k1 d1 kt)
 | succ m ih=>
   intro i s xs hm hi st k0 dd kt hR;have hlt:i<its.length:=by omega
   refine codeAny_builtin lO ?_;rw [Around.under_plainId gk _];show wpAny _ A.in1 (pyNext (.ref it) >>= _) _ _ s;refine wpAny_bind (W.item i s _ _ hlt st fun v h1 tk hP st1 k=> ?_);obtain ⟨k1,d1⟩:=moved (h:=s.heap) (h':=h1) (fun b o nb e=>k b o (by simpa using nb) e) k0 dd kt;have hv1:i<vs.length:=by rw [rv.length];exact hlt
   have hp1:i<ps.length:=by omega
   obtain ⟨t,a,ev,ht,ha⟩:=pa.2 i vs[i] ps[i] (by simp [hv1]) (by simp [hp1]);obtain ⟨u,eu,rvi⟩:=rv.get (i:=i) (x:= .ref t) (by rw [←ev];simp [hv1]);rw [hP] at eu;cases eu;cases rvi;have ok1:=ok.kept k1;obtain ⟨_,its2,r2,o2,ho2,hc2,n2,hd2⟩:=ok1 _ _ ht;obtain ⟨u1,u2,rfl,ra,ry⟩:=vals2 r2;cases ra;show wpAny _ A.in1 (holding [Value.ref t] _ >>= _) _ _ _;refine wpAny_bind (wpAny_holding ?_);refine wpAny_bind (wpAny_tryCatch ?_);unfold Builtin.Dict.pairItems;refine wpAny_bind (wpAny_typeOf (T:= "tuple") ⟨o2,ho2,hc2⟩ ?_);rw [if_pos (by decide)];refine wpAny_bind (wpAny_seqItems ho2 hd2 (wpAny_pure ?_));show wpAny _ A.in1 (holding [Value.ref a,u2] (dictSet d (.ref a) u2)) _ _ _;refine wpAny_holding ?_
   have lz:xs.length<=sizeLine:=by
    have e1:=Paired.length kt;have e2:=zP [] (ps.take i);rw [List.length_take,List.length_nil] at e2;omega
   refine wpAny_dictSet_heap (knd:=tupleKind (bD prog w)) (xs:=xs) (hsz:=lz) hu (lD ok1 ha) d1 fun h2 d2 sb=> ?_;have k2:∀b o,h0.get? b=some o->h2.get? b=some o:=fun b o e=>(sb.2 b (fun z=>by rw [z,hd] at e;cases e)).trans (k1 b o e);refine wpAny_pure ⟨plainId_quiet gk _, ?_⟩;refine ih (i+1) _ _ (by omega) (by omega) (W.frame _ _ _ st1 fun b hb o e=> ?_) k2 d2 ?_ fun h' tk' xs' k' d' kt'=>hR h' tk' xs' k' d' kt'
   ·have:b≠d:=fun z=>by
     subst z;rcases List.mem_cons.mp hb with rfl|hb
     ·exact ndi rfl
     ·exact dp (by simpa using hb)
    exact (sb.2 b this).trans e
   ·rw [G5 (p:=ps[i]) (by simp [hp1])]
    exact kt.put ps[i].1 ha ry
theorem wB {h:Heap} {a:Addr} (l:h.objs.size<=a):h.get? a=none:=by
 cases e:h.get? a with
 | none=>rfl
 | some q=>exact absurd (Heap.lt_size e) (Nat.not_lt.mpr l)
theorem DG {H:Hp} {p:Addr} {vs:List V} {its:List Value} {ps:List (List Key×V)} {Q:Value->Shared->Prop} (hh:A.handled=none) (hu:A.in1.in1.units<cLine) (pl:PlainL s.heap p its.toArray)
 (ok:nP prog w H s.heap) (rv:Vals vs its) (pa:sI H vs ps) (hz:ps.length<=sizeLine)
 (h:∀h' tk xs,(∀b o,s.heap.get? b=some o->h'.get? b=some o)->h'.DictOfH (tupleKind (bD prog w)) s.heap.objs.size xs->KT H (lu [] ps) xs->Q (.ref s.heap.objs.size) {s with heap:=h',toks:=tk}):
 wpAny (model prog w) A (call (.type "dict") [.ref p]) Q E s:=by
 refine callType_codes (Q₁:=fun obj s₁=>obj = .ref s.heap.objs.size/\s₁={s with heap:=s.heap.push {cls:= .type "dict",data:= .dict #[]}}) F.kt_called_dict (F.kt_typeCall_dict_1 _) F.entry_dict_init (kt_code_dict_new _ ⟨rfl,rfl⟩) ?_;rintro obj s₁ ⟨rfl,rfl⟩;have hnew:(s.heap.push {cls:= .type "dict",data:= .dict #[]}).DictOfH (tupleKind (bD prog w)) s.heap.objs.size []:=⟨_,_,_,Heap.get?_push_size _ rfl,⟨rfl,rfl,rfl⟩,rfl,rfl,fun x hx=>(by cases hx),by simp⟩;have hT:Shared.TypeIs {s with heap:=s.heap.push {cls:= .type "dict",data:= .dict #[]}} (.ref s.heap.objs.size) "dict" :=⟨_,Heap.get?_push_size _ rfl,rfl⟩;refine ⟨hT,F.args_dict_init_2 _ _, ?_⟩;obtain ⟨o,n,ho,hc,hd,hs⟩:=id pl;have ho1:(s.heap.push {cls:= .type "dict",data:= .dict #[]}).get? p=some o:=Heap.get?_push_of_some _ ho;unfold Builtin.«dict.__init__»;refine wpAny_bind ?_;unfold Builtin.Dict.selfAndRest;refine wpAny_bind (wpAny_notOrdered_dict hT ?_);show wpAny _ _ (pure (s.heap.objs.size,[Value.ref p])) _ _ _;refine wpAny_pure ?_;show wpAny _ _ (Builtin.Dict.updateFrom "dict.__init__" s.heap.objs.size (.ref p) [] .none) _ _ _;unfold Builtin.Dict.updateFrom;refine wpAny_bind (wpAny_typeOf (T:= "list") ⟨o,ho1,hc⟩ ?_);rw [if_pos (by decide)];refine wpAny_bind (MN (s:={s with heap:=s.heap.push {cls:= .type "dict",data:= .dict #[]}}) ho1 hc hs hd (show A.in1.in1.handled=none from hh) fun h1 tk e ne=> ?_);have k1:∀b q,s.heap.get? b=some q->h1.get? b=some q:=fun b q eb=>ne.keeps b q (Heap.get?_push_of_some _ eb);have hp1:h1.get? p=some o:=k1 p o ho
 have hd1:h1.DictOfH (tupleKind (bD prog w)) s.heap.objs.size []:=by
  obtain ⟨q,es,ep,q1,q2⟩:=hnew;refine ⟨q,es,ep,ne.keeps _ _ q1,q2.1,q2.2.1,q2.2.2.1,fun x hx=>(by cases hx),q2.2.2.2.2⟩
 rw [if_pos (show (none:Option Value).isNone=true from rfl)];refine wpAny_bind (wpAny_rule ?_);have Yu:h1.IsList p its.toArray:=⟨o,hp1,hc,n,hs⟩;refine wpAny_bind (wpAny_pyIter_list (s:={s with heap:=h1,toks:=tk}) Yu ?_);refine wpAny_pure ⟨plainId_quiet gk _, ?_⟩;have lts:s.heap.objs.size<h1.objs.size:=by obtain ⟨q,_,_,q1,_⟩:=hd1;exact Heap.lt_size q1
 have ltp:p<h1.objs.size:=Heap.lt_size hp1;refine Hh (A:=A.in1) (H:=H) (h0:=s.heap) (d:=s.heap.objs.size) (it:=h1.objs.size) (p:=p) hu (sS (show A.in1.in1.handled=none from hh) h1.objs.size p (fun z=>by rw [z] at ltp;exact Nat.lt_irrefl _ ltp) its) ok rv pa ?_ ?_ ⟨o,ho⟩ (Nat.ne_of_lt lts) hz its.length 0 _ [] (by omega) (Nat.zero_le _) ⟨⟨_,Heap.get?_push_size _ rfl,rfl,rfl⟩,o,Heap.get?_push_of_some _ hp1,hc,n,hs⟩ (fun b q eb=>Heap.get?_push_of_some _ (k1 b q eb)) ?_ .nil ?_
 ·exact wB (Nat.le_refl _)
 ·exact wB (Nat.le_of_lt lts)
 ·obtain ⟨q,es,ep,q1,q2,q3,q4,_,q6⟩:=hd1
  exact ⟨q,es,ep,Heap.get?_push_of_some _ q1,q2,q3,q4,fun x hx=>(by cases hx),q6⟩
 ·exact fun h' tk' xs k' d' kt'=>⟨rfl,h h' tk' xs k' d' kt'⟩
end
section
variable {X:Cx}
def SM (K:PySem.W.Frag):List V->Hp->VK->Prop:=fun xs H Q=>∃(p:Addr) (vs:List V) (ps:List (List Key×V)),xs=[.ref p]/\aZ K H p vs/\sI H vs ps /\ ∀q,H q=none->Q (.ref q) (upd H q (.dT (lu [] ps)))
theorem Bf {K:PySem.W.Frag} (hK:X.K=K) (hc:X.calm=true) (hu:X.A.in1.units+64<cLine):ig X (.type "dict") (SM K):=by
 subst hK;intro pins s σ H xs us Q I r h;obtain ⟨p,vs,ps,rfl,hq,pa,q⟩:=h;obtain ⟨u,rfl,rx⟩:=vals1 r;cases rx;obtain ⟨its,rv,pl,hz⟩:=I.list hq;have z:ps.length<=sizeLine:=by rw [←pa.1];exact hz
 refine DG (H:=H) (I.ok.hd hc) (Nat.lt_of_le_of_lt (show X.A.in1.in1.units<=X.A.in1.units+64 by show X.A.in1.units+1<=_;omega) hu) pl I.hok rv pa z fun h' tk xs k dd kt=> ?_;have hn:=I.hok.fresh (Nat.le_refl s.heap.objs.size);have lp:=zP [] ps;refine ⟨.ref s.heap.objs.size,_,I.laid (a:=s.heap.objs.size) (o:= .dT (lu [] ps)) k (Nat.le_refl _) ?_,rfl,q _ hn⟩;obtain ⟨o,es,ep,q1,q2,q3,q4,_,q6⟩:=dd;refine ⟨by rw [List.length_nil] at lp;omega, ?_,xs,kt.keeps fun b ys e=> ?_,o,es,ep,q1,q2,q3,q4,q6⟩
 ·have:=I.big
  simp only [beq_eq_false_iff_ne,ne_eq];intro z;rw [z] at this;exact Nat.lt_irrefl _ this
 ·rw [bA (aL e hn)]
  exact e
variable {pos:Pos} {k v:Expr} {tk tv:TE}
def RJ (tk tv:TE):TE:=fun σ H Q=>∀p,H p=none->tk σ (upd H p (.dK [])) fun x H1=>tv σ H1 fun y H2=>∃c,x=kV c/\H2 p=some (.dK [])/\Q (.ref p) (upd H2 p (.dK [(c,y)]))
theorem Ke (hk:PE X k tk) (hv:PE X v tv):PE X (.Dict [some k] [v] pos) (RJ tk tv):=by
 intro pins s σ H Q I q;have hn:=I.hok.fresh (Nat.le_refl s.heap.objs.size);have I1:=I.laid (a:=s.heap.objs.size) (o:= .dK []) (h':=s.heap.push {cls:= .type "dict",data:= .dict #[]}) (t':=s.toks) (fun _ _ q=>Heap.get?_push_of_some _ q) (Nat.le_refl _) (uJ s.heap I.big);refine wpAny_Dict_pairs (knd:=bD X.prog X.w) (pairs:=[((eval k X.env),(do let x ←eval v X.env;standAt pos;pure x))]) rfl (by simp) (by simp) ?_;refine evalPairs_cons (cF (hk pins _ σ _ _ I1 (q _ hn)) fun kv s1 ⟨x,H1,I2,r1,q1⟩=>wpAny_bind (cF (hv pins s1 σ H1 _ I2 q1) fun vv s2 ⟨y,H2,I3,r2,c,e,hp,q2⟩=>wpAny_bind (wpAny_standAt (wpAny_pure (evalPairs_nil ?_)))));subst e;obtain ⟨z,hd,xs,rel,dd⟩:=FW I3.hok hp;cases rel;refine ⟨[(c,vv)],⟨qW r1,rfl,True.intro⟩,dd,fun h' d' sb=>⟨.ref s.heap.objs.size,_, ?_,rfl,q2⟩⟩;obtain ⟨o,es,ep,hq,rest⟩:=id d';exact pN I3 (by rw [hp];exact True.intro) sb ⟨o,hq⟩ ⟨by show 1<=sizeLine;decide,hd,_,.cons ⟨rfl,r2⟩ .nil,d'⟩
end
end L2
set_option Elab.async false
set_option linter.all false
set_option maxRecDepth 100000
set_option maxHeartbeats 4000000
namespace L2
open PySem PySem.Spec PyProof.Rows PySem.MeetsSeq
theorem JR (l:Addr) (its:Array Value) (n:Nat) (x:Value) (e:Value->Bool) (j:Nat) (hj:j<its.size) (hit:e its[j]=true) (hz:its.size<=sizeLine) (k:Nat):
 ∀i:Nat,j - i=k->i<=j->(∀m (hm:m<its.size),i<=m->m<j->e its[m]=false)->Meets (Builtin.«list.remove.loop» ⟨[.ref l,x,rawInt i],[]⟩)
  (fun A R s=>s.heap.get? l=some {cls:= .type "list",dict:=none,data:= .seq its n,slots:= #[]}/\(∀y,y∈its->SeqAt.EqAt A.in1 s y x (e y))/\R (.ok (.ret .none)) {s with heap:=s.heap.update l (Obj.mapSeq fun xs=>xs.eraseIdxIfInBounds j)}):=by
 induction k with
 | zero=>
   intro i hk hij hno prog w A R s h;obtain ⟨hp,g,d,tk,os⟩:=s;obtain ⟨hl,he,h⟩:=h;have hij':i=j:=by omega
   subst hij'
   wp_walk using wpAny_loadPart' hl
   rw [show its[((i:Nat):Int).toNat]? = some its[i] by simp [hj]];refine wpAny_bind (he _ (Array.getElem_mem hj) prog w _ _ ?_);rw [hit];have hz':(its.eraseIdxIfInBounds i).size<=sizeLine+1:=Nat.le_trans (size_erased its _) (Nat.le_succ_of_le hz)
   wp_walk using (wpAny_updateSeq hl rfl (hz:=hz) (_hz':=hz')),wpAny_loadPart' hl
   simpa using h
 | succ k ih=>
   intro i hk hij hno prog w A R s h;obtain ⟨hp,g,d,tk,os⟩:=s;obtain ⟨hl,he,h⟩:=h;have hlt:i<its.size:=by omega
   wp_walk using wpAny_loadPart' hl
   rw [show its[((i:Nat):Int).toNat]? = some its[i] by simp [hlt]];refine wpAny_bind (he _ (Array.getElem_mem hlt) prog w _ _ ?_);rw [hno i hlt (Nat.le_refl _) (by omega)]
   wp_walk
   rw [show ((i:Int)+1)=((i+1:Nat):Int) by push_cast;rfl];exact ⟨plainId_quiet plain_remove_loop _,codeAny_builtin entry_remove_loop (by rw [Around.under_plainId plain_remove_loop _];exact ih (i+1) (by omega) (by omega) (fun m hm h1 h2=>hno m hm (by omega) h2) prog w A R _ ⟨hl,he,h⟩)⟩
theorem Sx (l:Addr) (its:Array Value) (n:Nat) (x:Value) (e:Value->Bool) (j:Nat) (hj:j<its.size) (hit:e its[j]=true) (hz:its.size<=sizeLine) (hno:∀m (hm:m<its.size),m<j->e its[m]=false):
 Meets (Builtin.«list.remove» ⟨[.ref l,x],[]⟩)
  (fun A R s=>s.heap.get? l=some {cls:= .type "list",dict:=none,data:= .seq its n,slots:= #[]}/\(∀y,y∈its->SeqAt.EqAt A.in1 s y x (e y))/\R (.ok (.ret .none)) {s with heap:=s.heap.update l (Obj.mapSeq fun xs=>xs.eraseIdxIfInBounds j)}):=by
 intro prog w A R s h;obtain ⟨hp,g,d,tk,os⟩:=s;obtain ⟨hl,he,h⟩:=h
 wp_walk using wpAny_loadPart' hl
 exact ⟨plainId_quiet plain_remove_loop _,codeAny_builtin entry_remove_loop (by rw [Around.under_plainId plain_remove_loop _];exact JR l its n x e j hj hit hz _ 0 rfl (Nat.zero_le _) (fun m hm _ h2=>hno m hm h2) prog w A R _ ⟨hl,he,h⟩)⟩
def VD:V->List V->Hp->VK->Prop:=fun x vs H Q=>∃(l:Addr) (as:List Addr) (w:V) (d:PyData) (ds:List PyData) (j:Nat) (e:PyData),x = .ref l/\vs=[w]/\H l=some (.lst (as.map V.ref))/\aF H (as.map V.ref) ds/\Dat H w d/\SeqAt.shaped d=true/\(∀e∈ds,SeqAt.shaped e=true) /\
 ds[j]? = some e/\PyData.eqv e d=true/\(∀m e',m<j->ds[m]? = some e'->PyData.eqv e' d=false)/\Q .non (upd H l (.lst ((as.map V.ref).eraseIdx j)))
section
variable {X:Cx}
theorem Dd (hu:X.A.in1.units+64<cLine):X_ X "list.remove" VD:=by
 intro pins s σ H x vs v us Q I rx rv h;obtain ⟨l,as,w,d,ds,j,e,rfl,rfl,hH,hds,hd,s1,s2,hj,hit,hno,q⟩:=h;cases rx;obtain ⟨u,rfl,ru⟩:=rv.one;obtain ⟨z,its,n,r,hl,ho⟩:=I.Ae hH;obtain ⟨bs,rd⟩:=I.reads d hd ru;have ei:=Gr r;subst ei;have dl:as.length=ds.length:=by rw [←hds.length,List.length_map]
 have jl:j<as.length:=by rw [dl];exact (List.getElem?_eq_some_iff.mp hj).1
 have at_:∀m (hm:m<as.length),∃e',ds[m]? = some e'/\Dat H (.ref as[m]) e':=fun m hm=>by
  exact hds.get (i:=m) (v:= .ref as[m]) (by rw [List.getElem?_map,List.getElem?_eq_getElem hm];rfl)
 have eqs:∀y∈(as.map Value.ref).toArray,SeqAt.EqAt X.A.in1 s y u (Wg H d y):=fun y hy=>by
  have hy:y∈as.map Value.ref:=by simpa using hy
  obtain ⟨a,ha,rfl⟩:=List.mem_map.mp hy;obtain ⟨m,hm,rfl⟩:=List.getElem_of_mem ha;obtain ⟨e',ee,de⟩:=at_ m hm
  rw [Dl de];obtain ⟨as',ra⟩:=I.reads e' de (u:= .ref as[m]) rfl;exact SeqAt.eqAt_reads e' d _ s _ u as' bs ra rd (SeqAt.canLay_of_shaped (s2 e' (List.mem_of_getElem? ee))) (SeqAt.canLay_of_shaped s1) (SeqAt.room_of_shaped (s2 e' (List.mem_of_getElem? ee)) hu)
 have hz':as.length<=sizeLine:=by simpa using z
 refine call_meets F.slot_list_remove ⟨_,ho,rfl⟩ F.entry_list_remove (F.args_list_remove_2 _ _) (Sx l (as.map Value.ref).toArray n u (Wg H d) j (by simpa using jl) ?_ (by simpa using hz') (fun m hm hmj=> ?_)) ⟨ho,eqs, ?_⟩
 ·obtain ⟨e',ee,de⟩:=at_ j jl
  rw [hj] at ee;cases ee;show Wg H d ((as.map Value.ref).toArray[j]'(by simpa using jl))=true;simp only [List.getElem_toArray,List.getElem_map];rw [Dl de];exact hit
 ·have hm':m<as.length:=by simpa using hm
  obtain ⟨e',ee,de⟩:=at_ m hm'
  simp only [List.getElem_toArray,List.getElem_map];rw [Dl de];exact hno m e' hmj ee
 ·refine ⟨.non,_,I.K5 (its':=(as.map Value.ref).eraseIdx j) hH ho ?_ (r.eraseIdx j) ?_,rfl,q⟩
  ·show (as.map Value.ref).toArray.eraseIdxIfInBounds j=((as.map Value.ref).eraseIdx j).toArray
   rw [List.eraseIdxIfInBounds_toArray]
  ·have:=qw (as.map V.ref) j
   omega
end
end L2
set_option Elab.async false
set_option linter.all false
set_option maxRecDepth 100000
set_option maxHeartbeats 4000000
namespace Prf
open PySem L2
def top (i:Nat):Stmt:=PySem.Challenge.pw_fewnotes_k98_whole_records_of_long_runs.main.body.getD i (.Pass ⟨0,0,0,0⟩)
abbrev d_:Stmt:=top 7
abbrev eF:Stmt:=top 8
abbrev jd:Stmt:=top 11
abbrev bR:Stmt:=top 12
abbrev fH:Stmt:=top 13
abbrev jc:Stmt:=top 15
abbrev fJ:Stmt:=top 16
abbrev d8:Stmt:=top 17
abbrev cR:Stmt:=top 18
abbrev eE:Stmt:=top 19
abbrev je:Stmt:=top 20
abbrev gH:Stmt:=top 22
abbrev dD:Stmt:=top 23
abbrev bU:Stmt:=top 24
abbrev jf:Stmt:=top 25
abbrev cu:Stmt:=top 26
abbrev kY:Stmt:=top 27
abbrev cN:Stmt:=top 28
abbrev cB:Stmt:=top 29
abbrev cQ:Stmt:=top 30
abbrev cA:Stmt:=top 31
abbrev cO:Stmt:=top 32
abbrev oX:Stmt:=top 33
abbrev bV:Stmt:=top 34
abbrev dF:Stmt:=top 35
abbrev fK:Stmt:=top 36
abbrev cP:Stmt:=top 37
abbrev d9:Stmt:=top 38
abbrev dz:Stmt:=top 39
abbrev bN:Stmt:=top 40
abbrev dB:Stmt:=top 42
abbrev k_:Stmt:=top 44
abbrev jg:Stmt:=top 45
abbrev jh:Stmt:=top 46
abbrev gJ:Stmt:=top 47
abbrev kZ:Stmt:=top 48
abbrev gK:Stmt:=top 49
abbrev gM:Stmt:=top 50
abbrev fM:Stmt:=top 51
abbrev cC:Stmt:=top 52
abbrev bJ:Stmt:=top 53
abbrev ji:Stmt:=top 54
abbrev fL:Stmt:=top 55
abbrev oW:Stmt:=top 56
structure nA (mg:Str->Option Value):Prop where
 Qp:mg "ValueError" = none
 rm:mg "all" = none
 Ux:mg "bool" = none
 Uw:mg "dict" = none
 Bm:mg "enumerate" = none
 Rn:mg "int" = none
 gU:mg "isinstance" = none
 fV:mg "len" = none
 lG:mg "list" = none
 Rm:mg "max" = none
 XQ:mg "min" = none
 iH:mg "range" = none
 uW:mg "sorted" = none
 aik:mg "sum" = none
 Qo:mg "tuple" = none
 Rk:mg "zip" = none
theorem zL:aX ["value"] ["value"] (ak d_):=⟨rfl,rfl,rfl,by decide +kernel,rfl,by decide +kernel,by decide +kernel⟩
theorem zN:aX ["value","count"] ["value","count"] (ak eF):=⟨rfl,rfl,rfl,by decide +kernel,rfl,by decide +kernel,by decide +kernel⟩
theorem lZ:aX ["web","counts","told","touch","k"] ["web"] (ak jd):=⟨rfl,rfl,rfl,by decide +kernel,rfl,by decide +kernel,by decide +kernel⟩
theorem rC:aX ["one","other"] ["one","other"] (ak bR):=⟨rfl,rfl,rfl,by decide +kernel,rfl,by decide +kernel,by decide +kernel⟩
theorem Cv:aX ["web","place","later"] ["web","place","later"] (ak fH):=⟨rfl,rfl,rfl,by decide +kernel,rfl,by decide +kernel,by decide +kernel⟩
theorem jw:aX ["web","named","knowns","told","place","name","found"] ["web"] (ak jc):=⟨rfl,rfl,rfl,by decide +kernel,rfl,by decide +kernel,by decide +kernel⟩
theorem Cw:aX ["value"] ["value"] (ak fJ):=⟨rfl,rfl,rfl,by decide +kernel,rfl,by decide +kernel,by decide +kernel⟩
theorem zH:aX ["named","bare","name"] ["named","bare","name"] (ak d8):=⟨rfl,rfl,rfl,by decide +kernel,rfl,by decide +kernel,by decide +kernel⟩
theorem iC:aX ["web","named","knowns","place","bare","known","earlier"] ["web","named","knowns","place"] (ak cR):=⟨rfl,rfl,rfl,by decide +kernel,rfl,by decide +kernel,by decide +kernel⟩
theorem zM:aX ["name","known"] ["name","known"] (ak eE):=⟨rfl,rfl,rfl,by decide +kernel,rfl,by decide +kernel,by decide +kernel⟩
theorem zJ:aX ["known","more","hand"] ["known","more"] (ak je):=⟨rfl,rfl,rfl,by decide +kernel,rfl,by decide +kernel,by decide +kernel⟩
theorem GK:aX ["record","cut"] ["record","cut"] (ak gH):=⟨rfl,rfl,rfl,by decide +kernel,rfl,by decide +kernel,by decide +kernel⟩
theorem gF:aX ["record","some","cut","broken","note"] ["record","some"] (ak dD):=⟨rfl,rfl,rfl,by decide +kernel,rfl,by decide +kernel,by decide +kernel⟩
theorem eG:aX ["record","some","cut","broken","note"] ["record","some"] (ak bU):=⟨rfl,rfl,rfl,by decide +kernel,rfl,by decide +kernel,by decide +kernel⟩
theorem oR:aX ["record","order","firsts","done","hand"] ["record","order"] (ak jf):=⟨rfl,rfl,rfl,by decide +kernel,rfl,by decide +kernel,by decide +kernel⟩
theorem fB:aX ["record","firsts","done","order","free"] ["record"] (ak cu):=⟨rfl,rfl,rfl,by decide +kernel,rfl,by decide +kernel,by decide +kernel⟩
theorem m5:aX ["record","shortest","starts","start","found"] ["record"] (ak kY):=⟨rfl,rfl,rfl,by decide +kernel,rfl,by decide +kernel,by decide +kernel⟩
theorem vD:aX ["record","some"] ["record","some"] (ak cN):=⟨rfl,rfl,rfl,by decide +kernel,rfl,by decide +kernel,by decide +kernel⟩
theorem tu:aX ["record"] ["record"] (ak cB):=⟨rfl,rfl,rfl,by decide +kernel,rfl,by decide +kernel,by decide +kernel⟩
theorem vI:aX ["record","done"] ["record","done"] (ak cQ):=⟨rfl,rfl,rfl,by decide +kernel,rfl,by decide +kernel,by decide +kernel⟩
theorem mj:aX ["record","order","hands"] ["record","order"] (ak cA):=⟨rfl,rfl,rfl,by decide +kernel,rfl,by decide +kernel,by decide +kernel⟩
theorem vG:aX ["counts","note"] ["counts","note"] (ak cO):=⟨rfl,rfl,rfl,by decide +kernel,rfl,by decide +kernel,by decide +kernel⟩
theorem Sg:aX ["done","touch"] ["done","touch"] (ak oX):=⟨rfl,rfl,rfl,by decide +kernel,rfl,by decide +kernel,by decide +kernel⟩
theorem rD:aX ["record","done"] ["record","done"] (ak bV):=⟨rfl,rfl,rfl,by decide +kernel,rfl,by decide +kernel,by decide +kernel⟩
theorem kO:aX ["record","firsts","note"] ["record"] (ak dF):=⟨rfl,rfl,rfl,by decide +kernel,rfl,by decide +kernel,by decide +kernel⟩
theorem Cy:aX ["counts","firsts","done","hand"] ["counts","firsts","done","hand"] (ak fK):=⟨rfl,rfl,rfl,by decide +kernel,rfl,by decide +kernel,by decide +kernel⟩
theorem vH:aX ["counts","firsts","done"] ["counts","firsts","done"] (ak cP):=⟨rfl,rfl,rfl,by decide +kernel,rfl,by decide +kernel,by decide +kernel⟩
theorem zK:aX ["note","following"] ["note","following"] (ak d9):=⟨rfl,rfl,rfl,by decide +kernel,rfl,by decide +kernel,by decide +kernel⟩
theorem gD:aX ["record","start","chains","length","back"] ["record","start"] (ak dz):=⟨rfl,rfl,rfl,by decide +kernel,rfl,by decide +kernel,by decide +kernel⟩
theorem fG:aX ["record","chains","longer","note","chain"] ["record","chains"] (ak bN):=⟨rfl,rfl,rfl,by decide +kernel,rfl,by decide +kernel,by decide +kernel⟩
theorem oO:aX ["hands","web","doers"] ["hands","web"] (ak dB):=⟨rfl,rfl,rfl,by decide +kernel,rfl,by decide +kernel,by decide +kernel⟩
theorem rR:aX ["script","total","cell"] ["script"] (ak k_):=⟨rfl,rfl,rfl,by decide +kernel,rfl,by decide +kernel,by decide +kernel⟩
theorem tE:aX ["number","place","one","two"] ["number","place"] (ak jg):=⟨rfl,rfl,rfl,by decide +kernel,rfl,by decide +kernel,by decide +kernel⟩
theorem tG:aX ["bag","many","cell","found"] ["bag","many"] (ak jh):=⟨rfl,rfl,rfl,by decide +kernel,rfl,by decide +kernel,by decide +kernel⟩
theorem m6:aX ["bag","hands","cells","loads","apart","kinds","hand","kind"] ["bag","hands","cells","loads","apart"] (ak gJ):=⟨rfl,rfl,rfl,by decide +kernel,rfl,by decide +kernel,by decide +kernel⟩
theorem oU:aX ["bag","hands","many","cells","loads","apart"] ["bag","hands"] (ak kZ):=⟨rfl,rfl,rfl,by decide +kernel,rfl,by decide +kernel,by decide +kernel⟩
theorem m7:aX ["order","found","many","at"] ["order"] (ak gK):=⟨rfl,rfl,rfl,by decide +kernel,rfl,by decide +kernel,by decide +kernel⟩
theorem wu:aX ["ties","order","spots"] ["ties","order"] (ak gM):=⟨rfl,rfl,rfl,by decide +kernel,rfl,by decide +kernel,by decide +kernel⟩
theorem Cz:aX ["ties","some"] ["ties","some"] (ak fM):=⟨rfl,rfl,rfl,by decide +kernel,rfl,by decide +kernel,by decide +kernel⟩
theorem jy:aX ["ties","found","at","later"] ["ties","found"] (ak cC):=⟨rfl,rfl,rfl,by decide +kernel,rfl,by decide +kernel,by decide +kernel⟩
theorem gG:aX ["record","size","first","found"] ["record","size"] (ak bJ):=⟨rfl,rfl,rfl,by decide +kernel,rfl,by decide +kernel,by decide +kernel⟩
theorem oV:aX ["record","order","tie","spots","turned","some"] ["record","order","tie"] (ak ji):=⟨rfl,rfl,rfl,by decide +kernel,rfl,by decide +kernel,by decide +kernel⟩
theorem jx:aX ["bag","record","order","tie","ties","beside","changed","found"] ["bag","record","order","tie"] (ak fL):=⟨rfl,rfl,rfl,by decide +kernel,rfl,by decide +kernel,by decide +kernel⟩
theorem jN:aX ["script","bag","turned","hands","web","record","order","at","some","tie"] ["script"] (ak oW):=⟨rfl,rfl,rfl,by decide +kernel,rfl,by decide +kernel,by decide +kernel⟩
section
variable {P:Program} {w:World} {K:PySem.W.Frag} {mg:Str->Option Value} {base:Heap}
def dZ (H:Hp) (r b:Addr) (n:Nat):Prop:=∃(ns:List Int) (i f c t:Int),H r=some (.lst [.ref b,.int i,.int f,.int c,.int t])/\H b=some (.lst (ns.map V.int))/\b≠r/\0<=i/\i<=ns.length/\0<=f/\0<=c/\c<=n
theorem dZ.keep {H H':Hp} {r b:Addr} {n:Nat} (h:dZ H r b n) (k:Same H H'):dZ H' r b n:=by
 obtain ⟨ns,i,f,c,t,e1,e2,q⟩:=h;exact ⟨ns,i,f,c,t,k _ _ e1,k _ _ e2,q⟩
theorem dZ.kp {H H':Hp} {r b p:Addr} {n:Nat} (h:dZ H r b n) (k:Kp p H H') (n1:r≠p) (n2:b≠p):dZ H' r b n:=by
 obtain ⟨ns,i,f,c,t,e1,e2,q⟩:=h;exact ⟨ns,i,f,c,t,k _ _ e1 n1,k _ _ e2 n2,q⟩
theorem dZ.mono {H:Hp} {r b:Addr} {n m:Nat} (h:dZ H r b n) (k:n<=m):dZ H r b m:=by
 obtain ⟨ns,i,f,c,t,e1,e2,q0,q1,q2,q3,q4,q5⟩:=h;exact ⟨ns,i,f,c,t,e1,e2,q0,q1,q2,q3,q4,by (clear q4 q3 q2 q1 q0 e2 e1;omega)⟩
theorem dZ.lst {H:Hp} {r b:Addr} {n:Nat} (h:dZ H r b n):∃ys,H r=some (.lst ys):=by
 obtain ⟨ns,i,f,c,t,e1,_⟩:=h;exact ⟨_,e1⟩
theorem dZ.ne {H:Hp} {r b p:Addr} {n:Nat} (h:dZ H r b n) (hp:H p=none):p≠r/\p≠b:=by
 obtain ⟨ns,i,f,c,t,e1,e2,_⟩:=h;exact ⟨(aL e1 hp).symm,(aL e2 hp).symm⟩
theorem Kp.new {H H':Hp} {r p:Addr} (k:Kp r H H') (hp:H' p=none) (hr:∃o,H' r=some o):H p=none:=by
 cases e:H p with
 | none=>rfl
 | some o=>
   by_cases n:p=r
   ·subst n
    obtain ⟨o',ho⟩:=hr;rw [hp] at ho;cases ho
   ·rw [k _ _ e n] at hp
    cases hp
theorem dZ.at {H:Hp} {r b:Addr} {n:Nat} (h:dZ H r b n):∃o,H r=some o:=by
 obtain ⟨ns,i,f,c,t,e1,_⟩:=h;exact ⟨_,e1⟩
theorem dZ.tups {H H':Hp} {r b:Addr} {n:Nat} (h:dZ H r b n) (k:Kp r H H'):∀a xs,H a=some (HO.tup xs)->H' a=some (HO.tup xs):=by
 obtain ⟨ys,e⟩:=h.lst;exact k.tups e
def Cm (K:PySem.W.Frag):Sp:=fun vs H Q _=>∃(x p:Int),vs=[.int x,.int p]/\0<=p/\p<2 ^ 62 /\ ∀z:Int,0<=z->Q (.int z) H
theorem OD {f:Addr} {fd:FuncData} (F:jq K "_law_stir" "_law_stir" jg f fd):cH P w K mg base iZ 1 f fd ["number","place"] (Cm K):=by
 refine F.ok tE (fun vs H Q E h=> ?_) (fun cdv A outer s H vs Q E hr h=> ?_)
 ·obtain ⟨x,p,rfl,_⟩:=h
  rfl
 ·obtain ⟨x,p,rfl,p0,p1,k⟩:=h
  refine ⟨_,(aB (aO (i:=2) tE.nd rfl (Or.inl rfl) (bG jC (bG dY (bG dY (bG mG (pv 0) ao) (bG mG (pv 1) ao)) ao) ao))
   (aB (aO (i:=3) tE.nd rfl (Or.inl rfl) (bG jC (bG mG (pv 2) (pv 2)) ao))
   (aC (aP (bG Fo (bG jC (bG dY (bG dY (bG mG (pv 3) ao) (bG mG (bG mG (pv 1) (pv 1)) ao)) (bG Fo (pv 2) ao)) ao) ao))))), ?_⟩
  refine ⟨_,rfl,_,_,rfl,rfl,.inr ⟨by decide,by decide⟩,_,rfl,_,_,rfl,rfl,.inr ⟨by decide,by decide⟩,_,_,rfl,rfl,_,_,rfl,rfl,_,_,rfl,rfl,(by show (0:Int)<2305843009213693951;decide), ?_⟩;have o0:(0:Int)<=(x*998244353+p*1000000007+5) % 2305843009213693951:=Int.emod_nonneg _ (by decide);have o1:(x*998244353+p*1000000007+5) % 2305843009213693951<2305843009213693951:=Int.emod_lt_of_pos _ (by decide);generalize (x*998244353+p*1000000007+5) % 2305843009213693951=one at o0 o1;refine ⟨_,rfl,_,rfl,_,_,rfl,rfl,.inl ⟨by (clear o1 o0 p1 p0;omega),by (clear o1 o0 p1 p0;omega)⟩,_,_,rfl,rfl,(by show (0:Int)<2305843009213693951;decide), ?_⟩;refine ⟨_,rfl,_,_,rfl,rfl,.inr ⟨by decide,by decide⟩,_,rfl,_,rfl,_,_,rfl,rfl,.inl ⟨by (clear o1 o0 p1;omega),by (clear o1 o0 p0;omega)⟩,_,_,rfl,rfl,.inr ⟨by decide,by decide⟩,_,_,rfl,rfl,_,rfl,_,_,rfl,rfl,(by show U3 _ 3;exact ⟨by decide,by decide⟩),_,_,rfl,rfl,_,_,rfl,rfl,(by show (0:Int)<2305843009213693921;decide),_,_,rfl,rfl,(by show U3 _ 1024;exact ⟨by decide,by decide⟩), ?_⟩;exact k _ (Int.ediv_nonneg (Int.emod_nonneg _ (by decide)) (by decide))
def pY (K:PySem.W.Frag):Sp:=fun vs H Q _=>∃(r b:Addr) (m:Int) (n:Nat),vs=[.ref r,.int m]/\dZ H r b n/\n<1099511627776/\0<m/\m<1329227995784915872903807060280344576 /\ ∀(z:Int) (H':Hp),0<=z->z<m->dZ H' r b (n+1)->Kp r H H'->Q (.int z) H'
theorem O1 {f:Addr} {fd:FuncData} (F:jq K "_law_draw" "_law_draw" jh f fd) (Gn:FnAt P w K mg base 1 "_law_stir" ["number","place"] (Cm K)) (Bt:nA mg):cH P w K mg base iZ 2 f fd ["bag","many"] (pY K):=by
 refine F.ok tG (fun vs H Q E h=> ?_) (fun cdv A outer s H vs Q E hr h=> ?_)
 ·obtain ⟨r,b,m,n,rfl,_⟩:=h
  rfl
 ·obtain ⟨r,b,m,n,rfl,⟨ns,i,f,c,t,hR,hB,nb,i0,i1,f0,c0,c1⟩,hn,m0,m1,k⟩:=h
  have cX:=hr.units
  refine ⟨_,(aB (cj (bf mH (pv 1) ao (aY _)) (aC (aP ao)) bw)
   (aB (nU (bG dY (aK (aM (K:=K) rfl) (pv 0) ao (fun _ _=>rfl)) ao) (nW (pv 0) ao set_list))
   (aB (cj (PW.pt (mz (bf pA (aK (aM (K:=K) rfl) (pv 0) ao (fun _ _=>rfl)) ao (aY _)) (jG (bf mH (aK (aM (K:=K) rfl) (pv 0) ao (fun _ _=>rfl)) (aV (aU (K:=K) rfl) (by rfl) Bt.fV dj (aj (aK (aM (K:=K) rfl) (pv 0) ao (fun _ _=>rfl)) aA)) (aY _))))) (aC (aP (bG jC (aN Gn (hr.mono (by decide)) (by rfl) (aj (aK (aM (K:=K) rfl) (pv 0) ao (fun _ _=>rfl)) (aj (aK (aM (K:=K) rfl) (pv 0) ao (fun _ _=>rfl)) aA))) (pv 1)))) bw)
   (aB (cj (bf pA (aK (aM (K:=K) rfl) (pv 0) ao (fun _ _=>rfl)) ao (aY _)) (aB (aO (i:=2) tG.nd rfl (Or.inl rfl) (aK (aM (K:=K) rfl) (aK (aM (K:=K) rfl) (pv 0) ao (fun _ _=>rfl)) (aK (aM (K:=K) rfl) (pv 0) ao (fun _ _=>rfl)) (fun _ _=>rfl)))
   (aB (nU (bG dY (aK (aM (K:=K) rfl) (pv 0) ao (fun _ _=>rfl)) ao) (nW (pv 0) ao set_list))
   (aB (cj (bf pA (pv 2) (bG Kh ao ao) (aY _)) (aC (aP (bG jC (aN Gn (hr.mono (by decide)) (by rfl) (aj (bG jC (pv 2) ao) (aj (aK (aM (K:=K) rfl) (pv 0) ao (fun _ _=>rfl)) aA))) (pv 1)))) bw)
   (aC (nU (bG CN (pv 2) (bG Kh ao ao)) (nW (pv 0) ao set_list)))))) bw)
   (aB (aO (i:=3) tG.nd rfl (Or.inl rfl) (bG jC (aK (aM (K:=K) rfl) (pv 0) ao (fun _ _=>rfl)) (pv 1)))
   (aB (nU (bG Km (aK (aM (K:=K) rfl) (pv 0) ao (fun _ _=>rfl)) (pv 1)) (nW (pv 0) ao set_list))
   (aC (aP (pv 3))))))))), ?_⟩
  refine ⟨_,rfl,rfl,_,rfl, ?_⟩;refine iM (fun h0=> ?_) (fun h0=> ?_)
  ·have e:m=1:=by injection (of_decide_eq_true h0)
   subst e;exact k 0 H (by decide) (by decide) ⟨ns,i,f,c,t,hR,hB,nb,i0,i1,f0,c0,by (clear h0 m1 m0 cX hn c0 f0 i1 i0 nb hB hR;omega)⟩ (Kp.refl _ _)
  ·
   refine ⟨_,rfl,_,_,_,_,rfl,rfl,aZ.of hR,rfl,_,_,rfl,rfl,_,rfl,_,_,_,_,rfl,rfl,hR,rfl, ?_⟩;have k1:Kp r H (upd H r (.lst [.ref b,.int i,.int f,.int (c+1),.int t])):=Kp.set;have nO:(upd H r (.lst [.ref b,.int i,.int f,.int (c+1),.int t])) r=some (.lst [.ref b,.int i,.int f,.int (c+1),.int t]):=au;have kj:=k1 _ _ hB nb;have ln:(List.map V.int ns).length=ns.length:=List.length_map ..;have vA:(0:Int)<=c+1:=by (clear ln kj nO h0 cX m1 m0 hn c1 f0 i1 i0 nb hB hR;omega)
   have zU:c+1<2 ^ 62:=by (clear vA ln kj nO h0 cX m1 m0 c0 f0 i1 i0 nb hB hR;omega)
   have YB:∀z:Int,0<=z % m:=fun z=>Int.emod_nonneg _ (by (clear zU vA ln kj nO h0 cX m1 hn c1 c0 f0 i1 i0 nb hB hR;omega));have Yz:∀z:Int,z % m<m:=fun z=>Int.emod_lt_of_pos _ m0;refine ⟨_,rfl,_,_,_,_,rfl,rfl,aZ.of nO,rfl,_,_,rfl,rfl,_,rfl, ?_⟩
   by_cases f2:f<2
   ·rw [decide_eq_true f2]
    refine fX ?_;refine ⟨_,rfl,_,_,_,_,rfl,rfl,aZ.of nO,rfl,_,rfl,_,_,_,_,rfl,rfl,aZ.of nO,rfl,b,_,rfl,.inl (aZ.of kj),rfl,_,rfl, ?_⟩;refine iM (fun h1=> ?_) (fun h1=> ?_)
    ·refine ⟨_,rfl,_,_,_,_,rfl,rfl,aZ.of nO,rfl,_,rfl,_,_,_,_,rfl,rfl,aZ.of nO,rfl,t,c+1,rfl,vA,zU,fun z z0=> ?_⟩
     refine ⟨_,rfl,_,_,rfl,rfl,m0, ?_⟩;exact k _ _ (YB z) (Yz z) ⟨ns,i,f,c+1,t,nO,kj,nb,i0,i1,f0,vA,by (clear z0 h1 f2 zU vA ln kj nO h0 cX m1 m0 hn c0 f0 i1 i0 nb hB hR;omega)⟩ k1
    ·have hlt:i<ns.length:=by
      have:¬i=(ns.length:Int):=fun z=>h1 (decide_eq_true (by rw [ln,z]));omega
     obtain ⟨cell,hc,_⟩:∃cell:Int,Bp (ns.map V.int) i=some (V.int cell)/\True:=by
      obtain ⟨m',rfl⟩:=Int.eq_ofNat_of_zero_le i0;have:m'<ns.length:=by (clear h1 kj nO i1 i0 hR f2 zU vA ln h0 cX m1 m0 hn c1 c0 f0 nb hB;omega)
      exact ⟨ns[m'],dR (by simp [this]),trivial⟩
     refine ⟨_,rfl,_,_,_,_,rfl,rfl,aZ.of nO,rfl,_,_,rfl,rfl,_,rfl, ?_⟩;rw [decide_eq_true f2];refine fX ?_;refine ⟨_,rfl,_,_,_,_,rfl,rfl,aZ.of nO,rfl,_,rfl,_,_,_,_,rfl,rfl,aZ.of nO,rfl,_,_,_,_,rfl,rfl,aZ.of kj,hc, ?_⟩;refine ⟨_,rfl,_,_,_,_,rfl,rfl,aZ.of nO,rfl,_,_,rfl,rfl,_,rfl,_,_,_,_,rfl,rfl,nO,rfl, ?_⟩;have k2:Kp r (upd H r (.lst [.ref b,.int i,.int f,.int (c+1),.int t])) (upd (upd H r (.lst [.ref b,.int i,.int f,.int (c+1),.int t])) r (.lst [.ref b,.int (i+1),.int f,.int (c+1),.int t])):=Kp.set;have Ls:(upd (upd H r (.lst [.ref b,.int i,.int f,.int (c+1),.int t])) r (.lst [.ref b,.int (i+1),.int f,.int (c+1),.int t])) r=some (.lst [.ref b,.int (i+1),.int f,.int (c+1),.int t]):=au;have hB2:=k2 _ _ kj nb;refine ⟨_,rfl,_,_,rfl,rfl,(by show UW 10 18;exact ⟨by decide,by decide,by decide⟩),_,_,rfl,rfl,_,rfl, ?_⟩;refine iM (fun h2=> ?_) (fun h2=> ?_)
     ·refine ⟨_,rfl,_,_,rfl,rfl,(by show (0:Int)<2305843009213693951;decide),_,rfl,_,_,_,_,rfl,rfl,aZ.of Ls,rfl,_,c+1,rfl,vA,zU,fun z z0=> ?_⟩
      refine ⟨_,rfl,_,_,rfl,rfl,m0, ?_⟩;exact k _ _ (YB z) (Yz z) ⟨ns,i+1,f,c+1,t,Ls,hB2,nb,by (clear z0 h2 hB2 Ls hc hlt h1 f2 zU vA ln kj nO h0 cX m1 m0 hn c1 c0 f0 i1 nb hB hR;omega),by (clear z0 h2 hB2 Ls hc h1 f2 zU vA ln kj nO h0 cX m1 m0 hn c1 c0 f0 i1 i0 nb hB hR;omega),f0,vA,by (clear z0 h2 hB2 Ls hc hlt h1 f2 zU vA ln kj nO h0 cX m1 m0 hn c0 f0 i1 i0 nb hB hR;omega)⟩ (k1.trans k2)
     ·have hbig:(0:Int)<=cell - 10 ^ ((18:Int).toNat):=by
       have h2':(1000000000000000000:Int)<=cell:=by simpa using h2
       show (0:Int)<=cell - 1000000000000000000
       (clear h2 hB2 Ls hc hlt h1 f2 zU vA ln kj nO h0 cX m1 m0 hn c1 c0 f0 i1 i0 nb hB hR;omega)
      refine ⟨_,rfl,_,_,rfl,rfl,(by show UW 10 18;exact ⟨by decide,by decide,by decide⟩),_,_,rfl,rfl,_,rfl,_,_,_,_,rfl,rfl,Ls,rfl, ?_⟩;have Ue:(upd (upd (upd H r (.lst [.ref b,.int i,.int f,.int (c+1),.int t])) r (.lst [.ref b,.int (i+1),.int f,.int (c+1),.int t])) r (.lst [.ref b,.int (i+1),.int (cell - 10 ^ ((18:Int).toNat)),.int (c+1),.int t])) r=some (.lst [.ref b,.int (i+1),.int (cell - 10 ^ ((18:Int).toNat)),.int (c+1),.int t]):=au;have k3:Kp r (upd (upd H r (.lst [.ref b,.int i,.int f,.int (c+1),.int t])) r (.lst [.ref b,.int (i+1),.int f,.int (c+1),.int t])) (upd (upd (upd H r (.lst [.ref b,.int i,.int f,.int (c+1),.int t])) r (.lst [.ref b,.int (i+1),.int f,.int (c+1),.int t])) r (.lst [.ref b,.int (i+1),.int (cell - 10 ^ ((18:Int).toNat)),.int (c+1),.int t])):=Kp.set;have hB3:=k3 _ _ hB2 nb;refine ⟨_,rfl,_,_,_,_,rfl,rfl,aZ.of Ue,rfl,_,rfl,_,_,rfl,rfl,m0, ?_⟩;refine ⟨_,rfl,_,_,_,_,rfl,rfl,aZ.of Ue,rfl,_,rfl,_,_,rfl,rfl,⟨m0,m1⟩,_,rfl,_,_,_,_,rfl,rfl,Ue,rfl, ?_⟩;refine ⟨_,rfl, ?_⟩;refine k _ _ (YB _) (Yz _) ⟨ns,i+1,_,c+1,t,au, ?_,nb,by (clear hB3 Ue hbig h2 hB2 Ls hc hlt h1 f2 zU vA ln kj nO h0 cX m1 m0 hn c1 c0 f0 i1 nb hB hR;omega),by (clear hB3 Ue hbig h2 hB2 Ls hc h1 f2 zU vA ln kj nO h0 cX m1 m0 hn c1 c0 f0 i1 i0 nb hB hR;omega),Int.ediv_nonneg hbig (by (clear hB3 Ue hbig h2 hB2 Ls hc hlt h1 f2 zU vA ln kj nO h0 cX m1 hn c1 c0 f0 i1 i0 nb hB hR;omega)),vA,by (clear hB3 Ue hbig h2 hB2 Ls hc hlt h1 f2 zU vA ln kj nO h0 cX m1 m0 hn c0 f0 i1 i0 nb hB hR;omega)⟩ (((k1.trans k2).trans k3).trans Kp.set);rw [bA nb];exact hB3
   ·have Va:decide (f<2)=false:=decide_eq_false f2
    rw [Va];refine b_ ?_;refine ⟨_,rfl,_,_,_,_,rfl,rfl,aZ.of nO,rfl,_,_,rfl,rfl,_,rfl, ?_⟩;rw [Va];refine b_ ?_;refine ⟨_,rfl,_,_,_,_,rfl,rfl,aZ.of nO,rfl,_,rfl,_,_,rfl,rfl,m0, ?_⟩;refine ⟨_,rfl,_,_,_,_,rfl,rfl,aZ.of nO,rfl,_,rfl,_,_,rfl,rfl,⟨m0,m1⟩,_,rfl,_,_,_,_,rfl,rfl,nO,rfl, ?_⟩;refine ⟨_,rfl, ?_⟩;refine k _ _ (YB _) (Yz _) ⟨ns,i,_,c+1,t,au, ?_,nb,by (clear Va f2 zU vA ln kj nO h0 cX m1 m0 hn c1 c0 f0 i1 nb hB hR;omega),by (clear Va f2 zU vA ln kj nO h0 cX m1 m0 hn c1 c0 f0 i0 nb hB hR;omega),Int.ediv_nonneg f0 (by (clear Va f2 zU vA ln kj nO h0 cX m1 hn c1 c0 f0 i1 i0 nb hB hR;omega)),vA,by (clear Va f2 zU vA ln kj nO h0 cX m1 m0 hn c0 f0 i1 i0 nb hB hR;omega)⟩ (k1.trans Kp.set);rw [bA nb];exact kj
def JK (K:PySem.W.Frag):Sp:=fun vs H Q _=>∃(a:Addr) (ns:List Int),vs=[.ref a]/\aZ K H a (ns.map V.int)/\ns.length<=63 /\ ∀(r b:Addr) (H':Hp),H r=none->H b=none->dZ H' r b 0->Same H H'->Q (.ref r) H'
theorem Tq {f:Addr} {fd:FuncData} (F:jq K "_law_bag" "_law_bag" k_ f fd) (Bt:nA mg):cH P w K mg base iZ 1 f fd ["script"] (JK K):=by
 refine F.ok rR (fun vs H Q E h=> ?_) (fun cdv A outer s H vs Q E hr h=> ?_)
 ·obtain ⟨a,ns,rfl,_⟩:=h
  rfl
 ·obtain ⟨a,ns,rfl,hs,hlen,k⟩:=h
  refine ⟨_,(aB (aO (i:=1) rR.nd rfl (Or.inl rfl) ao)
   (aB (gP PassesOwn.never rfl (bM (K:=K) rfl (pv 0)) (bh (i:=2) rR.nd rfl (Or.inl rfl))
   (aC (aO (i:=1) rR.nd rfl (Or.inl rfl) (bG jC (bG dY (bG dY (bG mG (pv 1) ao) (bG jC (pv 2) ao)) ao) ao))))
   (aC (aP (dX (aj (fP (dJ (K:=K) rfl) (by rfl) Bt.lG jm (aj (pv 0) aA)) (aj ao (aj ao (aj ao (aj (pv 1) aA)))))))))), ?_⟩
  refine ⟨_,rfl,a,rfl,⟨_,hs⟩,jD (K:=K) (a:=a) (xs:=ns.map V.int) (fun i σ H2=>∃(t:Int) (v:Option V),σ=[some (.ref a),some (.int t),v]/\H2=H)
   ⟨1,none,rfl,rfl⟩ (fun i σ H2 _ ⟨_,_,_,e⟩=>by rw [e];exact hs) ?_ ?_⟩
  ·rintro i y σ H2 hi ⟨t,v,rfl,rfl⟩
   obtain ⟨z,rfl⟩:∃z,y=V.int z:=by
    rw [List.getElem?_map] at hi;cases e:ns[i]? with
    | none=>rw [e] at hi;cases hi
    | some z=>rw [e] at hi;exact ⟨z,(Option.some.inj hi).symm⟩
   refine ⟨_,rfl,_,_,rfl,rfl,.inr ⟨by decide,by decide⟩,_,rfl,_,_,rfl,rfl,(by show (0:Int)<2305843009213693951;decide),_,_,rfl,rfl,_,_,rfl,rfl,_,_,rfl,rfl,(by show (0:Int)<2305843009213693951;decide), ?_⟩;exact ⟨_,_,rfl,rfl⟩
  ·rintro σ H2 ⟨t,v,rfl,rfl⟩
   refine ⟨_,rfl,a,_,rfl,.inl hs,fun b hb=> ?_⟩;refine ⟨_,rfl,(by show 5<=sizeLine;decide),fun r hr'=> ?_⟩;have sm:=aD (o:=HO.lst (ns.map V.int)) hb;exact k r b _ (sm.free hr') hb ⟨ns,0,0,0,t,au,aD hr' _ _ au,aL au hr',by decide,by (clear hr' hb hlen;omega),by decide,by decide,by decide⟩ (sm.trans (aD hr'))
section
variable {D r b:Addr} {te:TE} {Q:VK} {rest:St} {H1:Hp} {n bn:Nat}
end
abbrev d7:=Int×Str×Int
def tD (x:d7):PyData:= .tuple [.int x.1,.str x.2.1,.int x.2.2]
theorem Lp (x:d7):Ni (tD x)=true:=rfl
theorem Qc {H:Hp} {t:Addr} {x:d7} (h:H t=some (.tup [.int x.1,.str x.2.1,.int x.2.2])):Dat H (.ref t) (tD x):=by
 simp only [tD,Dat];exact ⟨t,_,rfl,h,by simp only [aF,Dat,and_self]⟩
theorem Az {H:Hp} {v:V} {d:PyData} (h:Dat H v d):aF H [v] [d]:=by
 simp only [aF,and_true];exact h
def mV (H:Hp) (a:Addr) (ws:List d7):Prop:=∃vs,H a=some (.lst vs)/\aF H vs (ws.map tD)
theorem mV.same {H H':Hp} {a:Addr} {ws:List d7} (h:mV H a ws) (k:Same H H'):mV H' a ws:=by
 obtain ⟨vs,e,d⟩:=h;exact ⟨vs,k _ _ e,aF.keep k.tups _ (bx _ Lp ws) d⟩
theorem jM {H:Hp} {v:V} {x:d7} (h:Dat H v (tD x)):∃t,v = .ref t/\H t=some (.tup [.int x.1,.str x.2.1,.int x.2.2]):=by
 simp only [tD,Dat] at h;obtain ⟨t,vs,e,q,d⟩:=h
 match vs,d with
 | [a,b,c],d=>
   simp only [aF,Dat,and_true] at d;obtain ⟨rfl,rfl,rfl⟩:=d;exact ⟨t,e,q⟩
 | [],d=>simp only [aF] at d
 | [_],d=>simp only [aF,and_false] at d
 | [_,_],d=>simp only [aF,and_false] at d
 | _::_::_::_::_,d=>simp only [aF,and_false] at d
theorem Ef {H:Hp} {a:Addr} {ws:List d7} {i:Nat} {x:d7} (h:mV H a ws) (e:ws[i]? = some x):∃vs t,H a=some (.lst vs)/\vs[i]? = some (.ref t)/\H t=some (.tup [.int x.1,.str x.2.1,.int x.2.2]):=by
 obtain ⟨vs,ha,d⟩:=h;obtain ⟨v,ev,dv⟩:=d.getD (i:=i) (d:=tD x) (by rw [List.getElem?_map,e];rfl);obtain ⟨t,rfl,ht⟩:=jM dv;exact ⟨vs,t,ha,ev,ht⟩
theorem Qq {α:Type} {xs:List α} {n:Int} (h0:0<=n) (h1:n<xs.length):∃v,Bp xs n=some v/\xs[n.toNat]? = some v:=by
 obtain ⟨m,rfl⟩:=Int.eq_ofNat_of_zero_le h0;have:m<xs.length:=by (clear h0;omega)
 exact ⟨xs[m],dR (by simp [this]),by simp [this]⟩
def Yb (k:Str):Prop:=k = "load" \/ k = "store" \/ k = "swap"
theorem TY {H:Hp} {p1 p2 p3:Addr} (h1:H p1=some (.lst [.str "load",.str "store",.str "swap"])) (h2:H p2=some (.lst [.str "load",.str "load",.str "swap",.str "load"])) (h3:H p3=some (.lst [.str "store",.str "swap",.str "load",.str "store"])) (n:Int) (n0:0<=n) (n1:n<3):
 ∃(q:Addr) (ks:List Str),Bp [V.ref p1,V.ref p2,V.ref p3] n=some (V.ref q)/\H q=some (.lst (ks.map V.str))/\3<=ks.length/\ks.length<=4/\(∀k∈ks,Yb k)/\(q=p1\/q=p2\/q=p3):=by
 have:n=0\/n=1\/n=2:=by (clear h3 h2 h1;omega)
 rcases this with rfl|rfl|rfl
 ·refine ⟨p1,["load","store","swap"],rfl,h1,by decide,by decide,fun k hk=> ?_,.inl rfl⟩
  simp only [List.mem_cons,List.not_mem_nil,or_false] at hk;exact hk
 ·refine ⟨p2,["load","load","swap","load"],rfl,h2,by decide,by decide,fun k hk=> ?_,.inr (.inl rfl)⟩
  simp only [List.mem_cons,List.not_mem_nil,or_false] at hk;rcases hk with h|h|h|h
  ·exact .inl h
  ·exact .inl h
  ·exact .inr (.inr h)
  ·exact .inl h
 ·refine ⟨p3,["store","swap","load","store"],rfl,h3,by decide,by decide,fun k hk=> ?_,.inr (.inr rfl)⟩
  simp only [List.mem_cons,List.not_mem_nil,or_false] at hk;rcases hk with h|h|h|h
  ·exact .inr (.inl h)
  ·exact .inr (.inr h)
  ·exact .inl h
  ·exact .inr (.inl h)
def xr (hn:Int) (x:d7):Prop:=(0<=x.1/\x.1<hn)/\Yb x.2.1/\(0<=x.2.2/\x.2.2<20)
def xM (K:PySem.W.Frag):Sp:=fun vs H Q _=>∃(r b:Addr) (n:Nat) (hn cl ld ap:Int),vs=[.ref r,.int hn,.int cl,.int ld,.int ap]/\dZ H r b n/\n<549755813888/\1<=hn/\hn<=8/\1<=cl/\cl<=20/\0<=ld/\ld<3 /\
 ∀(t:Addr) (x:d7) (H':Hp),H t=none->H' t=some (.tup [.int x.1,.str x.2.1,.int x.2.2])->xr hn x->dZ H' r b (n+3)->Kp r H H'->Q (.ref t) H'
theorem Kq {f:Addr} {fd:FuncData} (F:jq K "_law_touch" "_law_touch" gJ f fd) (dH:FnAt P w K mg base 2 "_law_draw" ["bag","many"] (pY K)) (Bt:nA mg):cH P w K mg base iZ 3 f fd ["bag","hands","cells","loads","apart"] (xM K):=by
 refine F.ok m6 (fun vs H Q E h=> ?_) (fun cdv A outer s H vs Q E hr h=> ?_)
 ·obtain ⟨r,b,n,hn,cl,ld,ap,rfl,_⟩:=h
  rfl
 ·obtain ⟨r,b,n,hn,cl,ld,ap,rfl,B0,nn,hn0,hn1,Qg,cl1,Hy,Hx,k⟩:=h
  refine ⟨_,(aB (aO (i:=5) m6.nd rfl (Or.inl rfl) (aK (aM (K:=K) rfl) (dX (aj (dX (aj iw (aj iw (aj iw aA)))) (aj (dX (aj iw (aj iw (aj iw (aj iw aA))))) (aj (dX (aj iw (aj iw (aj iw (aj iw aA))))) aA)))) (pv 3) (fun _ _=>rfl)))
   (aB (aO (i:=6) m6.nd rfl (Or.inl rfl) (aN dH (hr.mono (by decide)) (by rfl) (aj (pv 0) (aj (pv 1) aA))))
   (aB (aO (i:=7) m6.nd rfl (Or.inl rfl) (aK (aM (K:=K) rfl) (pv 5) (aN dH (hr.mono (by decide)) (by rfl) (aj (pv 0) (aj (aV (aU (K:=K) rfl) (by rfl) Bt.fV dj (aj (pv 5) aA)) aA))) (fun _ _=>rfl)))
   (aC (aP (jP (aj (pv 6) (aj (pv 7) (aj (bG jC (bG dY (pv 4) (bG mG ao (aN dH (hr.mono (by decide)) (by rfl) (aj (pv 0) (aj (pv 2) aA))))) ao) aA))))))))), ?_⟩
  refine ⟨(by show 3<=sizeLine;decide),fun p1 h1=> ?_⟩;have s1:=aD (o:=HO.lst [V.str "load",V.str "store",V.str "swap"]) h1;refine ⟨(by show 4<=sizeLine;decide),fun p2 h2=> ?_⟩;have s2:=aD (o:=HO.lst [V.str "load",V.str "load",V.str "swap",V.str "load"]) h2;refine ⟨(by show 4<=sizeLine;decide),fun p3 h3=> ?_⟩;have s3:=aD (o:=HO.lst [V.str "store",V.str "swap",V.str "load",V.str "store"]) h3;refine ⟨(by show 3<=sizeLine;decide),fun p h4=> ?_⟩;have s4:=aD (o:=HO.lst [V.ref p1,V.ref p2,V.ref p3]) h4;obtain ⟨q,ks,eq,hq,Py,Px,kok,qq⟩:=TY (s4 _ _ (s3 _ _ (s2 _ _ au))) (s4 _ _ (s3 _ _ au)) (s4 _ _ au) ld Hy Hx;have Ss:=((s1.trans s2).trans s3).trans s4;have B4:=B0.keep Ss;refine ⟨_,rfl,_,_,_,_,rfl,rfl,aZ.of au,eq, ?_⟩
  have Je:q≠r:=by
   have a1:=(B0.ne h1).1;have a2:=((B0.keep s1).ne h2).1;have a3:=((B0.keep (s1.trans s2)).ne h3).1;rcases qq with rfl|rfl|rfl<;>assumption
  generalize (upd (upd (upd (upd H p1 (HO.lst [V.str "load",V.str "store",V.str "swap"])) p2 (HO.lst [V.str "load",V.str "load",V.str "swap",V.str "load"])) p3 (HO.lst [V.str "store",V.str "swap",V.str "load",V.str "store"])) p (HO.lst [V.ref p1,V.ref p2,V.ref p3]))=H4 at Ss hq B4 ⊢;refine ⟨_,rfl,_,rfl,r,b,hn,n,rfl,B4,by (clear hq Je qq Px Py eq h4 h3 h2 h1 Hx Hy cl1 Qg hn1 hn0;omega),by (clear hq Je qq Px Py eq h4 h3 h2 h1 Hx Hy cl1 Qg hn1 nn;omega),by (clear hq Je qq Px Py eq h4 h3 h2 h1 Hx Hy cl1 Qg hn0 nn;omega),fun z H5 z0 z1 B5 k5=> ?_⟩;have uo:=k5 _ _ hq Je;refine ⟨_,rfl,_,rfl,_,rfl,q,_,rfl,.inl (aZ.of uo),r,b,_,_,rfl,B5,by (clear uo z1 z0 hq Je qq Px Py eq h4 h3 h2 h1 Hx Hy cl1 Qg hn1 hn0;omega),by rw [List.length_map];(clear uo z1 z0 hq Je qq Px eq h4 h3 h2 h1 Hx Hy cl1 Qg hn1 hn0 nn;omega),by rw [List.length_map];(clear uo z1 z0 hq Je qq Py eq h4 h3 h2 h1 Hx Hy cl1 Qg hn1 hn0 nn;omega),fun y H6 y0 y1 B6 k6=> ?_⟩;rw [List.length_map] at y1;obtain ⟨v,ev,gv⟩:=Qq (xs:=ks.map V.str) y0 (by rw [List.length_map];(clear y0 uo z1 z0 hq Je qq Px Py eq h4 h3 h2 h1 Hx Hy cl1 Qg hn1 hn0 nn;omega));rw [List.getElem?_map] at gv;cases ek:ks[y.toNat]? with
  | none=>rw [ek] at gv;cases gv
  | some kd=>
    rw [ek] at gv;cases gv;refine ⟨_,_,_,_,rfl,rfl,aZ.of (k6 _ _ uo Je),ev, ?_⟩;refine ⟨_,rfl,_,rfl,_,rfl,_,rfl,_,rfl,r,b,_,_,rfl,B6,by (clear ev ek y1 y0 uo z1 z0 hq Je qq Px Py eq h4 h3 h2 h1 Hx Hy cl1 Qg hn1 hn0;omega),by (clear ev ek y1 y0 uo z1 z0 hq Je qq Px Py eq h4 h3 h2 h1 Hx Hy cl1 hn1 hn0 nn;omega),by (clear ev ek y1 y0 uo z1 z0 hq Je qq Px Py eq h4 h3 h2 h1 Hx Hy Qg hn1 hn0 nn;omega),fun u H7 u0 u1 B7 k7=>⟨_,_,rfl,rfl,.inl ⟨by decide,by decide⟩,_,_,rfl,rfl,_,_,rfl,rfl,(by show (0:Int)<20;decide), ?_⟩⟩;refine ⟨(by show 3<=sizeLine;decide),fun t ht=> ?_⟩;have st:=aD (o:=HO.tup [V.int z,V.str kd,V.int ((ap+7*u) % 20)]) ht;have kk:Kp r H H7:=(((Kp.of_same Ss).trans k5).trans k6).trans k7;exact k t (z,kd,(ap+7*u) % 20) _ (Kp.new kk ht B7.at) au ⟨⟨z0,z1⟩,kok kd (List.mem_of_getElem? ek),Int.emod_nonneg _ (by decide),Int.emod_lt_of_pos _ (by decide)⟩ (B7.keep st) (kk.trans (.of_same st))
theorem Tz (n:Int) (h0:0<=n) (h1:n<4):∃z:Int,Bp [V.int 1,V.int 2,V.int 3,V.int 20] n=some (V.int z)/\1<=z/\z<=20:=by
 have:n=0\/n=1\/n=2\/n=3:=by omega
 rcases this with rfl|rfl|rfl|rfl
 ·exact ⟨1,rfl,by decide,by decide⟩
 ·exact ⟨2,rfl,by decide,by decide⟩
 ·exact ⟨3,rfl,by decide,by decide⟩
 ·exact ⟨20,rfl,by decide,by decide⟩
def mt (x y:d7):Bool:=if x.1=y.1 then false else if x.2.2=y.2.2 then (if x.2.1 = "load" then !decide (y.2.1 = "load") else true) else false
def RX (K:PySem.W.Frag):Sp:=fun vs H Q _=>∃(a b:Addr) (x y:d7),vs=[.ref a,.ref b]/\H a=some (.tup [.int x.1,.str x.2.1,.int x.2.2])/\H b=some (.tup [.int y.1,.str y.2.1,.int y.2.2])/\Q (.bl (mt x y)) H
theorem Pg {K:PySem.W.Frag} {a b:Addr} {x y:d7} {H:Hp} {Q:VK} (ha:H a=some (.tup [.int x.1,.str x.2.1,.int x.2.2])) (hb:H b=some (.tup [.int y.1,.str y.2.1,.int y.2.2])) (k:Q (.bl (mt x y)) H) {D:Ends} (hD:D.rt=Q):
 (RB (Vm (tOr (Ek (El rEq (El (yh K) (zF 0) (tC (.int 0))) (El (yh K) (zF 1) (tC (.int 0))))) (Ek (El Yt (El (yh K) (zF 0) (tC (.int 2))) (El (yh K) (zF 1) (tC (.int 2)))))) (RD (tC (.bl false))) lH)
   (RD (Vj (El Yt (El (yh K) (zF 0) (tC (.int 1))) (tC (.str "load"))) (El Yt (El (yh K) (zF 1) (tC (.int 1))) (tC (.str "load")))))) D [some (.ref a),some (.ref b)] H:=by
 refine ⟨_,rfl,_,_,_,_,rfl,rfl,bL.of ha,rfl,_,rfl,_,_,_,_,rfl,rfl,bL.of hb,rfl,rfl,_,rfl, ?_⟩;refine iM (fun h1=> ?_) (fun h1=> ?_)
 ·have e:x.1=y.1:=by injection (of_decide_eq_true h1)
  have em:mt x y=false:=by unfold mt;rw [if_pos e]
  refine (show D.rt (.bl false) H from ?_);rw [hD,←em];exact k
 ·have e:¬x.1=y.1:=fun z=>h1 (decide_eq_true (by rw [z]))
  refine ⟨_,rfl,_,_,_,_,rfl,rfl,bL.of ha,rfl,_,rfl,_,_,_,_,rfl,rfl,bL.of hb,rfl,rfl,_,rfl, ?_⟩
  by_cases e2:x.2.2=y.2.2
  ·refine FJ (by rw [e2]) ?_
   refine ⟨_,rfl,_,_,_,_,rfl,rfl,bL.of ha,rfl,rfl,_,rfl, ?_⟩
   by_cases e3:x.2.1 = "load"
   ·refine FJ (by rw [e3]) ?_
    refine ⟨_,rfl,_,_,_,_,rfl,rfl,bL.of hb,rfl,rfl, ?_⟩
    have em:mt x y = !decide (V.str y.2.1=V.str "load"):=by
     unfold mt;rw [if_neg e,if_pos e2,if_pos e3];congr 1;rw [Bool.eq_iff_iff,decide_eq_true_iff,decide_eq_true_iff];exact ⟨fun z=>by rw [z],fun z=>by injection z⟩
    rw [←em,hD];exact k
   ·have ne:¬V.str x.2.1=V.str "load" :=fun z=>e3 (by injection z)
    rw [decide_eq_false ne];refine fX ?_;have em:mt x y=true:=by unfold mt;rw [if_neg e,if_pos e2,if_neg e3]
    rw [←em,hD];exact k
  ·have ne:¬V.int x.2.2=V.int y.2.2:=fun z=>e2 (by injection z)
   rw [decide_eq_false ne];refine fX ?_;have em:mt x y=false:=by unfold mt;rw [if_neg e,if_neg e2]
   refine (show D.rt (.bl false) H from ?_);rw [hD,←em];exact k
theorem rE {f:Addr} {fd:FuncData} (F:jq K "touches_meet" "touches_meet" bR f fd):cH P w K mg base iZ 1 f fd ["one","other"] (RX K):=by
 refine F.ok rC (fun vs H Q E h=> ?_) (fun cdv A outer s H vs Q E hr h=> ?_)
 ·obtain ⟨a,b,x,y,rfl,_⟩:=h
  rfl
 ·obtain ⟨a,b,x,y,rfl,ha,hb,k⟩:=h
  exact ⟨_,(aB (cj (PW.pt (iJ (bf mH (aK (aG (K:=K) rfl) (pv 0) ao (fun _ _=>rfl)) (aK (aG (K:=K) rfl) (pv 1) ao (fun _ _=>rfl)) (aY _)) (gO (bf o_ (aK (aG (K:=K) rfl) (pv 0) ao (fun _ _=>rfl)) (aK (aG (K:=K) rfl) (pv 1) ao (fun _ _=>rfl)) (aY _))))) (aC (aP fU)) bw)
   (aC (aP (Fl (cI o_ (aK (aG (K:=K) rfl) (pv 0) ao (fun _ _=>rfl)) iw (aY _)) (jQ (cI o_ (aK (aG (K:=K) rfl) (pv 1) ao (fun _ _=>rfl)) iw (aY _))))))),Pg (K:=K) ha hb k rfl⟩
def Yo (ws:List d7) (i j:Nat):Bool:=match ws[i]?,ws[j]? with |some x,some y=>decide (x.1=y.1)||mt x y|_,_=>false
def zc (ws:List d7) (i j:Nat):Bool:=decide (i<j)&&Yo ws i j
theorem RV {ws:List d7} {i j:Nat} (h:zc ws i j=true):i<j/\j<ws.length:=by
 unfold zc Yo at h;simp only [Bool.and_eq_true,decide_eq_true_eq] at h;refine ⟨h.1, ?_⟩
 by_cases l:j<ws.length
 ·exact l
 ·have e:ws[j]? = none:=by simp;(clear h;omega)
  rw [e] at h;cases ws[i]? <;> simp at h
theorem sH {vs:List V} {i:Nat} {v:V} (h:vs[i]? = some v):Bp vs (i:Int)=some v:=dR h
def Cp (K:PySem.W.Frag):Sp:=fun vs H Q _=>∃(a:Addr) (ws:List d7) (i j:Nat),vs=[.ref a,.int i,.int j]/\mV H a ws/\i<ws.length/\j<ws.length/\Q (.bl (zc ws i j)) H
theorem CV {f:Addr} {fd:FuncData} (F:jq K "is_step" "is_step" fH f fd) (u9:FnAt P w K mg base 1 "touches_meet" ["one","other"] (RX K)):cH P w K mg base iZ 2 f fd ["web","place","later"] (Cp K):=by
 refine F.ok Cv (fun vs H Q E h=> ?_) (fun cdv A outer s H vs Q E hr h=> ?_)
 ·obtain ⟨a,ws,i,j,rfl,_⟩:=h
  rfl
 ·obtain ⟨a,ws,i,j,rfl,W,hi,hj,k⟩:=h
  refine ⟨_,(aB (cj (bf Q0 (pv 1) (pv 2) (aY _)) (aC (aP fU)) bw)
   (aC (aP (Fl (cI mH (aK (aG (K:=K) rfl) (aK (aM (K:=K) rfl) (pv 0) (pv 1) (fun _ _=>rfl)) ao (fun _ _=>rfl)) (aK (aG (K:=K) rfl) (aK (aM (K:=K) rfl) (pv 0) (pv 2) (fun _ _=>rfl)) ao (fun _ _=>rfl)) (aY _)) (jQ (aN u9 (hr.mono (by decide)) (by rfl) (aj (aK (aM (K:=K) rfl) (pv 0) (pv 1) (fun _ _=>rfl)) (aj (aK (aM (K:=K) rfl) (pv 0) (pv 2) (fun _ _=>rfl)) aA)))))))), ?_⟩
  refine ⟨_,rfl,_,rfl,_,_,rfl,rfl,_,rfl, ?_⟩
  by_cases l:i<j
  ·rw [decide_eq_false (show ¬(j:Int)<=(i:Int) by omega)]
   refine b_ ?_;obtain ⟨x,ex⟩:∃x,ws[i]? = some x:=⟨ws[i],by simp [hi]⟩;obtain ⟨y,ey⟩:∃y,ws[j]? = some y:=⟨ws[j],by simp [hj]⟩;obtain ⟨vs,t1,ha,e1,ht1⟩:=Ef W ex;obtain ⟨vs',t2,ha',e2,HX⟩:=Ef W ey;have ev:vs=vs':=by rw [ha] at ha';injection ha' with q;injection q
   subst ev;have es:zc ws i j=(decide (x.1=y.1)||mt x y):=by unfold zc Yo;rw [ex,ey,decide_eq_true l,Bool.true_and]
   refine ⟨_,rfl,_,rfl,_,_,_,_,rfl,rfl,aZ.of ha,sH e1,_,_,_,_,rfl,rfl,bL.of ht1,rfl,_,rfl,_,rfl,_,_,_,_,rfl,rfl,aZ.of ha,sH e2,_,_,_,_,rfl,rfl,bL.of HX,rfl,rfl,_,rfl, ?_⟩
   by_cases q:x.1=y.1
   ·rw [show decide (V.int x.1=V.int y.1)=true by simp [q]]
    refine fX ?_;rw [decide_eq_true q,Bool.true_or] at es;rw [←es];exact k
   ·rw [show decide (V.int x.1=V.int y.1)=false by simp [q]]
    refine b_ ?_;rw [decide_eq_false q,Bool.false_or] at es;exact ⟨_,rfl,_,rfl,_,_,_,_,rfl,rfl,aZ.of ha,sH e1,_,rfl,_,rfl,_,_,_,_,rfl,rfl,aZ.of ha,sH e2,t1,t2,x,y,rfl,ht1,HX,by rw [←es];exact k⟩
  ·rw [decide_eq_true (show (j:Int)<=(i:Int) by omega)]
   refine fX ?_;have es:zc ws i j=false:=by unfold zc;rw [decide_eq_false l,Bool.false_and]
   rw [←es];exact k
inductive BP (ws:List d7) (j:Nat):Nat->Prop
 | one {i:Nat} (h:zc ws i j=true):BP ws j i
 | more {i k:Nat} (h:zc ws i k=true) (r:BP ws j k):BP ws j i
abbrev Nt:=Int×Int×Int×Int
def nD (x:Nt):PyData:= .tuple [.int x.1,.int x.2.1,.int x.2.2.1,.int x.2.2.2]
def nV (x:Nt):List V:=[.int x.1,.int x.2.1,.int x.2.2.1,.int x.2.2.2]
theorem dI (x:Nt):Ni (nD x)=true:=rfl
theorem W3 {H:Hp} {v:V} {d:PyData} (h:Dat H v d):aF H [v] [d]:=by
 simp only [aF,and_true];exact h
theorem oA {H:Hp} {t:Addr} {x:Nt} (h:H t=some (.tup (nV x))):Dat H (.ref t) (nD x):=by
 simp only [nD,Dat];exact ⟨t,_,rfl,h,by simp only [nV,aF,Dat,and_self]⟩
theorem jE {H:Hp} {v:V} {x:Nt} (h:Dat H v (nD x)):∃t,v = .ref t/\H t=some (.tup (nV x)):=by
 simp only [nD,Dat] at h;obtain ⟨t,vs,e,q,d⟩:=h
 match vs,d with
 | [a,b,c,z],d=>
   simp only [aF,Dat,and_true] at d;obtain ⟨rfl,rfl,rfl,rfl⟩:=d;exact ⟨t,e,q⟩
 | [],d=>simp only [aF] at d
 | [_],d=>simp only [aF,and_false] at d
 | [_,_],d=>simp only [aF,and_false] at d
 | [_,_,_],d=>simp only [aF,and_false] at d
 | _::_::_::_::_::_,d=>simp only [aF,and_false] at d
def cJ (H:Hp) (a:Addr) (ns:List Nt):Prop:=∃vs,H a=some (.lst vs)/\aF H vs (ns.map nD)
theorem cJ.kp {H H':Hp} {a r:Addr} {ns:List Nt} (h:cJ H a ns) (hr:∀a xs,H a=some (HO.tup xs)->H' a=some (HO.tup xs)) (k:Kp r H H') (n:a≠r):cJ H' a ns:=by
 obtain ⟨vs,e,d⟩:=h;exact ⟨vs,k _ _ e n,aF.keep hr _ (bx _ dI ns) d⟩
theorem cJ.same {H H':Hp} {a:Addr} {ns:List Nt} (h:cJ H a ns) (k:Same H H'):cJ H' a ns:=by
 obtain ⟨vs,e,d⟩:=h;exact ⟨vs,k _ _ e,aF.keep k.tups _ (bx _ dI ns) d⟩
theorem eV {H:Hp} {vs:List V} {ns:List Nt} {i:Nat} {v:V} (d:aF H vs (ns.map nD)) (e:vs[i]? = some v):∃x t,ns[i]? = some x/\v = .ref t/\H t=some (.tup (nV x)):=by
 obtain ⟨q,eq,dq⟩:=d.get e;rw [List.getElem?_map] at eq;cases ex:ns[i]? with
 | none=>rw [ex] at eq;cases eq
 | some x=>
   rw [ex] at eq;cases eq;obtain ⟨t,rfl,ht⟩:=jE dq;exact ⟨x,t,rfl,rfl,ht⟩
def gI (cs:List Int) (h:Int):Int:=(cs[h.toNat]?).getD 0
theorem jU {cs:List Int} {h:Int} (h0:0<=h) (h1:h<cs.length):Bp (cs.map V.int) h=some (.int (gI cs h)):=by
 obtain ⟨m,rfl⟩:=Int.eq_ofNat_of_zero_le h0;have:m<cs.length:=by (clear h0;omega)
 refine dR ?_;simp [gI,this]
theorem mO {cs:List Int} {i:Nat} {c:Int} (h:cs[i]? = some c):gI cs i=c:=by simp [gI,h]
theorem pF {n:Nat} {i:Int} (h0:0<=i) (h1:i<n):PB n i=some i.toNat:=by unfold PB;rw [if_pos h0,if_pos h1]
theorem mL {cs:List Int} {h k v:Int} (h0:0<=h) (h1:h<cs.length) (k0:0<=k):gI (cs.set h.toNat v) k=if k=h then v else gI cs k:=by
 unfold gI;rw [List.getElem?_set]
 by_cases e:k=h
 ·subst e
  have:k.toNat<cs.length:=by (clear h0;omega)
  simp [this]
 ·have:¬h.toNat=k.toNat:=by (clear h1;omega)
  simp [e,this]
def Qx (cs:List Int) (x:Nt):Prop:=(0<=x.1/\x.1<cs.length)/\(0<=x.2.1/\x.2.1<gI cs x.1)/\(0<=x.2.2.1/\x.2.2.1<cs.length)/\(0<=x.2.2.2/\x.2.2.2<gI cs x.2.2.1)/\x.1≠x.2.2.1
def Ed (cs:List Int):Prop:=cs.length<=8 /\ ∀c∈cs,0<=c/\c<=300
theorem Ed.gI {cs:List Int} (h:Ed cs) (i:Int):0<=gI cs i/\gI cs i<=300:=by
 unfold Prf.gI;cases e:cs[i.toNat]? with
 | none=>simp
 | some c=>exact h.2 c (List.mem_of_getElem? e)
abbrev IV:=Int×Int
def pD (x:IV):PyData:= .tuple [.int x.1,.int x.2]
theorem qz (x:IV):Ni (pD x)=true:=rfl
theorem Gd {H:Hp} {t:Addr} {x:IV} (h:H t=some (.tup [.int x.1,.int x.2])):Dat H (.ref t) (pD x):=by
 simp only [pD,Dat];exact ⟨t,_,rfl,h,by simp only [aF,Dat,and_self]⟩
theorem qY {H:Hp} {v:V} {x:IV} (h:Dat H v (pD x)):∃t,v = .ref t/\H t=some (.tup [.int x.1,.int x.2]):=by
 simp only [pD,Dat] at h;obtain ⟨t,vs,e,q,d⟩:=h
 match vs,d with
 | [a,b],d=>
   simp only [aF,Dat,and_true] at d;obtain ⟨rfl,rfl⟩:=d;exact ⟨t,e,q⟩
 | [],d=>simp only [aF] at d
 | [_],d=>simp only [aF,and_false] at d
 | _::_::_::_,d=>simp only [aF,and_false] at d
def iU (H:Hp) (a:Addr) (ps:List IV):Prop:=∃vs,H a=some (.lst vs)/\aF H vs (ps.map pD)
theorem iU.same {H H':Hp} {a:Addr} {ws:List IV} (h:iU H a ws) (k:Same H H'):iU H' a ws:=by
 obtain ⟨vs,e,d⟩:=h;exact ⟨vs,k _ _ e,aF.keep k.tups _ (bx _ qz ws) d⟩
theorem iU.kp {H H':Hp} {a r:Addr} {ws:List IV} {ys:List V} (h:iU H a ws) (hr:H r=some (.lst ys)) (k:Kp r H H') (n:a≠r):iU H' a ws:=by
 obtain ⟨vs,e,d⟩:=h;exact ⟨vs,k _ _ e n,aF.keep (k.tups hr) _ (bx _ qz ws) d⟩
theorem Og {H:Hp} {vs:List V} {ps:List IV} {i:Nat} {v:V} (d:aF H vs (ps.map pD)) (e:vs[i]? = some v):∃x t,ps[i]? = some x/\v = .ref t/\H t=some (.tup [.int x.1,.int x.2]):=by
 obtain ⟨q,eq,dq⟩:=d.get e;rw [List.getElem?_map] at eq;cases ex:ps[i]? with
 | none=>rw [ex] at eq;cases eq
 | some x=>
   rw [ex] at eq;cases eq;obtain ⟨t,rfl,ht⟩:=qY dq;exact ⟨x,t,rfl,rfl,ht⟩
def cnt (ws:List d7) (h:Int):Int:=((ws.filter fun x=>decide (x.1=h)).length:Int)
theorem pP (ws:List d7) (x:d7) (h:Int):cnt (ws++[x]) h=if h=x.1 then cnt ws h+1 else cnt ws h:=by
 unfold cnt;rw [List.filter_append,List.length_append]
 by_cases e:h=x.1
 ·subst e;simp
 ·rw [if_neg e]
  have:¬x.1=h:=fun z=>e z.symm;simp [this]
def hnd (ws:List d7) (i:Nat):Int:=match ws[i]? with |some x=>x.1|none=>0
theorem Dn {ws:List d7} {i:Nat} {x:d7} (h:ws[i]? = some x):hnd ws i=x.1:=by unfold hnd;rw [h]
def nm (ws:List d7):List IV:=(List.range ws.length).map fun i=>(hnd ws i,cnt (ws.take i) (hnd ws i))
theorem O9 (ws:List d7) (x:d7):nm (ws++[x])=nm ws++[(x.1,cnt ws x.1)]:=by
 unfold nm;rw [List.length_append,List.length_singleton,List.range_succ,List.map_append];congr 1
 ·refine List.map_congr_left fun i hi=> ?_
  have hi':i<ws.length:=by simpa using hi
  unfold hnd;rw [List.getElem?_append_left hi',List.take_append_of_le_length (by omega)]
 ·simp [hnd]
theorem wC (ws:List d7):(nm ws).length=ws.length:=by unfold nm;simp
def xQ (K:PySem.W.Frag):Sp:=fun vs H Q _=>∃(a:Addr) (ws:List d7),vs=[.ref a]/\mV H a ws/\ws.length<=1000 /\ ∀(r:Addr) (H':Hp),H r=none->iU H' r (nm ws)->Same H H'->Q (.ref r) H'
theorem Kw {f:Addr} {fd:FuncData} (F:jq K "names" "names" jd f fd):cH P w K mg base iZ 1 f fd ["web"] (xQ K):=by
 refine F.ok lZ (fun vs H Q E h=> ?_) (fun cdv A outer s H vs Q E hr h=> ?_)
 ·obtain ⟨a,ws,rfl,_⟩:=h
  rfl
 ·obtain ⟨a,ws,rfl,W,hlen,k⟩:=h
  have hu:=lM hr
  refine ⟨_,(aB (aO (i:=1) lZ.nd rfl (Or.inl rfl) o7)
   (aB (aO (i:=2) lZ.nd rfl (Or.inl rfl) (dX aA))
   (aB (gP PassesOwn.never rfl (bM (K:=K) rfl (pv 0)) (bh (i:=3) lZ.nd rfl (Or.inl rfl))
   (aB (aO (i:=4) lZ.nd rfl (Or.inl rfl) (mF hu (pv 1) (aK (aG (K:=K) rfl) (pv 3) ao (fun _ _=>rfl)) ao ⟨rfl,rfl,rfl,rfl⟩))
   (aB (cg (jB (K:=K) rfl (pv 2) (aj (jP (aj (aK (aG (K:=K) rfl) (pv 3) ao (fun _ _=>rfl)) (aj (pv 4) aA))) aA)))
   (aC (oZ hu (pv 1) (aK (aG (K:=K) rfl) (pv 3) ao (fun _ _=>rfl)) (bG dY (pv 4) ao) rfl)))))
   (aC (aP (pv 2)))))), ?_⟩
  obtain ⟨vs,ha,dv⟩:=id W;have Jr:vs.length=ws.length:=by rw [dv.length,List.length_map]
  intro d hd;have R_:=aD (o:=HO.dK []) hd;refine ⟨(by show 0<=sizeLine;decide),fun p hp=> ?_⟩;have R9:=aD (o:=HO.lst []) hp;have Tv:d≠p:=aL au hp;have hp0:H p=none:=R_.free hp
  refine ⟨_,rfl,a,rfl,⟨_,aZ.of (R9 _ _ (R_ _ _ ha))⟩,jD (K:=K) (a:=a) (xs:=vs) (fun i σ H2=>∃(kvs:List (Key×V)) (x1 x2:Option V),σ=[some (.ref a),some (.ref d),some (.ref p),x1,x2]/\Same H H2 /\
   H2 d=some (.dK kvs)/\kvs.length<=i/\(∀h:Int,(cD kvs (Sum.inl h)).getD (.int 0) = .int (cnt (ws.take i) h))/\iU H2 p (nm (ws.take i)))
   ⟨[],none,none,rfl,R_.trans R9,R9 _ _ au,Nat.zero_le _,fun h=>rfl,⟨[],au,by simp only [List.take_zero,nm,List.length_nil,List.range_zero,List.map_nil,aF]⟩⟩ (fun i σ H2 _ ⟨_,_,_,_,sm,_⟩=>aZ.of (sm _ _ ha)) ?_ ?_⟩
  ·rintro i y σ H2 hi ⟨kvs,x1,x2,rfl,sm,hd2,kl,hval,PA⟩
   have hil:i<ws.length:=by have:=(List.getElem?_eq_some_iff.mp hi).1;(clear kl hd2 hi hp0 Tv hp hd ha hu hlen;omega)
   obtain ⟨x,ex⟩:∃x,ws[i]? = some x:=⟨ws[i],by simp [hil]⟩;obtain ⟨dd,ed,dy⟩:=dv.get hi;rw [List.getElem?_map,ex] at ed;cases ed;obtain ⟨t,rfl,ht⟩:=jM dy;have HX:H2 t=some (.tup [.int x.1,.str x.2.1,.int x.2.2]):=sm.tups _ _ ht;have tk:ws.take (i+1)=ws.take i++[x]:=by rw [List.take_add_one,ex];rfl
   have Nu:(ws.take i).length=i:=by rw [List.length_take];(clear tk HX hi ht ex kl hd2 hp0 Tv hp hd Jr ha hu hlen;omega)
   refine ⟨_,rfl,d,rfl,.inl ⟨_,.inl hd2⟩,_,rfl,_,_,_,_,rfl,rfl,bL.of HX,rfl,_,h_.k (k:=Sum.inl x.1) hd2, ?_⟩;rw [hval x.1];obtain ⟨ts,hts,W0⟩:=id PA;refine ⟨_,rfl,.inl ⟨rfl,_,aZ.of hts⟩,_,rfl,_,_,_,_,rfl,rfl,bL.of HX,rfl,_,rfl,(by show 2<=sizeLine;decide),fun q hq=> ?_⟩;have sm3:=aD (o:=HO.tup [V.int x.1,V.int (cnt (ws.take i) x.1)]) hq;have Am:=sm3 _ _ hts;have Ej:ts.length=i:=by rw [W0.length,List.length_map,wC,Nu]
   refine ⟨p,ts,_,rfl,rfl,Am,(by rw [Ej,sizeLine_eq];(clear Ej Am hq hts Nu tk HX hi ht ex kl hd2 hp0 Tv hp hd Jr ha hu;omega)), ?_⟩;have Hz:Kp p (upd H2 q (HO.tup [V.int x.1,V.int (cnt (ws.take i) x.1)])) (upd (upd H2 q (HO.tup [V.int x.1,V.int (cnt (ws.take i) x.1)])) p (HO.lst (ts++[V.ref q]))):=Kp.set;have PK:=Hz _ _ (sm3 _ _ hd2) Tv;refine ⟨_,rfl,_,_,rfl,rfl,_,rfl,_,rfl,_,_,_,_,rfl,rfl,bL.of (Hz.tups Am _ _ (sm3.tups _ _ HX)),rfl,d,_,rfl,vm.k (k:=Sum.inl x.1) PK (GF (by (clear PK Ej Am hq hts Nu tk HX hi ht ex hd2 hp0 Tv hp hd Jr ha hu;omega))), ?_⟩;refine ⟨putK kvs (Sum.inl x.1) (V.int (cnt (ws.take i) x.1+1)),_,_,rfl, ?_,au, ?_,fun h=> ?_, ?_⟩
   ·intro b o e
    have nb:b≠p:=aL e hp0;have nb2:b≠d:=aL e hd;rw [bA nb2];exact Hz b o (sm3 b o (sm b o e)) nb
   ·exact Nat.le_trans (dG ..) (by (clear PK Ej Am hq hts Nu tk HX hi ht ex hil hd2 hp0 Tv hp hd Jr ha hu hlen;omega))
   ·rw [ju,tk,pP]
    by_cases e:h=x.1
    ·subst e
     rw [if_pos rfl,if_pos rfl];rfl
    ·rw [if_neg (fun z=>e (Sum.inl.inj z)),if_neg e]
     exact hval h
   ·rw [tk,O9]
    have kd2:Kp d (upd (upd H2 q (HO.tup [V.int x.1,V.int (cnt (ws.take i) x.1)])) p (HO.lst (ts++[V.ref q]))) (upd (upd (upd H2 q (HO.tup [V.int x.1,V.int (cnt (ws.take i) x.1)])) p (HO.lst (ts++[V.ref q]))) d (HO.dK (putK kvs (Sum.inl x.1) (V.int (cnt (ws.take i) x.1+1))))):=Kp.set
    have Vf:∀a xs,(upd H2 q (HO.tup [V.int x.1,V.int (cnt (ws.take i) x.1)])) a=some (HO.tup xs)->(upd (upd (upd H2 q (HO.tup [V.int x.1,V.int (cnt (ws.take i) x.1)])) p (HO.lst (ts++[V.ref q]))) d (HO.dK (putK kvs (Sum.inl x.1) (V.int (cnt (ws.take i) x.1+1))))) a=some (HO.tup xs):=fun a xs hx=>
     kd2.tups' PK _ _ (Hz.tups Am _ _ hx)
    refine ⟨_,kd2 _ _ au Tv.symm, ?_⟩;rw [List.map_append];refine aF.append (aF.keep (fun a xs hx=>Vf a xs (sm3.tups _ _ hx)) _ (bx _ qz _) W0) (Az (Gd (x:=(x.1,cnt (ws.take i) x.1)) ?_));exact kd2 _ _ (Hz _ _ au (iK au Am (by intro z;cases z))) (iK (Hz _ _ au (iK au Am (by intro z;cases z))) PK (by intro z;cases z))
  ·rintro σ H2 ⟨kvs,x1,x2,rfl,sm,hd2,kl,hval,PA⟩
   rw [Jr,List.take_length] at PA;exact ⟨_,rfl,k p H2 hp0 PA sm⟩
theorem JW {ws:List d7} {j m:Nat} (r:BP ws j m):∃i,zc ws i j=true/\(m=i\/BP ws i m):=by
 induction r with
 | one h=>exact ⟨_,h,.inl rfl⟩
 | more h _ ih=>
   obtain ⟨i,st,q⟩:=ih;refine ⟨i,st,.inr ?_⟩;rcases q with rfl|q
   ·exact .one h
   ·exact .more h q
theorem JV {ws:List d7} {i j m:Nat} (st:zc ws i j=true) (r:BP ws i m):BP ws j m:=by
 induction r with
 | one h=>exact .more h (.one st)
 | more h _ ih=>exact .more h ih
theorem uN (ws:List d7) (h:Int) (i:Nat):∀d:Nat,cnt (ws.take i) h<=cnt (ws.take (i+d)) h
 | 0=>Int.le_refl _
 | d+1=>by
   have ih:=uN ws h i d;have e:ws.take (i+(d+1))=ws.take (i+d)++(ws[i+d]?).toList:=by rw [←Nat.add_assoc,List.take_add_one]
   rw [e];cases ws[i+d]? with
   | none=>simpa using ih
   | some x=>
     show _<=cnt (ws.take (i+d)++[x]) h;rw [pP];split<;>(clear e;omega)
theorem uM (ws:List d7) (h:Int):0<=cnt ws h:=by unfold cnt;omega
theorem yu {ws:List d7} {i:Nat} {x:d7} (e:ws[i]? = some x):(nm ws)[i]? = some (x.1,cnt (ws.take i) x.1):=by
 have:i<ws.length:=(List.getElem?_eq_some_iff.mp e).1;unfold nm;rw [List.getElem?_map,List.getElem?_range this];simp only [Option.map_some,Dn e]
theorem yj {H:Hp} {a:Addr} {ps:List IV} {i:Nat} {x:IV} (h:iU H a ps) (e:ps[i]? = some x):∃vs t,H a=some (.lst vs)/\vs[i]? = some (.ref t)/\H t=some (.tup [.int x.1,.int x.2]):=by
 obtain ⟨vs,ha,d⟩:=h;obtain ⟨v,ev,dv⟩:=d.getD (i:=i) (d:=pD x) (by rw [List.getElem?_map,e];rfl);obtain ⟨t,rfl,ht⟩:=qY dv;exact ⟨vs,t,ha,ev,ht⟩
def mx (a b:Int):Int:=if b>a then b else a
theorem Q8 {c a b:Int}:c<mx a b↔c<a\/c<b:=by unfold mx;split<;>omega
theorem V9 {a b:Int} (h:0<=a):0<=mx a b:=by unfold mx;split<;>omega
def xV (K:PySem.W.Frag):Sp:=fun vs H Q _=>∃(t d:Addr) (h k:Int) (g:Int->Int),vs=[.ref t,.ref d]/\H t=some (.tup [.int h,.int k])/\iY H d g/\Q (.bl (decide (k<g h))) H
theorem KD {f:Addr} {fd:FuncData} (F:jq K "is_known" "is_known" eE f fd):cH P w K mg base iZ 1 f fd ["name","known"] (xV K):=by
 refine F.ok zM (fun vs H Q E h=> ?_) (fun cdv A outer s H vs Q E hr h=> ?_)
 ·obtain ⟨t,d,h,k,g,rfl,_⟩:=h
  rfl
 ·obtain ⟨t,d,h,k,g,rfl,ht,kd,q⟩:=h
  have hu:=lM hr;refine ⟨_,(aC (aP (cI pA (aK (aG (K:=K) rfl) (pv 0) ao (fun _ _=>rfl)) (mF hu (pv 1) (aK (aG (K:=K) rfl) (pv 0) ao (fun _ _=>rfl)) ao ⟨rfl,rfl,rfl,rfl⟩) (aY _)))), ?_⟩;obtain ⟨kvs,hd,_,val⟩:=kd.get;refine ⟨_,rfl,_,_,_,_,rfl,rfl,bL.of ht,rfl,_,rfl,d,rfl,.inl ⟨_,.inl hd⟩,_,rfl,_,_,_,_,rfl,rfl,bL.of ht,rfl,_,h_.k (k:=Sum.inl h) hd, ?_⟩;rw [val h];exact ⟨_,_,rfl,rfl,q⟩
def xT (K:PySem.W.Frag):Sp:=fun vs H Q _=>∃(d m:Addr) (g1 g2:Int->Int),vs=[.ref d,.ref m]/\iY H d g1/\iY H m g2/\d≠m /\ ∀H',iY H' d (fun h=>mx (g1 h) (g2 h))->Kp d H H'->Q .non H'
def U9 (hs:List Int) (g1 g2:Int->Int):Int->Int:=fun h=>if h∈hs then mx (g1 h) (g2 h) else g1 h
theorem Kz {f:Addr} {fd:FuncData} (F:jq K "learn" "learn" je f fd) (Bt:nA mg):cH P w K mg base iZ 1 f fd ["known","more"] (xT K):=by
 refine F.ok zJ (fun vs H Q E h=> ?_) (fun cdv A outer s H vs Q E hr h=> ?_)
 ·obtain ⟨d,m,g1,g2,rfl,_⟩:=h
  rfl
 ·obtain ⟨d,m,g1,g2,rfl,k1,k2,ne,q⟩:=h
  have hu:=lM hr
  refine ⟨_,(aC (Oe (gP PassesOwn.never rfl (Ol (pv 1)) (bh (i:=2) zJ.nd rfl (Or.inl rfl))
   (aC (oZ hu (pv 0) (pv 2) (aV (wX rfl) (by rfl) Bt.Rm Ms (aj (mF hu (pv 0) (pv 2) ao ⟨rfl,rfl,rfl,rfl⟩) (aj (jH hu (pv 1) (pv 2) (fun _ _=>rfl)) aA))) rfl))))), ?_⟩
  obtain ⟨hs,hm,nd,rg,zz⟩:=k2.ex;refine ⟨_,rfl,m,_,rfl,hm,fun o=> ?_⟩;have kf:Kp m H (upd H m (.iV o (.dK (vO hs g2)))):=Kp.set
  refine Lz (fun i σ H2=>∃v:Option V,σ=[some (.ref d),some (.ref m),v]/\iY H2 d (U9 (hs.take i) g1 g2)/\H2 m=some (.iV o (.dK (vO hs g2)))/\Kp d (upd H m (.iV o (.dK (vO hs g2)))) H2)
   ⟨none,rfl,(k1.kp kf ne).ext (fun h=>by simp [U9]),au,Kp.refl _ _⟩ (fun i σ H2 _ ⟨_,_,_,e,_⟩=>e) ?_ ?_
  ·rintro i kk v σ H2 hi ⟨x,rfl,kd,fz,kp⟩
   have hi':(vO hs g2)[i]? = some (kk,v):=hi;unfold vO at hi';rw [List.getElem?_map] at hi';cases eh:hs[i]? with
   | none=>rw [eh] at hi';cases hi'
   | some h=>
     rw [eh] at hi';cases hi';have hm':h∈hs:=List.mem_of_getElem? eh;obtain ⟨h0,h1⟩:=rg h hm';have tk:hs.take (i+1)=hs.take i++[h]:=by rw [List.take_add_one,eh];rfl
     have nin:h∉hs.take i:=by
      intro z;have:(hs.take i++[h]).Nodup:=by rw [←tk];exact nd.sublist (List.take_sublist _ _)
      rw [List.nodup_append] at this;exact this.2.2 h z h (by simp) rfl
     obtain ⟨kvs,hd2,_,val⟩:=kd.get;have gi:U9 (hs.take i) g1 g2 h=g1 h:=by unfold U9;rw [if_neg nin]
     refine ⟨_,rfl,d,rfl,.inl ⟨_,.inl hd2⟩,_,rfl,_,h_.k (k:=Sum.inl h) hd2, ?_⟩;rw [val h,gi];have gm:h_ H2 m (kV (Sum.inl h)) (some (V.int (g2 h))):= .inl ⟨_,Sum.inl h,.inr ⟨o,fz⟩,rfl,by rw [yD,if_pos hm']⟩;refine ⟨_,rfl,_,rfl,m,_,rfl,gm,_,_,rfl, ?_⟩;obtain ⟨kvs',U8,hz,put⟩:=kd.put (v:=mx (g1 h) (g2 h)) h0 h1 (V9 (k1.nn h));refine ⟨_,rfl,_,rfl,d,_,rfl,vm.k (k:=Sum.inl h) U8 hz, ?_⟩;refine ⟨_,rfl,(put _ au).ext fun x=> ?_,by rw [bA ne.symm];exact fz,kp.trans Kp.set⟩;unfold Av U9;rw [tk]
     by_cases e:x=h
     ·subst e;simp
     ·simp [e]
  ·rintro σ H2 ⟨x,rfl,kd,fz,kp⟩
   refine ⟨_,⟨m,_,o,_,hm,fz,rfl⟩, ?_⟩;have kt:Kp m H2 (upd H2 m (.dK (vO hs g2))):=Kp.set;refine q _ ((kd.kp kt ne).ext fun h=> ?_) fun b u e nb=> ?_
   ·have el:hs.take (vO hs g2).length=hs:=by rw [vO,List.length_map,List.take_length]
    rw [el];unfold U9
    by_cases hh:h∈hs
    ·rw [if_pos hh]
    ·rw [if_neg hh,zz h hh]
     have:=k1.nn h;unfold mx;rw [if_neg (by (clear hh el fz hm hu ne;omega))]
   ·by_cases eb:b=m
    ·subst eb
     rw [hm] at e;rw [au];exact e
    ·rw [bA eb]
     exact kp _ _ (by rw [bA eb];exact e) nb
def Qz (ws:List d7) (g:Int->Int) (R:Nat->Prop):Prop:=∀m x,ws[m]? = some x->(cnt (ws.take m) x.1<g x.1↔R m)
def UG (ws:List d7) (j:Nat) (g:Int->Int):Prop:=Qz ws g (fun m=>m=j\/BP ws j m) /\ ∀h,g h<=cnt (ws.take (j+1)) h
def M9 (ws:List d7) (j lo m:Nat):Prop:=∃x,lo<=x/\zc ws x j=true/\(m=x\/BP ws x m)
def Bare (ws:List d7) (j e:Nat):Prop:=zc ws e j=true /\ ¬M9 ws j (e+1) e
noncomputable instance (ws:List d7) (j e:Nat):Decidable (Bare ws j e):=Classical.propDecidable _
theorem G4 {ws:List d7} {a b c:Nat} (h:BP ws b a) (g:BP ws c b):BP ws c a:=by
 induction h with
 | one h=>exact .more h g
 | more h _ ih=>exact .more h ih
theorem Qz.iff {ws:List d7} {g:Int->Int} {R S:Nat->Prop} (h:Qz ws g R) (e:∀m,R m↔S m):Qz ws g S:=fun m x ex=>(h m x ex).trans (e m)
theorem Mi {ws:List d7} {j e m:Nat} (h:¬zc ws e j=true):M9 ws j (e+1) m↔M9 ws j e m:=by
 constructor
 ·rintro ⟨x,a,b,c⟩
  exact ⟨x,by omega,b,c⟩
 ·rintro ⟨x,a,b,c⟩
  have:x≠e:=fun z=>h (z▸b);exact ⟨x,by omega,b,c⟩
theorem Im {ws:List d7} {j e m:Nat} (k:M9 ws j (e+1) e):M9 ws j (e+1) m↔M9 ws j e m:=by
 constructor
 ·rintro ⟨x,a,b,c⟩
  exact ⟨x,by omega,b,c⟩
 ·rintro ⟨x,a,b,c⟩
  by_cases z:x=e
  ·subst z
   obtain ⟨y,y1,y2,y3⟩:=k;have r:BP ws y x:=y3.resolve_left (by (clear y3 y2 a c b;omega));rcases c with c|c
   ·subst c;exact ⟨y,y1,y2,.inr r⟩
   ·exact ⟨y,y1,y2,.inr (G4 c r)⟩
  ·exact ⟨x,by omega,b,c⟩
theorem Qf {ws:List d7} {j e m:Nat} (h:zc ws e j=true):(M9 ws j (e+1) m\/(m=e\/BP ws e m))↔M9 ws j e m:=by
 constructor
 ·rintro (⟨x,a,b,c⟩|c)
  ·exact ⟨x,by omega,b,c⟩
  ·exact ⟨e,Nat.le_refl _,h,c⟩
 ·rintro ⟨x,a,b,c⟩
  by_cases z:x=e
  ·subst z;exact .inr c
  ·exact .inl ⟨x,by (clear c b h;omega),b,c⟩
theorem Pu {ws:List d7} {g g':Int->Int} {R S:Nat->Prop} (h:Qz ws g R) (h':Qz ws g' S):Qz ws (fun x=>mx (g x) (g' x)) fun m=>R m\/S m:=fun m x ex=>by
 show cnt _ _<mx _ _↔_;rw [Q8,h m x ex,h' m x ex]
theorem Qe {ws:List d7} {j m:Nat}:M9 ws j 0 m↔BP ws j m:=by
 constructor
 ·rintro ⟨x,_,b,c|c⟩
  ·subst c;exact .one b
  ·exact JV b c
 ·intro r
  obtain ⟨i,s,q⟩:=JW r;exact ⟨i,Nat.zero_le _,s,q⟩
theorem Pr {ws:List d7} {j:Nat} {y:d7} {g:Int->Int} (h:Qz ws g (BP ws j)) (bd:∀h,g h<=cnt (ws.take j) h) (ey:ws[j]? = some y):UG ws j (fun x=>mx (g x) (if x=y.1 then cnt (ws.take j) y.1+1 else 0)):=by
 have tk:ws.take (j+1)=ws.take j++[y]:=by rw [List.take_add_one,ey];rfl
 refine ⟨?_,fun h=> ?_⟩
 rotate_left
 ·have b1:=bd h
  have b2:=uM (ws.take j) h;rw [tk,pP];show mx _ _<=_;unfold mx
  by_cases e:h=y.1
  ·rw [if_pos e,if_pos e];subst e;split<;>(clear b2 tk ey;omega)
  ·rw [if_neg e,if_neg e];split<;>(clear e tk ey;omega)
 intro m x ex;show cnt _ _<mx _ _↔_;rw [Q8,h m x ex]
 by_cases e:x.1=y.1
 ·rw [if_pos e]
  constructor
  ·rintro (z|z)
   ·exact .inr z
   ·rw [e] at z
    by_cases l:m<=j
    ·by_cases em:m=j
     ·exact .inl em
     ·refine .inr (.one ?_)
      unfold zc Yo;rw [ex,ey,decide_eq_true (show m<j by (clear z e ex tk ey;omega))];simp [e]
    ·have:=uN ws y.1 (j+1) (m - (j+1))
     rw [show j+1+(m - (j+1))=m by (clear this z e ex tk ey;omega)] at this;have t:ws.take (j+1)=ws.take j++[y]:=by rw [List.take_add_one,ey];rfl
     rw [t,pP,if_pos rfl] at this;omega
  ·rintro (z|z)
   ·subst z
    rw [e];exact .inr (by (clear tk ey e ex;omega))
   ·exact .inl z
 ·rw [if_neg e]
  constructor
  ·rintro (z|z)
   ·exact .inr z
   ·have:=uM (ws.take m) x.1;(clear e ex tk ey;omega)
  ·rintro (z|z)
   ·subst z
    rw [ex] at ey;cases ey;exact absurd rfl e
   ·exact .inl z
def rB (H:Hp) (kn:Addr) (ws:List d7) (n:Nat):Prop:=∃rs:List Addr,H kn=some (.lst (rs.map V.ref))/\rs.length=n /\ ∀j r,rs[j]? = some r -> ∃g,iY H r g/\UG ws j g
theorem rB.same {H H':Hp} {kn:Addr} {ws:List d7} {n:Nat} (h:rB H kn ws n) (k:Same H H'):rB H' kn ws n:=by
 obtain ⟨rs,e,l,q⟩:=h;refine ⟨rs,k _ _ e,l,fun j r hj=> ?_⟩;obtain ⟨g,a,b⟩:=q j r hj;exact ⟨g,a.same k,b⟩
theorem rB.kp {H H':Hp} {kn r:Addr} {ys:List V} {ws:List d7} {n:Nat} (h:rB H kn ws n) (k:Kp r H H') (hr:H r=some (.lst ys)) (ne:kn≠r):rB H' kn ws n:=by
 obtain ⟨rs,e,l,q⟩:=h;refine ⟨rs,k _ _ e ne,l,fun j r' hj=> ?_⟩;obtain ⟨g,a,b⟩:=q j r' hj;obtain ⟨hs,e',_⟩:=a.ex;exact ⟨g,a.kp k (iK e' hr (by intro z;cases z)),b⟩
noncomputable def gA (ws:List d7) (j i:Nat):List Nat:=((List.range i).map fun t=>j - 1 - t).filter fun e=>decide (Bare ws j e)
theorem DW (ws:List d7) (j i:Nat):gA ws j (i+1)=gA ws j i++(if Bare ws j (j - 1 - i) then [j - 1 - i] else []):=by
 unfold gA;rw [List.range_succ,List.map_append,List.filter_append];congr 1
 by_cases h:Bare ws j (j - 1 - i)<;>simp [h]
theorem qM (ws:List d7) (j i:Nat):(gA ws j i).length<=i:=by
 unfold gA;exact Nat.le_trans (List.length_filter_le _ _) (by simp)
def lK (l:List Nat):List V:=l.map fun n:Nat=>V.int (n:Int)
def Cu (K:PySem.W.Frag):Sp:=fun vs H Q _=>∃(a nd kn:Addr) (ws:List d7) (j:Nat),vs=[.ref a,.ref nd,.ref kn,.int j]/\mV H a ws/\iU H nd (nm ws)/\rB H kn ws j/\j<ws.length/\ws.length<=300/\(∀x∈ws,0<=x.1/\x.1<8) /\
 ∀(p b d:Addr) (g:Int->Int) (H':Hp),H' p=some (.tup [.ref b,.ref d])->H' b=some (.lst (lK (gA ws j j)))->iY H' d g->UG ws j g->H b=none->H d=none->H p=none->Same H H'->Q (.ref p) H'
theorem T8 {H:Hp} {d:Addr} (h:H d=some (.dK [])):iY H d fun _=>0:=⟨⟨[],h,List.nodup_nil,fun _ z=>absurd z (by simp),fun _ _=>rfl⟩,fun _=>Int.le_refl _⟩
theorem O4 {f:Addr} {fd:FuncData} (F:jq K "bare_steps" "bare_steps" cR f fd) (I_:FnAt P w K mg base 2 "is_step" ["web","place","later"] (Cp K)) (Ec:FnAt P w K mg base 1 "is_known" ["name","known"] (xV K)) (Gk:FnAt P w K mg base 1 "learn" ["known","more"] (xT K)) (Bt:nA mg):cH P w K mg base iZ 3 f fd ["web","named","knowns","place"] (Cu K):=by
 refine F.ok iC (fun vs H Q E h=> ?_) (fun cdv A outer s H vs Q E hr h=> ?_)
 ·obtain ⟨a,nd,kn,ws,j,rfl,_⟩:=h
  rfl
 ·obtain ⟨a,nd,kn,ws,j,rfl,W,N,Kn,jl,wl,U6,k⟩:=h
  have hu:=lM hr
  refine ⟨_,(aB (aO (i:=4) iC.nd rfl (Or.inl rfl) (dX aA))
   (aB (aO (i:=5) iC.nd rfl (Or.inl rfl) o7)
   (aB (gP PassesOwn.never rfl (G_ (by rfl) Bt.iH (aj (bG CN (pv 3) ao) (aj (QX Jt ao) (aj (QX Jt ao) aA)))) (bh (i:=6) iC.nd rfl (Or.inl rfl))
   (aC (cj (PW.pt (mz (cT (aN I_ (hr.mono (by decide)) (by rfl) (aj (pv 0) (aj (pv 6) (aj (pv 3) aA))))) (jG (cW (cT (aN Ec (hr.mono (by decide)) (by rfl) (aj (aK (aM (K:=K) rfl) (pv 1) (pv 6) (fun _ _=>rfl)) (aj (pv 5) aA)))))))) (aB (cg (jB (K:=K) rfl (pv 4) (aj (pv 6) aA)))
   (aC (cg (aN Gk (hr.mono (by decide)) (by rfl) (aj (pv 5) (aj (aK (aM (K:=K) rfl) (pv 2) (pv 6) (fun _ _=>rfl)) aA)))))) bw)))
   (aB (cg (aN Gk (hr.mono (by decide)) (by rfl) (aj (pv 5) (aj (Oq (J7 (aK (aG (K:=K) rfl) (aK (aM (K:=K) rfl) (pv 1) (pv 3) (fun _ _=>rfl)) ao (fun _ _=>rfl)) (bG dY (aK (aG (K:=K) rfl) (aK (aM (K:=K) rfl) (pv 1) (pv 3) (fun _ _=>rfl)) ao (fun _ _=>rfl)) ao) Oh) rfl rfl (by simp) (by decide)) aA))))
   (aC (aP (jP (aj (pv 4) (aj (pv 5) aA))))))))), ?_⟩
  refine ⟨(by show 0<=sizeLine;decide),fun b hb=> ?_⟩;have s1:=aD (o:=HO.lst []) hb;intro d hd;have s2:=aD (o:=HO.dK []) hd;have s12:=s1.trans s2;have hd0:H d=none:=s1.free hd;have z8:b≠d:=aL au hd;refine ⟨_,rfl,_,_,rfl,rfl,_,rfl,_,rfl,(j:Int) - 1, -1,rfl,⟨by (clear z8 hd0 hd hb hu wl jl;omega),by (clear z8 hd0 hd hb hu;omega),by (clear z8 hd0 hd hb hu wl jl;omega),by (clear z8 hd0 hd hb hu wl jl;omega)⟩, ?_⟩;have en:((j:Int) - 1 - (-1)).toNat=j:=by (clear z8 hd0 hd hb hu wl jl;omega)
  rw [en]
  refine Dt (hi:=(j:Int) - 1) (n:=j) (fun i σ H2=>∃(x1:Option V) (g:Int->Int),σ=[some (.ref a),some (.ref nd),some (.ref kn),some (.int j),some (.ref b),some (.ref d),x1]/\Same H H2/\H2 b=some (.lst (lK (gA ws j i)))/\iY H2 d g/\Qz ws g (M9 ws j (j - i)) /\ ∀h,g h<=cnt (ws.take j) h)
   ⟨none,fun _=>0,rfl,s12,s2 _ _ (by rw [au];rfl),T8 au,⟨fun m x ex=>⟨fun z=> ?_,fun ⟨x,x1,x2,_⟩=> ?_⟩,fun h=>uM _ _⟩⟩ ?_ ?_
  ·have:=uM (ws.take m) x.1
   have z:cnt (ws.take m) x.1<0:=z;omega
  ·have:=(RV x2).1
   omega
  ·rintro i σ H2 hi ⟨x1,g,rfl,sm,hb2,kd,kp,bd⟩
   have ee:(j:Int) - 1 - (i:Int)=((j - 1 - i:Nat):Int):=by (clear hb2 en z8 hd0 hd hb hu wl jl;omega)
   rw [ee];have bs:=DW ws j i;have bl:=qM ws j i;generalize he:j - 1 - i=e at bs;have el:e<ws.length:=by (clear bs bl ee hb2 hi en z8 hd0 hd hb hu wl;omega)
   have e1:j - i=e+1:=by (clear el bs bl ee hb2 en z8 hd0 hd hb hu wl jl;omega)
   have e2:j - (i+1)=e:=by (clear e1 el bs bl ee hb2 hi en z8 hd0 hd hb hu wl jl;omega)
   rw [e1] at kp;rw [e2];obtain ⟨x,ex⟩:∃x,ws[e]? = some x:=⟨ws[e],by simp [el]⟩;refine ⟨_,rfl,_,rfl,_,rfl,a,ws,e,j,rfl,W.same sm,el,jl,_,rfl, ?_⟩
   by_cases st:zc ws e j=true
   ·rw [st]
    refine fX ?_;obtain ⟨ns,t,hn,en,ht⟩:=yj (N.same sm) (yu ex);refine ⟨_,rfl,_,rfl,_,_,_,_,rfl,rfl,aZ.of hn,dR en,_,rfl,t,d,_,_,g,rfl,ht,kd,_,rfl, ?_⟩;have kx:=kp e x ex
    by_cases kk:M9 ws j (e+1) e
    ·rw [decide_eq_true (kx.mpr kk)]
     refine b_ ?_;have nb:¬Bare ws j e:=fun z=>z.2 kk;rw [if_neg nb,List.append_nil] at bs;exact ⟨_,g,rfl,sm,by rw [bs];exact hb2,kd,kp.iff fun m=>Im kk,bd⟩
    ·rw [decide_eq_false (fun z=>kk (kx.mp z))]
     refine fX ?_;have nb:Bare ws j e:=⟨st,kk⟩;rw [if_pos nb] at bs;refine ⟨_,rfl,.inl ⟨rfl,_,aZ.of hb2⟩,_,rfl,b,_,_,rfl,rfl,hb2,by rw [lK,List.length_map,sizeLine_eq];(clear kk kx ht en hn st ex e2 e1 el bs he ee hb2 z8 hd0 hd hb hu;omega), ?_⟩;have k3:Kp b H2 (upd H2 b (.lst (lK (gA ws j i)++[V.int (e:Int)]))):=Kp.set;obtain ⟨rs,hk,rl,rq⟩:=id (Kn.same sm);have er:e<rs.length:=by (clear hk kk kx ht en hn st ex e2 e1 el bs bl ee hb2 z8 hd0 hd hb hu wl jl;omega)
     obtain ⟨r,err⟩:∃r,rs[e]? = some r:=⟨rs[e],by simp [er]⟩;obtain ⟨ge,kde,kne⟩:=rq e r err
     have nkb:kn≠b:=by
      obtain ⟨_,hk0,_⟩:=Kn;exact aL hk0 hb
     obtain ⟨_,hre,_⟩:=kde.ex;have nrb:r≠b:=iK hre hb2 (by intro z;cases z)
     have nrd:d≠r:=by
      obtain ⟨rs0,hk0,_,rq0⟩:=Kn
      have er0:rs=rs0:=by
       have:=(sm _ _ hk0).symm.trans hk;injection this with this
       injection this with this
       exact (List.map_inj_right (fun x y e=>by injection e)).mp this.symm
      subst er0;obtain ⟨g0,kd0,_⟩:=rq0 e r err;obtain ⟨_,h0,_⟩:=kd0.ex;exact (aL h0 hd0).symm
     have hk3:=k3 _ _ hk nkb;have kd3:=kd.kp k3 z8.symm;have adN:=kde.kp k3 nrb;refine ⟨_,rfl,_,rfl,_,rfl,_,_,_,_,rfl,rfl,aZ.of hk3,dR (by rw [List.getElem?_map,err];rfl),d,r,g,ge,rfl,kd3,adN,nrd,fun H4 kd4 k4=> ?_⟩;refine ⟨_,_,rfl,fun y u hy=>k4 _ _ (k3 _ _ (sm _ _ hy) (aL hy hb)) (aL hy hd0), ?_,kd4, ?_,fun h=> ?_⟩
     ·have:=k4 _ _ (au (H:=H2) (a:=b) (o:= .lst (lK (gA ws j i)++[V.int (e:Int)]))) z8
      rw [this,bs];unfold lK;rw [List.map_append];rfl
     ·exact (Pu kp kne.1).iff fun m=>Qf st
     ·have b1:=bd h
      have b2:=kne.2 h;have b3:=uN ws h (e+1) (j - (e+1));rw [show e+1+(j - (e+1))=j by (clear b3 b2 b1 hk3 nrd nrb hre nkb err er rl hk kk kx ht en hn st ex e2 e1 el bs bl ee hb2 z8 hd0 hd hb hu wl jl;omega)] at b3;show mx _ _<=_;unfold mx;split<;>(clear hk3 nrd nrb hre nkb err er rl hk kk kx ht en hn st ex e2 e1 el bs he bl ee hb2 hi z8 hd0 hd hb hu wl jl;omega)
   ·have st':zc ws e j=false:=by simpa using st
    rw [st'];refine b_ ?_;have nb:¬Bare ws j e:=fun z=>st z.1;rw [if_neg nb,List.append_nil] at bs;exact ⟨_,g,rfl,sm,by rw [bs];exact hb2,kd,kp.iff fun m=>Mi st,bd⟩
  ·rintro σ H2 ⟨x1,g,rfl,sm,hb2,kd,kp,bd⟩
   rw [Nat.sub_self] at kp;obtain ⟨y,ey⟩:∃y,ws[j]? = some y:=⟨ws[j],by simp [jl]⟩;obtain ⟨y0,y1⟩:=U6 y (List.mem_of_getElem? ey);obtain ⟨ns,t,hn,en,ht⟩:=yj (N.same sm) (yu ey);refine ⟨_,rfl,fun m hm=> ?_⟩;have s3:=aD (o:=HO.dK []) hm;refine ⟨_,rfl,_,rfl,_,_,_,_,rfl,rfl,aZ.of (s3 _ _ hn),dR en,_,_,_,_,rfl,rfl,bL.of (s3 _ _ ht),rfl,_,rfl,_,rfl,_,_,_,_,rfl,rfl,aZ.of (s3 _ _ hn),dR en,_,_,_,_,rfl,rfl,bL.of (s3 _ _ ht),rfl,_,_,rfl,rfl,au,[(Sum.inl y.1,V.int (cnt (ws.take j) y.1+1))],rfl,by show 1<=15;decide, ?_⟩
   have e1:upd (upd H2 m (.dK [])) m (.dK (qt [] [(Sum.inl y.1,V.int (cnt (ws.take j) y.1+1))]))=upd H2 m (.dK (vO [y.1] fun x=>if x=y.1 then cnt (ws.take j) y.1+1 else 0)):=by
    rw [Ei];congr 2;show [(Sum.inl y.1,V.int (cnt (ws.take j) y.1+1))]=_;simp [vO]
   rw [e1];have s4:Same H2 (upd H2 m (.dK (vO [y.1] fun x=>if x=y.1 then cnt (ws.take j) y.1+1 else 0))):=aD hm
   have hmd:d≠m:=by
    obtain ⟨_,h,_⟩:=kd.ex;exact aL h hm
   have kdm:iY (upd H2 m (.dK (vO [y.1] fun x=>if x=y.1 then cnt (ws.take j) y.1+1 else 0))) m (fun x=>if x=y.1 then cnt (ws.take j) y.1+1 else 0):=by
    refine ⟨⟨[y.1],au,by simp,fun h hh=> ?_,fun h hh=> ?_⟩,fun h=> ?_⟩
    ·have:h=y.1:=by simpa using hh
     subst this;exact ⟨y0,y1⟩
    ·have:h≠y.1:=by simpa using hh
     rw [if_neg this]
    ·have:=uM (ws.take j) y.1
     show (0:Int)<=if h=y.1 then _ else 0;split<;>(clear hmd e1 hm ht en hn y1 y0 ey hb2 z8 hd0 hd hb hu wl jl;omega)
   refine ⟨d,m,g,_,rfl,kd.same s4,kdm,hmd,fun H5 kd5 k5=> ?_⟩;have hb5:H5 b=some (.lst (lK (gA ws j j))):=k5 _ _ (s4 _ _ hb2) z8;refine ⟨_,rfl,_,rfl,(by show 2<=sizeLine;decide),fun p hp=> ?_⟩;have s6:=aD (o:=HO.tup [V.ref b,V.ref d]) hp;have s05:Same H H5:=fun y u hy=>k5 _ _ (s4 _ _ (sm _ _ hy)) (aL hy hd0);exact k p b d _ _ au (s6 _ _ hb5) (kd5.same s6) (Pr (kp.iff fun m=>Qe) bd ey) hb hd0 (s05.free hp) (s05.trans s6)
def nK (x:Nt):List Int:=[x.1,x.2.1,x.2.2.1,x.2.2.2]
theorem Tw (x:Nt):(nK x).map V.int=nV x:=rfl
def Qy (ns:List Nt):Prop:=ns.Pairwise fun x y=>Tim.fY (nK y) (nK x)=false
def vInt:V->Int
 | .int n=>n
 | _=>0
def tupK (H:Hp) (v:V):List Int:=match v with
 | .ref t=>match H t with
   | some (.tup xs)=>xs.map vInt
   | _=>[]
 | _=>[]
def toN:List Int->Nt
 | [a,b,c,d]=>(a,b,c,d)
 | _=>(0,0,0,0)
theorem mY {H:Hp} {t:Addr} {x:Nt} (h:H t=some (.tup (nV x))):tupK H (.ref t)=nK x:=by
 unfold tupK;dsimp only;rw [h];rfl
theorem Jy (x:Nt):toN (nK x)=x:=rfl
theorem Fp {H:Hp} {vs:List V} {ns:List Nt} (d:aF H vs (ns.map nD)) {v:V} (hv:v∈vs):∃t x,v = .ref t/\x∈ns/\H t=some (.tup (nV x)):=by
 obtain ⟨i,hi,e⟩:=List.getElem_of_mem hv;obtain ⟨x,t,ex,ev,ht⟩:=eV d (i:=i) (v:=v) (by rw [List.getElem?_eq_getElem hi,e]);exact ⟨t,x,ev,List.mem_of_getElem? ex,ht⟩
theorem Fq {H:Hp}:∀{vs:List V} {ns:List Nt},aF H vs (ns.map nD)->vs.map (fun v=>toN (tupK H v))=ns
 | [],[],_=>rfl
 | [],_::_,h=>by simp only [List.map_cons,aF] at h
 | _::_,[],h=>by simp only [List.map_nil,aF] at h
 | v::vs,n::ns,h=>by
   simp only [List.map_cons,aF] at h;obtain ⟨t,rfl,ht⟩:=jE h.1;rw [List.map_cons,Fq h.2,mY ht,Jy]
theorem KJ {H:Hp}:∀{vs:List V},(∀v∈vs,∃t x,v=V.ref t/\H t=some (.tup (nV x)))->aF H vs ((vs.map fun v=>toN (tupK H v)).map nD)
 | [],_=>by simp [aF]
 | v::vs,h=>by
   obtain ⟨t,x,rfl,ht⟩:=h v (.head _);simp only [List.map_cons,aF];exact ⟨by rw [mY ht,Jy];exact oA ht,KJ fun v hv=>h v (.tail _ hv)⟩
theorem JM {K:PySem.W.Frag} {H:Hp} {p:Addr} {ns:List Nt} {Q:VK} (N:cJ H p ns) (k:∀l ns' H',H l=none->cJ H' l ns'->ns'.Perm ns->Qy ns'->Same H H'->Q (.ref l) H'):CG K [.ref p] H Q:=by
 obtain ⟨ys,hp,d⟩:=N;refine ⟨p,ys,4,tupK H,rfl,aZ.of hp,by decide,fun y hy=> ?_,fun l zs hl pz sz=> ?_⟩
 ·obtain ⟨t,x,rfl,_,ht⟩:=Fp d hy
  exact ⟨t,rfl,by rw [mY ht,Tw];exact bL.of ht,by rw [mY ht];rfl⟩
 ·have sm:=aD (o:=HO.lst zs) hl
  have all:∀v∈zs,∃t x,v=V.ref t/\H t=some (.tup (nV x)):=fun v hv=>by
   obtain ⟨t,x,e,_,ht⟩:=Fp d (pz.mem_iff.mp hv);exact ⟨t,x,e,ht⟩
  refine k l (zs.map fun v=>toN (tupK H v)) _ hl ⟨zs,au,aF.keep sm.tups _ (bx _ dI _) (KJ all)⟩ ?_ ?_ sm
  ·rw [←Fq d]
   exact pz.map _
  ·unfold Qy
   rw [List.pairwise_map];refine List.Pairwise.imp_of_mem (fun {x y} hx hy h=> ?_) sz;obtain ⟨t,a,rfl,ht⟩:=all x hx;obtain ⟨u,b,rfl,hu⟩:=all y hy;rw [mY ht,mY hu] at h ⊢;exact h
def qp (ws:List d7) (i j:Nat):Nt:=(hnd ws i,cnt (ws.take i) (hnd ws i),hnd ws j,cnt (ws.take j) (hnd ws j))
def jk (ws:List d7) (j:Nat) (l:List Nat):List Nt:=(l.filter fun e=>decide (¬hnd ws e=hnd ws j)).map fun e=>qp ws e j
def pX (K:PySem.W.Frag):Sp:=fun vs H Q _=>∃(nd b t:Addr) (ws:List d7) (j:Nat) (l:List Nat),vs=[.ref nd,.ref b,.ref t]/\iU H nd (nm ws)/\H b=some (.lst (lK l))/\H t=some (.tup [.int (hnd ws j),.int (cnt (ws.take j) (hnd ws j))])/\(∀e∈l,e<ws.length)/\l.length<=300 /\
 ∀(r:Addr) (H':Hp),H r=none->cJ H' r (jk ws j l)->Same H H'->Q (.ref r) H'
theorem LK {α β:Type} (l:List α) (f:α->Option β):(List.range l.length).filterMap (fun i=>(l[i]?).bind f)=l.filterMap f:=by
 induction l with
 | nil=>rfl
 | cons x l ih=>
   rw [List.length_cons,List.range_succ_eq_map,List.filterMap_cons,List.filterMap_map,List.filterMap_cons];have e:List.filterMap ((fun i=>((x::l)[i]?).bind f)∘Nat.succ) (List.range l.length)=l.filterMap f:=by rw [←ih];rfl
   rw [e];rfl
theorem C_ (ws:List d7) (j:Nat) (l:List Nat):(l.filterMap fun e=>if hnd ws e=hnd ws j then none else some (nD (qp ws e j)))=(jk ws j l).map nD:=by
 unfold jk
 induction l with
 | nil=>rfl
 | cons e l ih=>
   rw [List.filterMap_cons,List.filter_cons]
   by_cases h:hnd ws e=hnd ws j
   ·rw [if_pos h]
    simp only [h,not_true_eq_false,decide_false,Bool.false_eq_true,if_false];exact ih
   ·rw [if_neg h]
    simp only [h,not_false_eq_true,decide_true,if_true,List.map_cons];rw [ih]
theorem CT {f:Addr} {fd:FuncData} (F:jq K "notes_to" "notes_to" d8 f fd):cH P w K mg base iZ 1 f fd ["named","bare","name"] (pX K):=by
 refine F.ok zH (fun vs H Q E h=> ?_) (fun cdv A outer s H vs Q E hr h=> ?_)
 ·obtain ⟨nd,b,t,ws,j,l,rfl,_⟩:=h
  rfl
 ·obtain ⟨nd,b,t,ws,j,l,rfl,N,hb,ht,el,ll,k⟩:=h
  refine ⟨_,(aC (aP (cU rfl (N:=["earlier","name","named"]) (own:=["earlier"]) (caps:=[2,0]) (aQ.of (by kernel_rfl)) (bM (K:=K) rfl (pv 1)) (fun _ _ _ _=>(bh (i:=0) (show List.Nodup (["earlier","name","named"]:List Str) by decide +kernel) rfl (Or.inl rfl))) (fun _ _ _ _=>(oY (bf o_ (aK (aG (K:=K) rfl) (aK (aM (K:=K) rfl) (pv 2) (pv 0) (fun _ _=>rfl)) ao (fun _ _=>rfl)) (aK (aG (K:=K) rfl) (pv 1) ao (fun _ _=>rfl)) (aY _)))) (fun _ _ _ _=>(bG (zV (K:=K) rfl) (aK (aM (K:=K) rfl) (pv 2) (pv 0) (fun _ _=>rfl)) (pv 1)))))), ?_⟩;have il:(lK l).length=l.length:=by rw [lK,List.length_map]
  refine ⟨_,rfl,b,rfl,⟨_,aZ.of hb⟩,fun D hD=> ?_⟩;refine wW (K:=K) (xs:=lK l) (fun i=>(l[i]?).bind fun e=>if hnd ws e=hnd ws j then none else some (nD (qp ws e j))) (fun i d h=> ?_) hD (aZ.of hb) (by (clear hD ht hb;omega)) (fun i x H2 G F hi s2 kG kF=> ?_) (fun H2 vs s2 e2 d2=> ?_)
  ·cases e:l[i]? with
   | none=>rw [e] at h;cases h
   | some z=>
     rw [e] at h;simp only [Option.bind_some] at h;split at h
     ·cases h
     ·cases h;rfl
  ·unfold lK at hi
   rw [List.getElem?_map] at hi;cases e:l[i]? with
   | none=>rw [e] at hi;cases hi
   | some z=>
     rw [e] at hi;cases hi;have zl:=el z (List.mem_of_getElem? e);obtain ⟨x,ex⟩:∃x,ws[z]? = some x:=⟨ws[z],by simp [zl]⟩;have hx:=Dn ex;obtain ⟨ns,tz,hn,en,htz⟩:=yj (N.same s2) (yu ex);rw [←hx] at htz;refine ⟨_,rfl,_,rfl,_,_,_,_,rfl,rfl,aZ.of hn,dR en,_,_,_,_,rfl,rfl,bL.of htz,rfl,_,rfl,_,_,_,_,rfl,rfl,bL.of (s2 _ _ ht),rfl,rfl,_,rfl, ?_⟩
     by_cases eh:hnd ws z=hnd ws j
     ·rw [show (!decide (V.int (hnd ws z)=V.int (hnd ws j)))=false by simp [eh]]
      refine b_ ?_;exact kG _ (Same.refl _) (by rw [e];simp [eh])
     ·rw [show (!decide (V.int (hnd ws z)=V.int (hnd ws j)))=true by simp [eh]]
      refine fX ?_;refine ⟨_,rfl,_,rfl,_,_,_,_,rfl,rfl,aZ.of hn,dR en,_,rfl,tz,t,_,_,rfl,rfl,bL.of htz,bL.of (s2 _ _ ht),by simp,by show 4<=sizeLine;decide,fun z=>absurd z (by simp),fun _ p hp=> ?_⟩;exact kF _ (nD (qp ws z j)) _ (aD hp) (by rw [e];simp [eh]) (oA (x:=qp ws z j) (by rw [au];rfl))
  ·rw [il,LK,C_] at d2
   exact k D H2 hD ⟨vs,e2,d2⟩ s2
noncomputable def qN (ws:List d7) (n:Nat):List Nt:=(List.range n).flatMap fun j=>jk ws j (gA ws j j)
theorem xg (ws:List d7) (n:Nat):qN ws (n+1)=qN ws n++jk ws n (gA ws n n):=by
 unfold qN;rw [List.range_succ,List.flatMap_append];simp
theorem qU (ws:List d7) (j:Nat) (l:List Nat):(jk ws j l).length<=l.length:=by
 unfold jk;rw [List.length_map];exact List.length_filter_le _ _
theorem uX (ws:List d7):∀n,(qN ws n).length<=n*n
 | 0=>Nat.le_refl _
 | n+1=>by
   rw [xg,List.length_append];have h1:=uX ws n;have h2:=Nat.le_trans (qU ws n (gA ws n n)) (qM ws n n);have:(n+1)*(n+1)=n*n+n+n+1:=by rw [Nat.add_mul,Nat.mul_add];(clear h2 h1;omega)
   omega
theorem MK {ws:List d7} {j i e:Nat} (h:e∈gA ws j i):e<j\/j=0:=by
 unfold gA at h;obtain ⟨h1,_⟩:=List.mem_filter.mp h;obtain ⟨t,_,rfl⟩:=List.mem_map.mp h1;omega
def xP (K:PySem.W.Frag):Sp:=fun vs H Q _=>∃(a:Addr) (ws:List d7),vs=[.ref a]/\mV H a ws/\ws.length<=300/\(∀x∈ws,0<=x.1/\x.1<8) /\
 ∀(r:Addr) (ns:List Nt) (H':Hp),H r=none->cJ H' r ns->ns.Perm (qN ws ws.length)->Qy ns->Same H H'->Q (.ref r) H'
theorem Kv {f:Addr} {fd:FuncData} (F:jq K "notes" "notes" jc f fd) (QD:FnAt P w K mg base 1 "names" ["web"] (xQ K)) (yZ:FnAt P w K mg base 3 "bare_steps" ["web","named","knowns","place"] (Cu K)) (Ea:FnAt P w K mg base 1 "notes_to" ["named","bare","name"] (pX K)) (Bt:nA mg):cH P w K mg base iZ 4 f fd ["web"] (xP K):=by
 refine F.ok jw (fun vs H Q E h=> ?_) (fun cdv A outer s H vs Q E hr h=> ?_)
 ·obtain ⟨a,ws,rfl,_⟩:=h
  rfl
 ·obtain ⟨a,ws,rfl,W,wl,U6,k⟩:=h
  refine ⟨_,(aB (aO (i:=1) jw.nd rfl (Or.inl rfl) (aN QD (hr.mono (by decide)) (by rfl) (aj (pv 0) aA)))
   (aB (aO (i:=2) jw.nd rfl (Or.inl rfl) (dX aA))
   (aB (aO (i:=3) jw.nd rfl (Or.inl rfl) (dX aA))
   (aB (gP PassesOwn.never rfl (J_ (K:=K) rfl (by rfl) Bt.Bm (aj (pv 1) aA)) (yq (K:=K) (n:=2) rfl rfl (jY (bh (i:=4) jw.nd rfl (Or.inl rfl)) (jY (bh (i:=5) jw.nd rfl (Or.inl rfl)) yp)))
   (aB (aO (i:=6) jw.nd rfl (Or.inl rfl) (aN yZ (hr.mono (by decide)) (by rfl) (aj (pv 0) (aj (pv 1) (aj (pv 2) (aj (pv 4) aA))))))
   (aB (cg (lA (K:=K) rfl PySem.F.plainAttrs_list PySem.F.slot_list_extend PySem.F.type_list_extend Ht (pv 3) (aj (aN Ea (hr.mono (by decide)) (by rfl) (aj (pv 1) (aj (aK (aG (K:=K) rfl) (pv 6) ao (fun _ _=>rfl)) (aj (pv 5) aA)))) aA)))
   (aC (cg (jB (K:=K) rfl (pv 2) (aj (aK (aG (K:=K) rfl) (pv 6) ao (fun _ _=>rfl)) aA)))))))
   (aC (aP (aV (Bd (K:=K) rfl) (by rfl) Bt.uW qK (aj (pv 3) aA)))))))), ?_⟩
  refine ⟨_,rfl,a,ws,rfl,W,by omega,fun nd H1 Dp N s1=> ?_⟩;refine ⟨(by show 0<=sizeLine;decide),fun kn hkn=> ?_⟩;have s2:=aD (o:=HO.lst []) hkn;refine ⟨(by show 0<=sizeLine;decide),fun tl htl=> ?_⟩;have s3:=aD (o:=HO.lst []) htl;have qb:=(s1.trans s2).trans s3;have Aq:H kn=none:=s1.free hkn;have Ao:H tl=none:=(s1.trans s2).free htl;have O_:kn≠tl:=aL au htl;obtain ⟨vs,hv,dv⟩:=id N;have vl:vs.length=ws.length:=by rw [dv.length,List.length_map,wC]
  have O8:nd≠kn:=aL hv hkn;have O7:nd≠tl:=aL (s2 _ _ hv) htl;refine ⟨_,rfl,nd,vs,rfl,aZ.of (s3 _ _ (s2 _ _ hv)), ?_⟩
  refine Ly (K:=K) (a:=nd) (xs:=vs) (fun j σ H3=>∃(x1 x2 x3:Option V),σ=[some (.ref a),some (.ref nd),some (.ref kn),some (.ref tl),x1,x2,x3]/\Same H H3/\H3 nd=some (.lst vs)/\iU H3 nd (nm ws)/\rB H3 kn ws j/\cJ H3 tl (qN ws j))
   ⟨none,none,none,rfl,qb,s3 _ _ (s2 _ _ hv),(N.same s2).same s3,⟨[],s3 _ _ au,rfl,fun j r hj=>by simp at hj⟩,⟨[],au,by simp [qN,aF]⟩⟩ (fun i σ H3 _ ⟨_,_,_,_,_,e,_⟩=>aZ.of e) ?_ ?_
  ·rintro j v σ H3 q hj ⟨x1,x2,x3,rfl,sm,Nj,N3,Kn,T⟩ hq
   have jl:j<ws.length:=by have:=(List.getElem?_eq_some_iff.mp hj).1;(clear hq Nj hj O7 O8 hv O_ Ao Aq htl hkn Dp wl;omega)
   obtain ⟨y,ey⟩:∃y,ws[j]? = some y:=⟨ws[j],by simp [jl]⟩;have hy:=Dn ey;obtain ⟨vs',t,hv',et,ht⟩:=yj N3 (yu ey);have ev:vs'=vs:=by rw [Nj] at hv';injection hv' with z;injection z with z;exact z.symm
   subst ev;rw [hj] at et;cases et;rw [←hy] at ht;have sq:=aD (o:=HO.tup [V.int j,V.ref t]) hq;refine ⟨q,_,rfl,bL.of au,rfl,_,_,rfl,_,_,rfl,rfl, ?_⟩;refine ⟨_,rfl,_,rfl,_,rfl,_,rfl,a,nd,kn,ws,j,rfl,W.same (sm.trans sq),N3.same sq,Kn.same sq,jl,wl,U6,fun p b d g H4 hp hb kd ko hb0 hd0 hp0 s4=> ?_⟩;have GP:=sq.trans s4;obtain ⟨ts,hts,W0⟩:=id (T.same GP)
   have el:∀e∈gA ws j j,e<ws.length:=fun e he=>by
    rcases MK he with h|h
    ·omega
    ·subst h;simp [gA] at he
   have bl:=qM ws j j;refine ⟨_,rfl,.inl ⟨rfl,_,aZ.of hts⟩,_,rfl,_,rfl,_,_,_,_,rfl,rfl,bL.of hp,rfl,_,rfl,nd,b,t,ws,j,_,rfl,N3.same GP,hb,GP _ _ ht,el,by (clear hts hp0 hd0 hb0 hb hp hj Nj vl hv ht hv' hy ey hq O7 O8 O_ Ao Aq htl hkn Dp;omega),fun r H5 hr0 NT s5=> ?_⟩;obtain ⟨Sw,hrs,drs⟩:=NT;have Yk:=uX ws j;have l1:ts.length=(qN ws j).length:=by rw [W0.length,List.length_map]
   have l2:Sw.length=(jk ws j (gA ws j j)).length:=by rw [drs.length,List.length_map]
   have l3:=qU ws j (gA ws j j);have jj:j*j<=300*300:=Nat.mul_le_mul (by (clear l3 l2 l1 Yk hrs hr0 bl hts hp0 hd0 hb0 hb hp hj Nj vl hv ht hv' hy ey hq O7 O8 O_ Ao Aq htl hkn Dp;omega)) (by (clear l3 l2 l1 Yk hrs hr0 bl hts hp0 hd0 hb0 hb hp hj Nj vl hv ht hv' hy ey hq O7 O8 O_ Ao Aq htl hkn Dp;omega));refine ⟨tl,r,_,_,rfl,rfl,s5 _ _ hts,hrs,by rw [sizeLine_eq];(clear hrs hr0 hts hp0 hd0 hb0 hb hp hj Nj vl hv ht hv' hy ey hq O7 O8 O_ Ao Aq htl hkn Dp;omega), ?_⟩;have k6:Kp tl H5 (upd H5 tl (.lst (ts++Sw))):=Kp.set;have HW:=s5 _ _ hts;have t6:=k6.tups HW;obtain ⟨rs,hk,rl,rq⟩:=id (((Kn.same GP).same s5).kp k6 HW O_);have rZ:(upd H5 tl (.lst (ts++Sw))) p=some (.tup [.ref b,.ref d]):=t6 _ _ (s5 _ _ hp);refine ⟨_,rfl,.inl ⟨rfl,_,aZ.of hk⟩,_,rfl,_,_,_,_,rfl,rfl,bL.of rZ,rfl,kn,_,_,rfl,rfl,hk,by rw [List.length_map,sizeLine_eq];(clear rZ hk HW jj l3 l2 l1 Yk hrs hr0 bl hts hp0 hd0 hb0 hb hp hj Nj vl hv ht hv' hy ey hq O7 O8 O_ Ao Aq htl hkn Dp;omega), ?_⟩;have k7:Kp kn (upd H5 tl (.lst (ts++Sw))) (upd (upd H5 tl (.lst (ts++Sw))) kn (.lst (rs.map V.ref++[V.ref d]))):=Kp.set;have t7:=k7.tups hk
   have kd6:iY (upd H5 tl (.lst (ts++Sw))) d g:=by
    obtain ⟨_,h,_⟩:=kd.ex;exact (kd.same s5).kp k6 (iK (s5 _ _ h) HW (by intro z;cases z))
   refine ⟨_,_,_,rfl,fun x u e=>k7 _ _ (k6 _ _ (s5 _ _ (GP _ _ (sm _ _ e))) (aL e Ao)) (aL e Aq), ?_, ?_, ?_, ?_⟩
   ·exact k7 _ _ (k6 _ _ (s5 _ _ (GP _ _ Nj)) O7) O8
   ·exact (((N3.same GP).same s5).kp HW k6 O7).kp hk k7 O8
   ·refine ⟨rs++[d],by rw [au,List.map_append];rfl,by simp [rl],fun m r' hm=> ?_⟩
    by_cases hml:m<rs.length
    ·rw [List.getElem?_append_left hml] at hm
     obtain ⟨g',kd',ko'⟩:=rq m r' hm;obtain ⟨_,h,_⟩:=kd'.ex;exact ⟨g',kd'.kp k7 (iK h hk (by intro z;cases z)),ko'⟩
    ·have hm2:=(List.getElem?_eq_some_iff.mp hm).1
     rw [List.length_append,List.length_singleton] at hm2;have em:m=rs.length:=by (clear hm rZ rl hk HW jj l3 l2 l1 Yk hrs hr0 bl hts hp0 hd0 hb0 hb hp hj Nj vl hv ht hv' hy ey jl hq O7 O8 O_ Ao Aq htl hkn Dp wl;omega)
     subst em;rw [List.getElem?_append_right (Nat.le_refl _)] at hm;simp at hm;subst hm;rw [rl];obtain ⟨_,h,_⟩:=kd6.ex;exact ⟨g,kd6.kp k7 (iK h hk (by intro z;cases z)),ko⟩
   ·refine ⟨ts++Sw,k7 _ _ au O_.symm, ?_⟩
    rw [xg,List.map_append];refine aF.append (aF.keep (fun a xs h=>t7 _ _ (t6 _ _ (s5.tups _ _ h))) _ (bx _ dI _) W0) (aF.keep (fun a xs h=>t7 _ _ (t6 _ _ h)) _ (bx _ dI _) drs)
  ·rintro σ H3 ⟨x1,x2,x3,rfl,sm,Nj,N3,Kn,T⟩
   rw [vl] at T;exact ⟨_,rfl,JM T fun l ns H4 hl NN pp ss s4=>k l ns H4 (sm.free hl) NN pp ss (sm.trans s4)⟩
def BK (i:Int) (n:Nat):Prop:=0<=i/\i<(n:Int)
instance (i:Int) (n:Nat):Decidable (BK i n):=inferInstanceAs (Decidable (_/\_))
def JG (K:PySem.W.Frag):Sp:=fun vs H Q _=>∃i:Int,vs=[.int i]/\Q (.bl true) H
theorem zX {f:Addr} {fd:FuncData} (F:jq K "is_whole" "is_whole" d_ f fd) (Bt:nA mg):cH P w K mg base iZ 1 f fd ["value"] (JG K):=by
 refine F.ok zL (fun vs H Q E h=> ?_) (fun cdv A outer s H vs Q E hr h=> ?_)
 ·obtain ⟨i,rfl,_⟩:=h
  rfl
 ·obtain ⟨i,rfl,k⟩:=h
  refine ⟨_,(aC (aP (nY (aV (j8 (K:=K) (cv:= .ty "int") (c:= .type "int") rfl rfl) (by rfl) Bt.gU gb (aj (pv 0) (aj (o8 (v:= .ty "int") (by rfl) Bt.Rn Mt rfl) aA))) (jQ (Kc (aV (j8 (K:=K) (cv:= .ty "bool") (c:= .type "bool") rfl rfl) (by rfl) Bt.gU gb (aj (pv 0) (aj (o8 (v:= .ty "bool") (by rfl) Bt.Ux Qk rfl) aA)))))))), ?_⟩;refine ⟨_,rfl,_,_,true,rfl,.int i,Ak K,true,rfl, ?_⟩;refine fX ?_;exact ⟨_,rfl,_,_,false,rfl,.int i,yG K,false,rfl,k⟩
def mZ (K:PySem.W.Frag):Sp:=fun vs H Q _=>∃(i:Int) (n:Nat),vs=[.int i,.int n]/\Q (.bl (decide (BK i n))) H
theorem zY {f:Addr} {fd:FuncData} (F:jq K "is_below" "is_below" eF f fd) (jF:FnAt P w K mg base 1 "is_whole" ["value"] (JG K)):cH P w K mg base iZ 2 f fd ["value","count"] (mZ K):=by
 refine F.ok zN (fun vs H Q E h=> ?_) (fun cdv A outer s H vs Q E hr h=> ?_)
 ·obtain ⟨i,n,rfl,_⟩:=h
  rfl
 ·obtain ⟨i,n,rfl,k⟩:=h
  refine ⟨_,(aC (aP (nY (aN jF (hr.mono (by decide)) (by rfl) (aj (pv 0) aA)) (jQ (Kf tW pA ao (pv 0) (pv 1)))))), ?_⟩;refine ⟨_,rfl,i,rfl,true,rfl, ?_⟩;refine fX ?_;refine ⟨_,rfl,_,_,rfl,rfl,_,rfl, ?_⟩;refine iM (fun h0=> ?_) (fun h0=> ?_)
  ·refine ⟨_,rfl,_,_,rfl,rfl, ?_⟩
   have e:decide (BK i n)=decide (i<(n:Int)):=by
    have h0:=of_decide_eq_true h0;rw [Bool.eq_iff_iff,decide_eq_true_iff,decide_eq_true_iff];exact ⟨fun z=>z.2,fun z=>⟨h0,z⟩⟩
   show Q (.bl (decide (i<(n:Int)))) H;rw [←e];exact k
  ·have e:decide (BK i n)=false:=decide_eq_false fun z=>h0 (decide_eq_true z.1)
   rw [←e];exact k
theorem mQ (x y:Nt):PyData.eqv (nD x) (nD y)=decide (x=y):=by
 obtain ⟨a,b,c,d⟩:=x;obtain ⟨a',b',c',d'⟩:=y;simp only [nD,PyData.eqv,PyData.eqvAll,Bool.and_true]
 by_cases e1:a=a'
 ·subst e1
  by_cases e2:b=b'
  ·subst e2
   by_cases e3:c=c'
   ·subst e3
    by_cases e4:d=d'
    ·subst e4;simp
    ·simp [e4]
   ·simp [e3]
  ·simp [e2]
 ·simp [e1]
theorem fj (ns:List Nt):SeqAt.shaped (.list (ns.map nD))=true:=
 qT nD 1 (by decide) (fun _ _=>rfl) (fun _ _=>by show (max 0 (max 0 (max 0 (max 0 0))))+1<=1;decide)
def RecAt (H:Hp) (t c a:Addr) (cs:List Int) (ns:List Nt):Prop:=H t=some (.tup [.ref c,.ref a])/\H c=some (.lst (cs.map V.int))/\cJ H a ns
theorem RecAt.same {H H':Hp} {t c a:Addr} {cs:List Int} {ns:List Nt} (h:RecAt H t c a cs ns) (k:Same H H'):RecAt H' t c a cs ns:=⟨k _ _ h.1,k _ _ h.2.1,h.2.2.same k⟩
theorem RecAt.kp {H H':Hp} {t c a r:Addr} {ys:List V} {cs:List Int} {ns:List Nt} (h:RecAt H t c a cs ns) (hr:H r=some (.lst ys)) (k:Kp r H H') (n1:c≠r) (n2:a≠r):RecAt H' t c a cs ns:=⟨k.tups hr _ _ h.1,k _ _ h.2.1 n1,h.2.2.kp (k.tups hr) k n2⟩
def dh (cs:List Int) (ns:List Nt):Prop:=Ed cs/\ns.length<=100000 /\ ∀x∈ns,Qx cs x
theorem wQ (a b c d:V):iQ [a,b,c,d] none (some 2)=[a,b]:=pO _ 2
theorem wO (a b c d:V):iQ [a,b,c,d] (some 2) none=[c,d]:=Ba _ 2
theorem qj {α:Type} (xs:List α) (h:xs.length=4):¬(HT.g_ xs.length 0 none=0/\HT.g_ xs.length xs.length (some 2)=xs.length):=by
 rw [h];decide
theorem qg {α:Type} (xs:List α) (h:xs.length=4):¬(HT.g_ xs.length 0 (some 2)=0/\HT.g_ xs.length xs.length none=xs.length):=by
 rw [h];decide
def oK (K:PySem.W.Frag):Sp:=fun vs H Q _=>∃(t:Addr) (x:Nt),vs=[.ref t]/\H t=some (.tup (nV x)) /\ ∀H',Same H H'->Q (.bl (!decide (x.1=x.2.2.1))) H'
theorem CW {f:Addr} {fd:FuncData} (F:jq K "is_note" "is_note" fJ f fd) (jF:FnAt P w K mg base 1 "is_whole" ["value"] (JG K)) (Bt:nA mg):cH P w K mg base iZ 2 f fd ["value"] (oK K):=by
 refine F.ok Cw (fun vs H Q E h=> ?_) (fun cdv A outer s H vs Q E hr h=> ?_)
 ·obtain ⟨t,x,rfl,_⟩:=h
  rfl
 ·obtain ⟨t,x,rfl,ht,k⟩:=h
  have cX:=hr.units
  refine ⟨_,(aB (cj (PW.pt (iJ (cW (cT (aV (j8 (K:=K) (cv:= .ty "tuple") (c:= .type "tuple") rfl rfl) (by rfl) Bt.gU gb (aj (pv 0) (aj (o8 (v:= .ty "tuple") (by rfl) Bt.Qo Mr rfl) aA))))) (gO (bf o_ (aV (aU (K:=K) rfl) (by rfl) Bt.fV dj (aj (pv 0) aA)) ao (aY _))))) (aC (aP fU)) bw)
   (aC (aP (nY (aV (bZ (K:=K) rfl rfl) (by rfl) Bt.rm mU (aj (cU rfl (N:=["number"]) (own:=["number"]) (caps:=[]) (aQ.of (by kernel_rfl)) (Oi (K:=K) rfl (pv 0)) (fun _ _ _ _=>(bh (i:=0) (show List.Nodup (["number"]:List Str) by decide +kernel) rfl (Or.inl rfl))) (fun _ _ _ _=>cZ) (fun _ _ _ _=>(aN jF (hr.mono (by decide)) (by rfl) (aj (pv 0) aA)))) aA)) (jQ (cI o_ (aK (aG (K:=K) rfl) (pv 0) ao (fun _ _=>rfl)) (aK (aG (K:=K) rfl) (pv 0) ao (fun _ _=>rfl)) (aY _))))))), ?_⟩
  refine ⟨_,rfl,_,_,true,rfl,.tup ht,rF K,true,rfl, ?_⟩;refine b_ ?_;refine ⟨_,rfl,t,_,rfl,.inr (bL.of ht),rfl,_,rfl, ?_⟩;refine FJ (by rfl) ?_;refine ⟨_,rfl,t,rfl,⟨_,bL.of ht⟩,fun D hD=> ?_⟩;refine Io (K:=K) (fun i=>some (.bl true)) hD ht (by show 4<=100000;decide) (fun i v H2 G F hi s2 kG kF=> ?_) (fun H2 s2 e2=> ?_)
  ·obtain ⟨z,rfl⟩:∃z,v=V.int z:=by
    have hm:=List.mem_of_getElem? hi;simp only [nV,List.mem_cons,List.not_mem_nil,or_false] at hm;rcases hm with rfl|rfl|rfl|rfl<;>exact ⟨_,rfl⟩
   exact ⟨_,rfl,z,rfl,kF _ H2 (Same.refl _) rfl⟩
  ·refine ⟨D,[true,true,true,true],rfl,aZ.of e2,true,rfl, ?_⟩
   refine fX ?_;refine ⟨_,rfl,_,_,_,_,rfl,rfl,bL.of (s2 _ _ ht),rfl,_,rfl,_,_,_,_,rfl,rfl,bL.of (s2 _ _ ht),rfl,rfl, ?_⟩
   have e:(!decide (V.int x.1=V.int x.2.2.1))=(!decide (x.1=x.2.2.1)):=by
    by_cases q:x.1=x.2.2.1
    ·simp [q]
    ·simp [q]
   show Q (.bl (!decide (V.int x.1=V.int x.2.2.1))) H2;rw [e];exact k H2 s2
def pZ (K:PySem.W.Frag):Sp:=fun vs H Q _=>∃(c t:Addr) (cs:List Int) (x:Nt),vs=[.ref c,.ref t]/\H c=some (.lst (cs.map V.int))/\H t=some (.tup (nV x))/\Qx cs x/\Ed cs /\ ∀H',Same H H'->Q (.bl true) H'
theorem vK {f:Addr} {fd:FuncData} (F:jq K "is_between" "is_between" cO f fd) (dM:FnAt P w K mg base 2 "is_below" ["value","count"] (mZ K)) (qO:FnAt P w K mg base 2 "is_note" ["value"] (oK K)) (Bt:nA mg):cH P w K mg base iZ 3 f fd ["counts","note"] (pZ K):=by
 refine F.ok vG (fun vs H Q E h=> ?_) (fun cdv A outer s H vs Q E hr h=> ?_)
 ·obtain ⟨c,t,cs,x,rfl,_⟩:=h
  rfl
 ·obtain ⟨c,t,cs,x,rfl,hc,ht,ok,cok,k⟩:=h
  have cX:=hr.units;obtain ⟨⟨h0,h1⟩,⟨k0,k1⟩,⟨o0,o1⟩,⟨m0,m1⟩,hne⟩:=id ok
  refine ⟨_,(aB (cj (PW.pt (iJ (cW (cT (aN qO (hr.mono (by decide)) (by rfl) (aj (pv 1) aA)))) (iJ (cW (cT (aN dM (hr.mono (by decide)) (by rfl) (aj (aK (aG (K:=K) rfl) (pv 1) ao (fun _ _=>rfl)) (aj (aV (aU (K:=K) rfl) (by rfl) Bt.fV dj (aj (pv 0) aA)) aA))))) (gO (cW (cT (aN dM (hr.mono (by decide)) (by rfl) (aj (aK (aG (K:=K) rfl) (pv 1) ao (fun _ _=>rfl)) (aj (aV (aU (K:=K) rfl) (by rfl) Bt.fV dj (aj (pv 0) aA)) aA))))))))) (aC (aP fU)) bw)
   (aC (aP (nY (aN dM (hr.mono (by decide)) (by rfl) (aj (aK (aG (K:=K) rfl) (pv 1) ao (fun _ _=>rfl)) (aj (aK (aM (K:=K) rfl) (pv 0) (aK (aG (K:=K) rfl) (pv 1) ao (fun _ _=>rfl)) (fun _ _=>rfl)) aA))) (jQ (aN dM (hr.mono (by decide)) (by rfl) (aj (aK (aG (K:=K) rfl) (pv 1) ao (fun _ _=>rfl)) (aj (aK (aM (K:=K) rfl) (pv 0) (aK (aG (K:=K) rfl) (pv 1) ao (fun _ _=>rfl)) (fun _ _=>rfl)) aA)))))))), ?_⟩
  refine ⟨_,rfl,t,x,rfl,ht,fun H1 s1=>⟨_,rfl, ?_⟩⟩;rw [show (!decide (x.1=x.2.2.1))=true by simp [hne]];refine b_ ?_;have hc1:=s1 _ _ hc;have ht1:=s1 _ _ ht;refine ⟨_,rfl,_,_,_,_,rfl,rfl,bL.of ht1,rfl,_,rfl,c,_,rfl,.inl (aZ.of hc1),_,_,rfl,_,rfl, ?_⟩;rw [show decide (BK x.1 (cs.map V.int).length)=true by rw [List.length_map];simp [BK,h0,h1]];refine b_ ?_;refine ⟨_,rfl,_,_,_,_,rfl,rfl,bL.of ht1,rfl,_,rfl,c,_,rfl,.inl (aZ.of hc1),_,_,rfl,_,rfl, ?_⟩;rw [show decide (BK x.2.2.1 (cs.map V.int).length)=true by rw [List.length_map];simp [BK,o0,o1]];refine b_ ?_;have g1:=(cok.gI x.1).1;have g2:=(cok.gI x.2.2.1).1;have e1:gI cs x.1=((gI cs x.1).toNat:Int):=by omega
  have e2:gI cs x.2.2.1=((gI cs x.2.2.1).toNat:Int):=by omega
  refine ⟨_,rfl,_,_,_,_,rfl,rfl,bL.of ht1,rfl,_,rfl,_,rfl,_,_,_,_,rfl,rfl,bL.of ht1,rfl,_,_,_,_,rfl,rfl,aZ.of hc1,jU h0 h1,x.2.1,(gI cs x.1).toNat,by rw [←e1];rfl,_,rfl, ?_⟩;rw [decide_eq_true (show BK x.2.1 (gI cs x.1).toNat from ⟨k0,by omega⟩)];refine fX ?_;refine ⟨_,rfl,_,_,_,_,rfl,rfl,bL.of ht1,rfl,_,rfl,_,rfl,_,_,_,_,rfl,rfl,bL.of ht1,rfl,_,_,_,_,rfl,rfl,aZ.of hc1,jU o0 o1,x.2.2.2,(gI cs x.2.2.1).toNat,by rw [←e2];rfl, ?_⟩;rw [decide_eq_true (show BK x.2.2.2 (gI cs x.2.2.1).toNat from ⟨m0,by omega⟩)];exact k H1 s1
def gC (K:PySem.W.Frag):Sp:=fun vs H Q _=>∃(t c a:Addr) (cs:List Int) (ns:List Nt),vs=[.ref t]/\RecAt H t c a cs ns/\dh cs ns /\ ∀H',Same H H'->Q .non H'
theorem pJ (n:Nat) (v:V):(List.range n).filterMap (fun _=>some v)=List.replicate n v:=by
 induction n with
 | zero=>rfl
 | succ n ih=>rw [gn,ih,List.replicate_succ'];rfl
theorem tZ {f:Addr} {fd:FuncData} (F:jq K "check_notes" "check_notes" cB f fd) (yW:FnAt P w K mg base 3 "is_between" ["counts","note"] (pZ K)) (Bt:nA mg):cH P w K mg base iZ 4 f fd ["record"] (gC K):=by
 refine F.ok tu (fun vs H Q E h=> ?_) (fun cdv A outer s H vs Q E hr h=> ?_)
 ·obtain ⟨t,c,a,cs,ns,rfl,_⟩:=h
  rfl
 ·obtain ⟨t,c,a,cs,ns,rfl,⟨ht,hc,hN⟩,ok,k⟩:=h
  have cX:=hr.units;obtain ⟨vs,ha,dv⟩:=id hN;have vl:vs.length=ns.length:=by rw [dv.length,List.length_map]
  have nl:=ok.2.1;refine ⟨_,(aC (cj (cW (cT (aV (bZ (K:=K) rfl rfl) (by rfl) Bt.rm mU (aj (cU rfl (N:=["note","record"]) (own:=["note"]) (caps:=[0]) (aQ.of (by kernel_rfl)) (bM (K:=K) rfl (aK (aG (K:=K) rfl) (pv 0) ao (fun _ _=>rfl))) (fun _ _ _ _=>(bh (i:=0) (show List.Nodup (["note","record"]:List Str) by decide +kernel) rfl (Or.inl rfl))) (fun _ _ _ _=>cZ) (fun _ _ _ _=>(aN yW (hr.mono (by decide)) (by rfl) (aj (aK (aG (K:=K) rfl) (pv 1) ao (fun _ _=>rfl)) (aj (pv 0) aA))))) aA)))) (aC jA) bw)), ?_⟩;refine ⟨_,rfl,_,_,_,_,rfl,rfl,bL.of ht,rfl,a,rfl,⟨_,aZ.of ha⟩,fun D hD=> ?_⟩;refine eN (K:=K) (fun i=>some (.bl true)) hD (aZ.of ha) (by omega) (fun i v H2 G F hi s2 kG kF=> ?_) (fun H2 s2 e2=> ?_)
  ·obtain ⟨x,q,ex,rfl,hx⟩:=eV dv hi
   exact ⟨_,rfl,_,_,_,_,rfl,rfl,bL.of (s2 _ _ ht),rfl,_,rfl,c,q,cs,x,rfl,s2 _ _ hc,s2 _ _ hx,ok.2.2 x (List.mem_of_getElem? ex),ok.1,fun H3 s3=>kF _ H3 s3 rfl⟩
  ·rw [pJ] at e2
   refine ⟨D,List.replicate vs.length true,rfl,aZ.of (by rw [e2,List.map_replicate]),_,rfl, ?_⟩;rw [show (List.replicate vs.length true).all id=true by simp];refine b_ ?_;exact k H2 s2
def bQ (cs ds:List Int):Prop:=ds.length=cs.length /\ ∀i:Int,0<=i->i<cs.length->0<=gI ds i/\gI ds i<=gI cs i
def lX (K:PySem.W.Frag):Sp:=fun vs H Q _=>∃(t c a d:Addr) (cs ds:List Int) (ns:List Nt),vs=[.ref t,.ref d]/\RecAt H t c a cs ns/\Ed cs/\H d=some (.lst (ds.map V.int))/\bQ cs ds /\ ∀H',Same H H'->Q .non H'
theorem vM {f:Addr} {fd:FuncData} (F:jq K "check_done" "check_done" cQ f fd) (dM:FnAt P w K mg base 2 "is_below" ["value","count"] (mZ K)) (Bt:nA mg):cH P w K mg base iZ 3 f fd ["record","done"] (lX K):=by
 refine F.ok vI (fun vs H Q E h=> ?_) (fun cdv A outer s H vs Q E hr h=> ?_)
 ·obtain ⟨t,c,a,d,cs,ds,ns,rfl,_⟩:=h
  rfl
 ·obtain ⟨t,c,a,d,cs,ds,ns,rfl,⟨ht,hc,hN⟩,ok,hd,rH,k⟩:=h
  have cX:=hr.units
  refine ⟨_,(aB (cj (PW.pt (iJ (cW (cT (aV (j8 (K:=K) (cv:= .ty "list") (c:= .type "list") rfl rfl) (by rfl) Bt.gU gb (aj (pv 1) (aj (o8 (v:= .ty "list") (by rfl) Bt.lG jm rfl) aA))))) (gO (bf o_ (aV (aU (K:=K) rfl) (by rfl) Bt.fV dj (aj (pv 1) aA)) (aV (aU (K:=K) rfl) (by rfl) Bt.fV dj (aj (aK (aG (K:=K) rfl) (pv 0) ao (fun _ _=>rfl)) aA)) (aY _))))) (aC jA) bw)
   (aC (cj (cW (cT (aV (bZ (K:=K) rfl rfl) (by rfl) Bt.rm mU (aj (cU rfl (N:=["number","count"]) (own:=["number","count"]) (caps:=[]) (aQ.of (by kernel_rfl)) (Fj (K:=K) rfl (by rfl) Bt.Rk (aj (pv 1) (aj (aK (aG (K:=K) rfl) (pv 0) ao (fun _ _=>rfl)) aA))) (fun _ _ _ _=>(yq (K:=K) (n:=2) rfl rfl (jY (bh (i:=0) (show List.Nodup (["number","count"]:List Str) by decide +kernel) rfl (Or.inl rfl)) (jY (bh (i:=1) (show List.Nodup (["number","count"]:List Str) by decide +kernel) rfl (Or.inl rfl)) yp)))) (fun _ _ _ _=>cZ) (fun _ _ _ _=>(aN dM (hr.mono (by decide)) (by rfl) (aj (pv 0) (aj (bG dY (pv 1) ao) aA))))) aA)))) (aC jA) bw))), ?_⟩
  have c8:=ok.1;refine ⟨_,rfl,_,_,true,rfl,.lst hd,nM K,true,rfl, ?_⟩;refine b_ ?_;refine ⟨_,rfl,d,_,rfl,.inl (aZ.of hd),_,rfl,_,_,_,_,rfl,rfl,bL.of ht,rfl,c,_,rfl,.inl (aZ.of hc),rfl,_,rfl, ?_⟩;refine FJ (by rw [List.length_map,List.length_map,rH.1]) ?_;refine ⟨_,rfl,_,rfl,_,_,_,_,rfl,rfl,bL.of ht,rfl,d,c,_,_,rfl,aZ.of hd,aZ.of hc,fun D hD=> ?_⟩;refine wU (K:=K) (n:=cs.length) (by rw [List.length_map,rH.1]) (by rw [List.length_map]) (fun i=>some (.bl true)) hD (aZ.of hd) (aZ.of hc) (by omega) (fun i x y H2 G F hi hj s2 kG kF=> ?_) (fun H2 s2 e2=> ?_)
  ·rw [List.getElem?_map] at hi hj
   cases ei:ds[i]? with
   | none=>rw [ei] at hi;cases hi
   | some u=>
     cases ej:cs[i]? with
     | none=>rw [ej] at hj;cases hj
     | some v=>
       rw [ei] at hi;rw [ej] at hj;cases hi;cases hj;have il:i<cs.length:=(List.getElem?_eq_some_iff.mp ej).1;have q:=rH.2 (i:Int) (by omega) (by omega);rw [mO ei,mO ej] at q;refine ⟨_,rfl,_,rfl,_,_,rfl,rfl,u,(v+1).toNat,by rw [show (((v+1).toNat:Nat):Int)=v+1 by omega];rfl, ?_⟩;rw [decide_eq_true (show BK u (v+1).toNat from ⟨q.1,by omega⟩)];exact kF _ H2 (Same.refl _) rfl
  ·rw [pJ] at e2
   refine ⟨D,List.replicate cs.length true,rfl,aZ.of (by rw [e2,List.map_replicate]),_,rfl, ?_⟩;rw [show (List.replicate cs.length true).all id=true by simp];refine b_ ?_;exact k H2 s2
def Es (K:PySem.W.Frag):Sp:=fun vs H Q _=>∃(d t:Addr) (ds:List Int) (h k:Int),vs=[.ref d,.ref t]/\H d=some (.lst (ds.map V.int))/\H t=some (.tup [.int h,.int k])/\0<=h/\h<ds.length/\Q (.bl (decide (k<gI ds h))) H
theorem Tp {f:Addr} {fd:FuncData} (F:jq K "has" "has" oX f fd):cH P w K mg base iZ 1 f fd ["done","touch"] (Es K):=by
 refine F.ok Sg (fun vs H Q E h=> ?_) (fun cdv A outer s H vs Q E hr h=> ?_)
 ·obtain ⟨d,t,ds,h,k,rfl,_⟩:=h
  rfl
 ·obtain ⟨d,t,ds,h,k,rfl,hd,ht,h0,h1,q⟩:=h
  refine ⟨_,(aC (aP (cI pA (aK (aG (K:=K) rfl) (pv 1) ao (fun _ _=>rfl)) (aK (aM (K:=K) rfl) (pv 0) (aK (aG (K:=K) rfl) (pv 1) ao (fun _ _=>rfl)) (fun _ _=>rfl)) (aY _)))), ?_⟩;exact ⟨_,rfl,_,_,_,_,rfl,rfl,bL.of ht,rfl,_,rfl,_,rfl,_,_,_,_,rfl,rfl,bL.of ht,rfl,_,_,_,_,rfl,rfl,aZ.of hd,jU h0 h1,_,_,rfl,rfl,q⟩
def jJ (ds:List Int) (x:Nt):Bool:=decide (x.2.2.2<gI ds x.2.2.1) && !decide (x.2.1<gI ds x.1)
def brk (ds:List Int) (ns:List Nt):List Nt:=ns.filter (jJ ds)
theorem sG {H:Hp} (p:Nt->Bool):∀{vs:List V} {ns:List Nt},aF H vs (ns.map nD)->aF H ((List.range vs.length).filterMap fun i=>(ns[i]?).bind fun x=>if p x then vs[i]? else none) ((ns.filter p).map nD)
 | [],[],_=>by simp [aF]
 | [],_::_,h=>by simp only [List.map_cons,aF] at h
 | _::_,[],h=>by simp only [List.map_nil,aF] at h
 | v::vs,n::ns,h=>by
   simp only [List.map_cons,aF] at h;have ih:=sG p h.2
   have e:(List.range (v::vs).length).filterMap (fun i=>((n::ns)[i]?).bind fun x=>if p x then (v::vs)[i]? else none)=(if p n then [v] else [])++(List.range vs.length).filterMap fun i=>(ns[i]?).bind fun x=>if p x then vs[i]? else none:=by
    rw [List.length_cons,List.range_succ_eq_map,List.filterMap_cons,List.filterMap_map];cases q:p n
    ·simp [q];rfl
    ·simp [q];rfl
   rw [e,List.filter_cons];cases q:p n
   ·simpa using ih
   ·simp only [if_true,List.cons_append,List.nil_append,List.map_cons,aF]
    exact ⟨h.1,ih⟩
def lY (K:PySem.W.Frag):Sp:=fun vs H Q _=>∃(t c a d:Addr) (cs ds:List Int) (ns:List Nt),vs=[.ref t,.ref d]/\RecAt H t c a cs ns/\dh cs ns/\H d=some (.lst (ds.map V.int))/\ds.length=cs.length /\ ∀(p:Addr) (H':Hp),H p=none->cJ H' p (brk ds ns)->Same H H'->Q (.ref p) H'
theorem Hq {f:Addr} {fd:FuncData} (F:jq K "broken_notes" "broken_notes" bV f fd) (Gm:FnAt P w K mg base 1 "has" ["done","touch"] (Es K)) (Bt:nA mg):cH P w K mg base iZ 2 f fd ["record","done"] (lY K):=by
 refine F.ok rD (fun vs H Q E h=> ?_) (fun cdv A outer s H vs Q E hr h=> ?_)
 ·obtain ⟨t,c,a,d,cs,ds,ns,rfl,_⟩:=h
  rfl
 ·obtain ⟨t,c,a,d,cs,ds,ns,rfl,⟨ht,hc,hN⟩,ok,hd,dl,k⟩:=h
  have cX:=hr.units;obtain ⟨vs,ha,dv⟩:=id hN;have vl:vs.length=ns.length:=by rw [dv.length,List.length_map]
  have nl:=ok.2.1;refine ⟨_,(aC (aP (cU rfl (N:=["note","done"]) (own:=["note"]) (caps:=[1]) (aQ.of (by kernel_rfl)) (bM (K:=K) rfl (aK (aG (K:=K) rfl) (pv 0) ao (fun _ _=>rfl))) (fun _ _ _ _=>(bh (i:=0) (show List.Nodup (["note","done"]:List Str) by decide +kernel) rfl (Or.inl rfl))) (fun _ _ _ _=>(oY (PW.pt (mz (cT (aN Gm (hr.mono (by decide)) (by rfl) (aj (pv 1) (aj (cM (gj (K:=K) rfl) (pv 0) (dN ao) dO) aA)))) (jG (cW (cT (aN Gm (hr.mono (by decide)) (by rfl) (aj (pv 1) (aj (cM (gj (K:=K) rfl) (pv 0) dO (dN ao)) aA)))))))))) (fun _ _ _ _=>(pv 0))))), ?_⟩;refine ⟨_,rfl,_,_,_,_,rfl,rfl,bL.of ht,rfl,a,rfl,⟨_,aZ.of ha⟩,fun D hD=> ?_⟩;refine eN (K:=K) (fun i=>(ns[i]?).bind fun x=>if jJ ds x then vs[i]? else none) hD (aZ.of ha) (by omega) (fun i v H2 G F hi s2 kG kF=> ?_) (fun H2 s2 e2=> ?_)
  ·obtain ⟨x,q,ex,rfl,hx⟩:=eV dv hi
   obtain ⟨⟨h0,h1⟩,⟨k0,k1⟩,⟨o0,o1⟩,⟨m0,m1⟩,hne⟩:=ok.2.2 x (List.mem_of_getElem? ex);have hx2:=s2 _ _ hx;have hd2:=s2 _ _ hd;simp only [ex,Option.bind_some,hi] at kG kF;refine ⟨_,rfl,_,rfl,_,rfl,_,_,rfl,bL.of hx2,qg _ rfl,fun p1 hp1=> ?_⟩;have c2:iQ (nV x) (some 2) none=[.int x.2.2.1,.int x.2.2.2]:=wO ..;rw [c2];have Et:=aD (o:=HO.tup [V.int x.2.2.1,V.int x.2.2.2]) hp1;refine ⟨d,p1,ds,_,_,rfl,Et _ _ hd2,au,o0,by omega,_,rfl, ?_⟩;refine iM (fun w=> ?_) (fun w=> ?_)
   ·refine ⟨_,rfl,_,rfl,_,rfl,_,_,rfl,bL.of (Et _ _ hx2),qj _ rfl,fun p2 hp2=> ?_⟩
    have c1:iQ (nV x) none (some 2)=[.int x.1,.int x.2.1]:=wQ ..;rw [c1];have JL:=aD (o:=HO.tup [V.int x.1,V.int x.2.1]) hp2;refine ⟨d,p2,ds,_,_,rfl,JL _ _ (Et _ _ hd2),au,h0,by omega,_,rfl, ?_⟩;have s12:=Et.trans JL
    by_cases w2:x.2.1<gI ds x.1
    ·rw [decide_eq_true w2]
     refine b_ ?_;exact kG _ s12 (by simp [jJ,w2])
    ·rw [decide_eq_false w2]
     refine fX ?_;exact ⟨_,rfl,kF _ _ s12 (by simp [jJ,w2,of_decide_eq_true w])⟩
   ·have w':¬x.2.2.2<gI ds x.2.2.1:=fun z=>w (decide_eq_true z)
    exact kG _ Et (by simp [jJ,w'])
  ·refine k D H2 hD ⟨_,e2, ?_⟩ s2
   exact sG (jJ ds) (aF.keep s2.tups _ (bx _ dI ns) dv)
def xW (K:PySem.W.Frag):Sp:=fun vs H Q _=>∃(t c a d:Addr) (cs ds:List Int) (ns:List Nt),vs=[.ref t,.ref d]/\RecAt H t c a cs ns/\dh cs ns/\H d=some (.lst (ds.map V.int))/\bQ cs ds /\ ∀H',Same H H'->Q (.bl (decide (brk ds ns=[]))) H'
theorem Hl {f:Addr} {fd:FuncData} (F:jq K "is_cut" "is_cut" gH f fd) (bH:FnAt P w K mg base 4 "check_notes" ["record"] (gC K)) (g8:FnAt P w K mg base 3 "check_done" ["record","done"] (lX K)) (cY:FnAt P w K mg base 2 "broken_notes" ["record","done"] (lY K)) (Bt:nA mg):cH P w K mg base iZ 5 f fd ["record","cut"] (xW K):=by
 refine F.ok GK (fun vs H Q E h=> ?_) (fun cdv A outer s H vs Q E hr h=> ?_)
 ·obtain ⟨t,c,a,d,cs,ds,ns,rfl,_⟩:=h
  rfl
 ·obtain ⟨t,c,a,d,cs,ds,ns,rfl,R,ok,hd,rH,k⟩:=h
  have cX:=hr.units
  refine ⟨_,(aB (cg (aN bH (hr.mono (by decide)) (by rfl) (aj (pv 0) aA)))
   (aB (cg (aN g8 (hr.mono (by decide)) (by rfl) (aj (pv 0) (aj (pv 1) aA))))
   (aC (aP (Om (K:=K) rfl (aN cY (hr.mono (by decide)) (by rfl) (aj (pv 0) (aj (pv 1) aA)))))))), ?_⟩
  refine ⟨_,rfl,t,c,a,cs,ns,rfl,R,ok,fun H1 s1=> ?_⟩;refine ⟨_,rfl,_,rfl,t,c,a,d,cs,ds,ns,rfl,R.same s1,ok.1,s1 _ _ hd,rH,fun H2 s2=> ?_⟩;have s12:=s1.trans s2;refine ⟨_,rfl,_,rfl,t,c,a,d,cs,ds,ns,rfl,R.same s12,ok,s12 _ _ hd,rH.1,fun p H3 hp N s3=> ?_⟩;obtain ⟨vs,ha,dv⟩:=id N;have vl:vs.length=(brk ds ns).length:=by rw [dv.length,List.length_map]
  refine ⟨!vs.isEmpty,.inl ⟨vs,aZ.of ha,rfl⟩, ?_⟩
  have e:(!!vs.isEmpty)=decide (brk ds ns=[]):=by
   rw [Bool.not_not];cases vs with
   | nil=>
     have:brk ds ns=[]:=List.length_eq_zero_iff.mp vl.symm;simp [this]
   | cons v vs=>
     have:brk ds ns≠[]:=fun z=>by rw [z] at vl;cases vl
     simp [this]
  rw [e];exact k H3 (s12.trans s3)
def pos (ls:List Int):List Int:=(List.range ls.length).filterMap fun (i:Nat)=>if gI ls (i:Int)>0 then some (i:Int) else none
theorem sum_set:∀{ls:List Int} {i:Nat} {x:Int},ls[i]? = some x -> ∀y,(ls.set i y).sum=ls.sum - x+y
 | [],i,x,h,y=>by cases h
 | z::ls,0,x,h,y=>by
   cases h;simp only [List.set_cons_zero,List.sum_cons];omega
 | z::ls,i+1,x,h,y=>by
   simp only [List.set_cons_succ,List.sum_cons];rw [sum_set (ls:=ls) (i:=i) (x:=x) (by simpa using h) y];omega
theorem JD:∀{ls:List Int},(∀c∈ls,0<=c/\c<=300)->0<=ls.sum/\ls.sum<=300*ls.length
 | [],_=>by simp
 | x::ls,h=>by
   have a:=h x (by simp);have b:=JD (ls:=ls) fun c hc=>h c (by simp [hc]);rw [List.sum_cons,List.length_cons];omega
def closed (ns:List Nt) (ds:List Int):Prop:=∀x∈ns,x.2.2.2<gI ds x.2.2.1->x.2.1<gI ds x.1
theorem yO {ns:List Nt} {ds:List Int}:brk ds ns=[]↔closed ns ds:=by
 unfold brk closed;rw [List.filter_eq_nil_iff];constructor
 ·intro h x hx hm
  have:=h x hx;simp only [jJ,Bool.and_eq_true,decide_eq_true_eq,Bool.not_eq_true',decide_eq_false_iff_not,not_and,Decidable.not_not] at this;exact this hm
 ·intro h x hx
  simp only [jJ,Bool.and_eq_true,decide_eq_true_eq,Bool.not_eq_true',decide_eq_false_iff_not,not_and,Decidable.not_not];exact h x hx
def lJ (n:Nat) (ds es:List Int):Prop:=∀i:Int,0<=i->i<n->gI ds i<=gI es i
theorem lJ.refl (n:Nat) (ds:List Int):lJ n ds ds:=fun _ _ _=>Int.le_refl _
theorem lJ.eq {n:Nat} {ds es:List Int} (h1:ds.length=n) (h2:es.length=n) (a:lJ n ds es) (b:lJ n es ds):ds=es:=by
 refine List.ext_getElem (by omega) fun i hi hi'=> ?_;have q1:=a (i:Int) (by omega) (by omega);have q2:=b (i:Int) (by omega) (by omega);rw [mO (cs:=ds) (i:=i) (c:=ds[i]) (by simp [hi]),mO (cs:=es) (i:=i) (c:=es[i]) (by simp [hi'])] at q1 q2;omega
theorem pW:∀{xs ys:List Int},xs.length=ys.length->(∀i:Nat,i<xs.length->gI xs (i:Int)<=gI ys (i:Int))->xs.sum<=ys.sum
 | [],[],_,_=>by simp
 | [],_::_,h,_=>by simp at h
 | _::_,[],h,_=>by simp at h
 | x::xs,y::ys,h,q=>by
   have q0:=q 0 (by simp)
   have ih:=pW (xs:=xs) (ys:=ys) (by simpa using h) fun i hi=>by
    have:=q (i+1) (by simp;omega);simpa [gI] using this
   simp [gI] at q0;rw [List.sum_cons,List.sum_cons];omega
theorem bQ.sum {cs es:List Int} (h:bQ cs es):0<=es.sum/\es.sum<=cs.sum:=by
 constructor
 ·have:(List.replicate es.length (0:Int)).sum<=es.sum:=pW (by simp) fun i hi=>by
   have hi':i<es.length:=by simpa using hi
   have:=(h.2 (i:Int) (by omega) (by rw [←h.1];omega)).1;simpa [gI,hi'] using this
  have z:(List.replicate es.length (0:Int)).sum=0:=by
   clear this h
   induction es.length with
   | zero=>rfl
   | succ n ih=>rw [List.replicate_succ,List.sum_cons,ih];rfl
  omega
 ·exact pW h.1 fun i hi=>(h.2 (i:Int) (by omega) (by rw [←h.1];omega)).2
theorem bQ.set {cs ds:List Int} {h v:Int} (d:bQ cs ds) (h0:0<=h) (h1:h<cs.length) (v0:0<=v) (v1:v<=gI cs h):bQ cs (ds.set h.toNat v):=by
 refine ⟨by rw [List.length_set];exact d.1,fun i i0 i1=> ?_⟩;rw [mL h0 (by rw [d.1];exact h1) i0]
 by_cases e:i=h
 ·subst e;rw [if_pos rfl];exact ⟨v0,v1⟩
 ·rw [if_neg e];exact d.2 i i0 i1
theorem Lw {ds:List Int} {h v:Int} (h0:0<=h) (h1:h<ds.length):(ds.set h.toNat v).sum=ds.sum - gI ds h+v:=by
 have:h.toNat<ds.length:=by omega
 exact sum_set (by simp [gI,this]) v
def Gj (cs:List Int) (ns:List Nt) (ds L:List Int):Prop:=bQ cs L/\lJ cs.length ds L/\closed ns L /\ ∀M:List Int,M.length=cs.length->lJ cs.length ds M->closed ns M->lJ cs.length L M
def u6 (cs:List Int) (ns:List Nt) (ds L:List Int):Prop:=bQ cs L/\lJ cs.length L ds/\closed ns L /\ ∀M:List Int,M.length=cs.length->lJ cs.length M ds->closed ns M->lJ cs.length M L
theorem Ft {ds:List Int} {ns:List Nt} {x:Nt} (h:x∈brk ds ns):x∈ns/\x.2.2.2<gI ds x.2.2.1/\gI ds x.1<=x.2.1:=by
 obtain ⟨a,b⟩:=List.mem_filter.mp h;simp only [jJ,Bool.and_eq_true,decide_eq_true_eq,Bool.not_eq_true',decide_eq_false_iff_not] at b;exact ⟨a,b.1,by omega⟩
def xR (K:PySem.W.Frag):Sp:=fun vs H Q _=>∃(t c a d:Addr) (cs ds:List Int) (ns:List Nt),vs=[.ref t,.ref d]/\RecAt H t c a cs ns/\dh cs ns/\H d=some (.lst (ds.map V.int))/\bQ cs ds /\ ∀(p:Addr) (L:List Int) (H':Hp),H p=none->H' p=some (.lst (L.map V.int))->Gj cs ns ds L->Same H H'->Q (.ref p) H'
theorem Ky {f:Addr} {fd:FuncData} (F:jq K "least_cut" "least_cut" dD f fd) (bH:FnAt P w K mg base 4 "check_notes" ["record"] (gC K)) (g8:FnAt P w K mg base 3 "check_done" ["record","done"] (lX K)) (cY:FnAt P w K mg base 2 "broken_notes" ["record","done"] (lY K)) (Bt:nA mg):cH P w K mg base iZ 5 f fd ["record","some"] (xR K):=by
 refine F.ok gF (fun vs H Q E h=> ?_) (fun cdv A outer s H vs Q E hr h=> ?_)
 ·obtain ⟨t,c,a,d,cs,ds,ns,rfl,_⟩:=h
  rfl
 ·obtain ⟨t,c,a,d,cs,ds,ns,rfl,R,ok,hd,rH,k⟩:=h
  have cX:=hr.units
  refine ⟨_,(aB (cg (aN bH (hr.mono (by decide)) (by rfl) (aj (pv 0) aA)))
   (aB (cg (aN g8 (hr.mono (by decide)) (by rfl) (aj (pv 0) (aj (pv 1) aA))))
   (aB (aO (i:=2) gF.nd rfl (Or.inl rfl) (fP (dJ (K:=K) rfl) (by rfl) Bt.lG jm (aj (pv 1) aA)))
   (aB (aO (i:=3) gF.nd rfl (Or.inl rfl) (aN cY (hr.mono (by decide)) (by rfl) (aj (pv 0) (aj (pv 2) aA))))
   (aB (tQ PassesOwn.never (m9 (K:=K) rfl (pv 3)) (aB (gP PassesOwn.never rfl (bM (K:=K) rfl (pv 3)) (bh (i:=4) gF.nd rfl (Or.inl rfl))
   (aC (nU (aV (wX rfl) (by rfl) Bt.Rm Ms (aj (aK (aM (K:=K) rfl) (pv 2) (aK (aG (K:=K) rfl) (pv 4) ao (fun _ _=>rfl)) (fun _ _=>rfl)) (aj (bG dY (aK (aG (K:=K) rfl) (pv 4) ao (fun _ _=>rfl)) ao) aA))) (nW (pv 2) (aK (aG (K:=K) rfl) (pv 4) ao (fun _ _=>rfl)) set_list))))
   (aC (aO (i:=3) gF.nd rfl (Or.inl rfl) (aN cY (hr.mono (by decide)) (by rfl) (aj (pv 0) (aj (pv 2) aA)))))))
   (aC (aP (pv 2)))))))), ?_⟩
  refine ⟨_,rfl,t,c,a,cs,ns,rfl,R,ok,fun H1 s1=> ?_⟩;refine ⟨_,rfl,_,rfl,t,c,a,d,cs,ds,ns,rfl,R.same s1,ok.1,s1 _ _ hd,rH,fun H2 s2=> ?_⟩;have s12:=s1.trans s2;refine ⟨_,rfl,d,_,rfl,.inl (aZ.of (s12 _ _ hd)),fun p hp=> ?_⟩;have s3:=aD (o:=HO.lst (ds.map V.int)) hp;have qb:=s12.trans s3;have hp0:H p=none:=s12.free hp;refine ⟨_,rfl,_,rfl,t,c,a,p,cs,ds,ns,rfl,R.same qb,ok,au,rH.1,fun q H4 hq N4 s4=> ?_⟩;have Ss:=qb.trans s4;have nl:=ok.2.1
  refine ⟨fun m σ H5=>∃(es:List Int) (q:Addr) (x:Option V),σ=[some (.ref t),some (.ref d),some (.ref p),some (.ref q),x]/\H5 p=some (.lst (es.map V.int))/\p≠q/\cJ H5 q (brk es ns)/\bQ cs es/\lJ cs.length ds es/\(∀M:List Int,M.length=cs.length->lJ cs.length ds M->closed ns M->lJ cs.length es M)/\Same H H5/\m=(cs.sum - es.sum).toNat,
   ⟨_,ds,q,none,rfl,s4 _ _ au,aL au hq,N4,rH,lJ.refl _ _,fun M _ h _=>h,Ss,rfl⟩, ?_⟩
  rintro m σ H5 ⟨es,q,x,rfl,Lq,Yw,N5,Vb,ge,up,s5,rfl⟩;obtain ⟨vs,uo,dv⟩:=id N5;have vl:vs.length=(brk es ns).length:=by rw [dv.length,List.length_map]
  refine ⟨_,rfl, !vs.isEmpty,.inl ⟨vs,aZ.of uo,rfl⟩, ?_⟩
  by_cases e0:brk es ns=[]
  ·have:vs=[]:=List.length_eq_zero_iff.mp (by rw [vl,e0];rfl)
   subst this;refine b_ ?_;exact ⟨_,rfl,k p es H5 hp0 Lq ⟨Vb,ge,yO.mp e0,up⟩ s5⟩
  have hv:(!vs.isEmpty)=true:=by
   cases vs with
   | nil=>exact absurd (List.length_eq_zero_iff.mp vl.symm) e0
   | cons _ _=>rfl
  rw [hv];refine fX ?_;refine ⟨fun σ' H'=>∃m',m'<(cs.sum - es.sum).toNat /\ ∃(es':List Int) (q:Addr) (x:Option V),σ'=[some (.ref t),some (.ref d),some (.ref p),some (.ref q),x]/\H' p=some (.lst (es'.map V.int))/\p≠q/\cJ H' q (brk es' ns)/\bQ cs es'/\lJ cs.length ds es'/\(∀M:List Int,M.length=cs.length->lJ cs.length ds M->closed ns M->lJ cs.length es' M)/\Same H H'/\m'=(cs.sum - es'.sum).toNat,fun _ _ h=>h, ?_⟩;refine ⟨_,rfl,q,rfl,⟨_,aZ.of uo⟩, ?_⟩
  refine jD (K:=K) (a:=q) (xs:=vs) (fun j σ H6=>∃(fs:List Int) (x:Option V),σ=[some (.ref t),some (.ref d),some (.ref p),some (.ref q),x]/\H6 p=some (.lst (fs.map V.int))/\Kp p H5 H6/\bQ cs fs/\lJ cs.length es fs/\(∀M:List Int,M.length=cs.length->lJ cs.length ds M->closed ns M->lJ cs.length fs M)/\es.sum<=fs.sum/\(j=0->fs=es)/\(0<j->es.sum<fs.sum))
   ⟨es,x,rfl,Lq,Kp.refl _ _,Vb,lJ.refl _ _,up,Int.le_refl _,fun _=>rfl,fun z=>absurd z (Nat.lt_irrefl _)⟩ (fun j σ H6 _ ⟨_,_,_,_,kp,_⟩=>aZ.of (kp _ _ uo Yw.symm)) ?_ ?_
  ·rintro j v σ H6 hj ⟨fs,x,rfl,rZ,Pq,uz,PX,Rw,sle,sz,spos⟩
   obtain ⟨y,u,ey,rfl,hy⟩:=eV dv hj;obtain ⟨ym,y2,y3⟩:=Ft (List.mem_of_getElem? ey);obtain ⟨⟨h0,h1⟩,⟨k0,k1⟩,⟨o0,o1⟩,⟨m0,m1⟩,hne⟩:=ok.2.2 y ym;have Ub:=Pq.tups Lq _ _ hy;refine ⟨_,rfl,_,rfl,_,_,_,_,rfl,rfl,bL.of Ub,rfl,_,_,_,_,rfl,rfl,aZ.of rZ,jU h0 (by rw [uz.1];exact h1),_,rfl,_,_,_,_,rfl,rfl,bL.of Ub,rfl,_,_,rfl,rfl,_,_,rfl,_,rfl,_,rfl,_,_,_,_,rfl,rfl,bL.of Ub,rfl,_,_,_,_,rfl,rfl,rZ,pF h0 (by rw [List.length_map,uz.1];exact h1), ?_⟩;have qf:=uz.2 y.1 h0 h1;have gq:=PX y.1 h0 h1;generalize hw:(if y.2.1+1>gI fs y.1 then y.2.1+1 else gI fs y.1)=w;have w1:gI fs y.1<=w:=by rw [←hw];split<;>omega
   have w2:w<=gI cs y.1:=by rw [←hw];split<;>omega
   have w3:y.2.1+1<=w:=by rw [←hw];split<;>omega
   have w4:w=gI fs y.1\/w=y.2.1+1:=by rw [←hw];split<;>omega
   have sm:=Lw (ds:=fs) (h:=y.1) (v:=w) h0 (by rw [uz.1];exact h1);refine ⟨fs.set y.1.toNat w,_,rfl, ?_,Pq.trans Kp.set,uz.set h0 h1 (by omega) w2,fun i i0 i1=> ?_,fun M ml WL cl=> ?_,by omega,fun z=>absurd z (by omega),fun _=> ?_⟩
   ·show (upd H6 p (.lst ((fs.map V.int).set y.1.toNat (V.int w)))) p=_
    rw [au,List.map_set]
   ·rw [mL h0 (by rw [uz.1];exact h1) i0]
    have:=PX i i0 i1
    by_cases e:i=y.1
    ·subst e;rw [if_pos rfl];omega
    ·rw [if_neg e];exact this
   ·intro i i0 i1
    rw [mL h0 (by rw [uz.1];exact h1) i0];have q0:=Rw M ml WL cl i i0 i1
    by_cases e:i=y.1
    ·subst e
     rw [if_pos rfl];have qe:=up M ml WL cl y.2.2.1 o0 o1;have:=cl y ym (by omega);omega
    ·rw [if_neg e];exact q0
   ·by_cases j0:j=0
    ·have:=sz j0
     subst this;omega
    ·have:=spos (by omega)
     omega
  ·rintro σ H6 ⟨fs,x,rfl,rZ,Pq,uz,PX,Rw,sle,sz,spos⟩
   have Rv:0<vs.length:=by
    cases vs with
    | nil=>cases hv
    | cons _ _=>simp
   have slt:=spos Rv;have s6:Same H H6:=fun b o e=>Pq _ _ (s5 _ _ e) (aL e hp0);refine ⟨_,rfl,_,rfl,t,c,a,p,cs,fs,ns,rfl,R.same s6,ok,rZ,uz.1,fun q' H7 hq' N7 s7=> ?_⟩;have b:=uz.sum;have be:=Vb.sum;exact ⟨_,by omega,fs,q',_,rfl,s7 _ _ rZ,aL rZ hq',N7,uz,fun i i0 i1=>Int.le_trans (ge i i0 i1) (PX i i0 i1),Rw,s6.trans s7,rfl⟩
def nT (K:PySem.W.Frag):Sp:=fun vs H Q _=>∃(t c a d:Addr) (cs ds:List Int) (ns:List Nt),vs=[.ref t,.ref d]/\RecAt H t c a cs ns/\dh cs ns/\H d=some (.lst (ds.map V.int))/\bQ cs ds /\ ∀(p:Addr) (L:List Int) (H':Hp),H p=none->H' p=some (.lst (L.map V.int))->u6 cs ns ds L->Same H H'->Q (.ref p) H'
theorem zZ {f:Addr} {fd:FuncData} (F:jq K "greatest_cut" "greatest_cut" bU f fd) (bH:FnAt P w K mg base 4 "check_notes" ["record"] (gC K)) (g8:FnAt P w K mg base 3 "check_done" ["record","done"] (lX K)) (cY:FnAt P w K mg base 2 "broken_notes" ["record","done"] (lY K)) (Bt:nA mg):cH P w K mg base iZ 5 f fd ["record","some"] (nT K):=by
 refine F.ok eG (fun vs H Q E h=> ?_) (fun cdv A outer s H vs Q E hr h=> ?_)
 ·obtain ⟨t,c,a,d,cs,ds,ns,rfl,_⟩:=h
  rfl
 ·obtain ⟨t,c,a,d,cs,ds,ns,rfl,R,ok,hd,rH,k⟩:=h
  have cX:=hr.units
  refine ⟨_,(aB (cg (aN bH (hr.mono (by decide)) (by rfl) (aj (pv 0) aA)))
   (aB (cg (aN g8 (hr.mono (by decide)) (by rfl) (aj (pv 0) (aj (pv 1) aA))))
   (aB (aO (i:=2) eG.nd rfl (Or.inl rfl) (fP (dJ (K:=K) rfl) (by rfl) Bt.lG jm (aj (pv 1) aA)))
   (aB (aO (i:=3) eG.nd rfl (Or.inl rfl) (aN cY (hr.mono (by decide)) (by rfl) (aj (pv 0) (aj (pv 2) aA))))
   (aB (tQ PassesOwn.never (m9 (K:=K) rfl (pv 3)) (aB (gP PassesOwn.never rfl (bM (K:=K) rfl (pv 3)) (bh (i:=4) eG.nd rfl (Or.inl rfl))
   (aC (nU (aV (Ir rfl) (by rfl) Bt.XQ Ut (aj (aK (aM (K:=K) rfl) (pv 2) (aK (aG (K:=K) rfl) (pv 4) ao (fun _ _=>rfl)) (fun _ _=>rfl)) (aj (aK (aG (K:=K) rfl) (pv 4) ao (fun _ _=>rfl)) aA))) (nW (pv 2) (aK (aG (K:=K) rfl) (pv 4) ao (fun _ _=>rfl)) set_list))))
   (aC (aO (i:=3) eG.nd rfl (Or.inl rfl) (aN cY (hr.mono (by decide)) (by rfl) (aj (pv 0) (aj (pv 2) aA)))))))
   (aC (aP (pv 2)))))))), ?_⟩
  refine ⟨_,rfl,t,c,a,cs,ns,rfl,R,ok,fun H1 s1=> ?_⟩;refine ⟨_,rfl,_,rfl,t,c,a,d,cs,ds,ns,rfl,R.same s1,ok.1,s1 _ _ hd,rH,fun H2 s2=> ?_⟩;have s12:=s1.trans s2;refine ⟨_,rfl,d,_,rfl,.inl (aZ.of (s12 _ _ hd)),fun p hp=> ?_⟩;have s3:=aD (o:=HO.lst (ds.map V.int)) hp;have qb:=s12.trans s3;have hp0:H p=none:=s12.free hp;refine ⟨_,rfl,_,rfl,t,c,a,p,cs,ds,ns,rfl,R.same qb,ok,au,rH.1,fun q H4 hq N4 s4=> ?_⟩;have Ss:=qb.trans s4;have nl:=ok.2.1
  refine ⟨fun m σ H5=>∃(es:List Int) (q:Addr) (x:Option V),σ=[some (.ref t),some (.ref d),some (.ref p),some (.ref q),x]/\H5 p=some (.lst (es.map V.int))/\p≠q/\cJ H5 q (brk es ns)/\bQ cs es/\lJ cs.length es ds/\(∀M:List Int,M.length=cs.length->lJ cs.length M ds->closed ns M->lJ cs.length M es)/\Same H H5/\m=es.sum.toNat,
   ⟨_,ds,q,none,rfl,s4 _ _ au,aL au hq,N4,rH,lJ.refl _ _,fun M _ h _=>h,Ss,rfl⟩, ?_⟩
  rintro m σ H5 ⟨es,q,x,rfl,Lq,Yw,N5,Vb,ge,up,s5,rfl⟩;obtain ⟨vs,uo,dv⟩:=id N5;have vl:vs.length=(brk es ns).length:=by rw [dv.length,List.length_map]
  refine ⟨_,rfl, !vs.isEmpty,.inl ⟨vs,aZ.of uo,rfl⟩, ?_⟩
  by_cases e0:brk es ns=[]
  ·have:vs=[]:=List.length_eq_zero_iff.mp (by rw [vl,e0];rfl)
   subst this;refine b_ ?_;exact ⟨_,rfl,k p es H5 hp0 Lq ⟨Vb,ge,yO.mp e0,up⟩ s5⟩
  have hv:(!vs.isEmpty)=true:=by
   cases vs with
   | nil=>exact absurd (List.length_eq_zero_iff.mp vl.symm) e0
   | cons _ _=>rfl
  rw [hv];refine fX ?_;refine ⟨fun σ' H'=>∃m',m'<es.sum.toNat /\ ∃(es':List Int) (q:Addr) (x:Option V),σ'=[some (.ref t),some (.ref d),some (.ref p),some (.ref q),x]/\H' p=some (.lst (es'.map V.int))/\p≠q/\cJ H' q (brk es' ns)/\bQ cs es'/\lJ cs.length es' ds/\(∀M:List Int,M.length=cs.length->lJ cs.length M ds->closed ns M->lJ cs.length M es')/\Same H H'/\m'=es'.sum.toNat,fun _ _ h=>h, ?_⟩;refine ⟨_,rfl,q,rfl,⟨_,aZ.of uo⟩, ?_⟩
  refine jD (K:=K) (a:=q) (xs:=vs) (fun j σ H6=>∃(fs:List Int) (x:Option V),σ=[some (.ref t),some (.ref d),some (.ref p),some (.ref q),x]/\H6 p=some (.lst (fs.map V.int))/\Kp p H5 H6/\bQ cs fs/\lJ cs.length fs es/\(∀M:List Int,M.length=cs.length->lJ cs.length M ds->closed ns M->lJ cs.length M fs)/\fs.sum<=es.sum/\(j=0->fs=es)/\(0<j->fs.sum<es.sum))
   ⟨es,x,rfl,Lq,Kp.refl _ _,Vb,lJ.refl _ _,up,Int.le_refl _,fun _=>rfl,fun z=>absurd z (Nat.lt_irrefl _)⟩ (fun j σ H6 _ ⟨_,_,_,_,kp,_⟩=>aZ.of (kp _ _ uo Yw.symm)) ?_ ?_
  ·rintro j v σ H6 hj ⟨fs,x,rfl,rZ,Pq,uz,PX,Rw,sle,sz,spos⟩
   obtain ⟨y,u,ey,rfl,hy⟩:=eV dv hj;obtain ⟨ym,y2,y3⟩:=Ft (List.mem_of_getElem? ey);obtain ⟨⟨h0,h1⟩,⟨k0,k1⟩,⟨o0,o1⟩,⟨m0,m1⟩,hne⟩:=ok.2.2 y ym;have Ub:=Pq.tups Lq _ _ hy;refine ⟨_,rfl,_,rfl,_,_,_,_,rfl,rfl,bL.of Ub,rfl,_,_,_,_,rfl,rfl,aZ.of rZ,jU o0 (by rw [uz.1];exact o1),_,rfl,_,_,_,_,rfl,rfl,bL.of Ub,rfl,_,_,rfl,_,rfl,_,rfl,_,_,_,_,rfl,rfl,bL.of Ub,rfl,_,_,_,_,rfl,rfl,rZ,pF o0 (by rw [List.length_map,uz.1];exact o1), ?_⟩;have qf:=uz.2 y.2.2.1 o0 o1;have gq:=PX y.2.2.1 o0 o1;generalize hw:(if y.2.2.2<gI fs y.2.2.1 then y.2.2.2 else gI fs y.2.2.1)=w;have w1:w<=gI fs y.2.2.1:=by rw [←hw];split<;>omega
   have w2:0<=w:=by rw [←hw];split<;>omega
   have w3:w<=y.2.2.2:=by rw [←hw];split<;>omega
   have w4:w=gI fs y.2.2.1\/w=y.2.2.2:=by rw [←hw];split<;>omega
   have sm:=Lw (ds:=fs) (h:=y.2.2.1) (v:=w) o0 (by rw [uz.1];exact o1);refine ⟨fs.set y.2.2.1.toNat w,_,rfl, ?_,Pq.trans Kp.set,uz.set o0 o1 w2 (by omega),fun i i0 i1=> ?_,fun M ml WL cl=> ?_,by omega,fun z=>absurd z (by omega),fun _=> ?_⟩
   ·show (upd H6 p (.lst ((fs.map V.int).set y.2.2.1.toNat (V.int w)))) p=_
    rw [au,List.map_set]
   ·rw [mL o0 (by rw [uz.1];exact o1) i0]
    have:=PX i i0 i1
    by_cases e:i=y.2.2.1
    ·subst e;rw [if_pos rfl];omega
    ·rw [if_neg e];exact this
   ·intro i i0 i1
    rw [mL o0 (by rw [uz.1];exact o1) i0];have q0:=Rw M ml WL cl i i0 i1
    by_cases e:i=y.2.2.1
    ·subst e
     rw [if_pos rfl];have qe:=up M ml WL cl y.1 h0 h1
     have:¬y.2.2.2<gI M y.2.2.1:=fun z=>by
      have:=cl y ym z;omega
     omega
    ·rw [if_neg e];exact q0
   ·by_cases j0:j=0
    ·have:=sz j0
     subst this;omega
    ·have:=spos (by omega)
     omega
  ·rintro σ H6 ⟨fs,x,rfl,rZ,Pq,uz,PX,Rw,sle,sz,spos⟩
   have Rv:0<vs.length:=by
    cases vs with
    | nil=>cases hv
    | cons _ _=>simp
   have slt:=spos Rv;have s6:Same H H6:=fun b o e=>Pq _ _ (s5 _ _ e) (aL e hp0);refine ⟨_,rfl,_,rfl,t,c,a,p,cs,fs,ns,rfl,R.same s6,ok,rZ,uz.1,fun q' H7 hq' N7 s7=> ?_⟩;have b:=uz.sum;exact ⟨_,by omega,fs,q',_,rfl,s7 _ _ rZ,aL rZ hq',N7,uz,fun i i0 i1=>Int.le_trans (PX i i0 i1) (ge i i0 i1),Rw,s6.trans s7,rfl⟩
def jT (ws:List d7) (n:Nat):List Int:=(List.range n).map fun h:Nat=>cnt ws (h:Int)
theorem Ip (ws:List d7) (h:Int):cnt ws h=(((ws.map fun x=>x.1).count h:Nat):Int):=by
 unfold cnt;congr 1
 induction ws with
 | nil=>rfl
 | cons x ws ih=>
   rw [List.filter_cons,List.map_cons,List.count_cons,←ih]
   by_cases e:x.1=h
   ·subst e;simp
   ·simp [e]
def Qu (many:Int) (ws:List d7):Prop:=(0<=many/\many<=8) /\ ∀x∈ws,x.1<many
def xO (K:PySem.W.Frag):Sp:=fun vs H Q _=>∃(many:Int) (a:Addr) (ws:List d7),vs=[.int many,.ref a]/\mV H a ws/\ws.length<=300/\(∀x∈ws,0<=x.1/\x.1<8)/\Qu many ws /\
 ∀(t c n:Addr) (ns:List Nt) (H':Hp),H t=none->H c=none->H n=none->c≠n->H' t=some (.tup [.ref c,.ref n])->H' c=some (.lst ((jT ws many.toNat).map V.int))->cJ H' n ns->ns.Perm (qN ws ws.length)->Qy ns->Same H H'->Q (.ref t) H'
theorem Du {α β:Type} (l:List α) (f:α->β):(List.range l.length).filterMap (fun i=>(l[i]?).map f)=l.map f:=by
 have e:(fun i:Nat=>(l[i]?).map f)=fun i:Nat=>(l[i]?).bind fun x=>some (f x):=funext fun i=>by cases l[i]? <;> rfl
 rw [e,LK,←List.filterMap_eq_map];rfl
theorem Uj (n:Nat) (f:Nat->Int):(List.range n).filterMap (fun i=>some (V.int (f i)))=((List.range n).map f).map V.int:=by
 rw [List.map_map,←List.filterMap_eq_map];rfl
theorem Ku {f:Addr} {fd:FuncData} (F:jq K "record_of" "record_of" dB f fd) (jF:FnAt P w K mg base 1 "is_whole" ["value"] (JG K)) (dM:FnAt P w K mg base 2 "is_below" ["value","count"] (mZ K)) (QC:FnAt P w K mg base 4 "notes" ["web"] (xP K)) (jo:Gv mg "MOST_HANDS" (.int 8)) (Bt:nA mg):cH P w K mg base iZ 5 f fd ["hands","web"] (xO K):=by
 refine F.ok oO (fun vs H Q E h=> ?_) (fun cdv A outer s H vs Q E hr h=> ?_)
 ·obtain ⟨many,a,ws,rfl,_⟩:=h
  rfl
 ·obtain ⟨many,a,ws,rfl,W,wl,U6,⟨⟨m0,m8⟩,al⟩,k1⟩:=h
  refine ⟨_,(aB (cj (PW.pt (iJ (cW (cT (aN jF (hr.mono (by decide)) (by rfl) (aj (pv 0) aA)))) (gO (cW (J5 tW tW ao (pv 0) (Oo (by rfl) jo.choose_spec.1 jo.choose_spec.2)))))) (aC jA) bw)
   (aB (aO (i:=2) oO.nd rfl (Or.inr rfl) (cU rfl (N:=["touch"]) (own:=["touch"]) (caps:=[]) (aQ.of (by kernel_rfl)) (bM (K:=K) rfl (pv 1)) (fun _ _ _ _=>(bh (i:=0) (show List.Nodup (["touch"]:List Str) by decide +kernel) rfl (Or.inl rfl))) (fun _ _ _ _=>cZ) (fun _ _ _ _=>(aK (aG (K:=K) rfl) (pv 0) ao (fun _ _=>rfl)))))
   (aB (cj (cW (cT (aV (bZ (K:=K) rfl rfl) (by rfl) Bt.rm mU (aj (cU rfl (N:=["doer","hands"]) (own:=["doer"]) (caps:=[0]) (aQ.of (by kernel_rfl)) (bM (K:=K) rfl (pv 2)) (fun _ _ _ _=>(bh (i:=0) (show List.Nodup (["doer","hands"]:List Str) by decide +kernel) rfl (Or.inl rfl))) (fun _ _ _ _=>cZ) (fun _ _ _ _=>(aN dM (hr.mono (by decide)) (by rfl) (aj (pv 0) (aj (pv 1) aA))))) aA)))) (aC jA) bw)
   (aC (aP (jP (aj (cU rfl (N:=["hand","doers"]) (own:=["hand"]) (caps:=[2]) (aQ.of (by kernel_rfl)) (fO (by rfl) Bt.iH (aj (pv 0) aA)) (fun _ _ _ _=>(bh (i:=0) (show List.Nodup (["hand","doers"]:List Str) by decide +kernel) rfl (Or.inl rfl))) (fun _ _ _ _=>cZ) (fun _ _ _ _=>(lA (K:=K) rfl PySem.F.plainAttrs_list PySem.F.slot_list_count PySem.F.type_list_count (ni (K:=K) rfl) (pv 1) (aj (pv 0) aA)))) (aj (aN QC (hr.mono (by decide)) (by rfl) (aj (pv 1) aA)) aA)))))))), ?_⟩
  obtain ⟨vs,ha,dv⟩:=id W;have vl:vs.length=ws.length:=by rw [dv.length,List.length_map]
  refine ⟨_,rfl,many,rfl,_,rfl, ?_⟩;refine b_ ?_;refine ⟨_,rfl,_,_,rfl,rfl,_,rfl, ?_⟩;refine iM (fun _=> ?_) (fun z=>absurd (decide_eq_true m0) z);refine ⟨_,_,rfl,rfl,_,rfl, ?_⟩;rw [decide_eq_true m8];refine b_ ?_;refine ⟨_,rfl,a,rfl,⟨_,aZ.of ha⟩,fun D hD=> ?_⟩;refine eN (K:=K) (fun i=>(ws[i]?).map fun x=>V.int x.1) hD (aZ.of ha) (by omega) (fun i v H2 G F hi s2 kG kF=> ?_) (fun H2 s2 e2=> ?_)
  ·obtain ⟨dd,ed,dy⟩:=dv.get hi
   rw [List.getElem?_map] at ed;cases ex:ws[i]? with
   | none=>rw [ex] at ed;cases ed
   | some x=>
     rw [ex] at ed;cases ed;obtain ⟨t,rfl,ht⟩:=jM dy;exact ⟨_,rfl,_,_,_,_,rfl,rfl,bL.of (s2 _ _ ht),rfl,kF _ H2 (Same.refl _) (by rw [ex];rfl)⟩
  have e2':H2 D=some (.lst ((ws.map fun x=>x.1).map V.int)):=by
   rw [e2,vl,Du,List.map_map];rfl
  have hD0:=hD;refine ⟨_,rfl,D,rfl,⟨_,aZ.of e2'⟩,fun B hB=> ?_⟩;refine eN (K:=K) (fun i=>(ws[i]?).map fun x=>V.bl (decide (BK x.1 many.toNat))) hB (aZ.of e2') (by rw [List.length_map,List.length_map];omega) (fun i v H3 G F hi s3 kG kF=> ?_) (fun H3 s3 e3=> ?_)
  ·rw [List.getElem?_map,List.getElem?_map] at hi
   cases ex:ws[i]? with
   | none=>rw [ex] at hi;cases hi
   | some x=>
     rw [ex] at hi;cases hi;refine ⟨_,rfl,_,rfl,x.1,many.toNat,by rw [show ((many.toNat:Nat):Int)=many by omega];rfl, ?_⟩;exact kF _ H3 (Same.refl _) (by rw [ex];rfl)
  have e3':H3 B=some (.lst ((ws.map fun x=>decide (BK x.1 many.toNat)).map V.bl)):=by
   rw [e3,List.length_map,List.length_map,Du,List.map_map];rfl
  have GQ:=s2.trans s3;refine ⟨B,_,rfl,aZ.of e3',_,rfl, ?_⟩
  have ea:(ws.map fun x=>decide (BK x.1 many.toNat)).all id=true:=by
   rw [List.all_map,List.all_eq_true];intro x hx;exact decide_eq_true (p:=BK x.1 many.toNat) ⟨(U6 x hx).1,by have:=al x hx;omega⟩
  rw [ea];refine b_ ?_;have hD3:=s3 _ _ e2';refine ⟨_,rfl,many,rfl,by omega,by omega,fun c hc=> ?_⟩;refine j7 (fun (i:Nat)=>some (V.int (((ws.map fun x=>x.1).count (0+(i:Int)):Nat):Int))) hc (by omega) (fun j H4 G F hj s4 kG kF=> ?_) (fun H4 s4 e4=> ?_)
  ·exact ⟨_,rfl,.inl ⟨rfl,_,aZ.of (s4 _ _ hD3)⟩,_,rfl,D,_,_,rfl,rfl,aZ.of (s4 _ _ hD3),kF _ H4 (Same.refl _) rfl⟩
  have e4':H4 c=some (.lst ((jT ws many.toNat).map V.int)):=by
   rw [e4,Uj];unfold jT;congr 3;refine List.map_congr_left fun i _=> ?_;rw [Ip,Int.zero_add]
  have Yq:=GQ.trans s4;refine ⟨_,rfl,a,ws,rfl,W.same Yq,wl,U6,fun n ns H5 hn NN pp ss s5=> ?_⟩;refine ⟨(by show 2<=sizeLine;decide),fun t ht=> ?_⟩;have s6:=aD (o:=HO.tup [V.ref c,V.ref n]) ht;exact k1 t c n ns _ ((Yq.trans s5).free ht) (GQ.free hc) (Yq.free hn) (aL e4' hn) au (s6 _ _ (s5 _ _ e4')) (NN.same s6) pp ss ((Yq.trans s5).trans s6)
theorem pK (x y:Int):PyData.eqv (.int x) (.int y)=decide (x=y):=by
 simp only [PyData.eqv];rw [Bool.eq_iff_iff];simp
theorem fZ {H:Hp} {a:Addr} {ns:List Int} (h:H a=some (.lst (ns.map V.int))):Dat H (.ref a) (.list (ns.map PyData.int)):=gR h (aF.ints ns)
theorem shaped_ints (ns:List Int):SeqAt.shaped (.list (ns.map PyData.int))=true:=qT PyData.int 0 (by decide) (fun _ _=>rfl) (fun _ _=>by show 0<=0;decide)
def ft (x:Nt):IV:=(x.1,x.2.1)
def bW (ns:List Nt) (o m:Int):List IV:=(ns.filter fun x=>decide (x.2.2.1=o)&&decide (x.2.2.2=m)).map ft
theorem vQ (ns:List Nt) (x:Nt) (o m:Int):bW (ns++[x]) o m=bW ns o m++(if x.2.2.1=o/\x.2.2.2=m then [ft x] else []):=by
 unfold bW;rw [List.filter_append,List.map_append];congr 1
 by_cases e:x.2.2.1=o/\x.2.2.2=m
 ·simp [e.1,e.2]
 ·rw [if_neg e]
  by_cases e1:x.2.2.1=o
  ·have e2:¬x.2.2.2=m:=fun z=>e ⟨e1,z⟩
   simp [e2]
  ·simp [e1]
def j_ (H:Hp) (f:Addr) (ns:List Nt):Prop:=∃kvs,H f=some (.dT kvs) /\ ∀o m:Int,(cD kvs [Sum.inl o,Sum.inl m]=none/\bW ns o m=[]) \/ ∃l,cD kvs [Sum.inl o,Sum.inl m]=some (.ref l)/\iU H l (bW ns o m)
theorem j_.same {H H':Hp} {f:Addr} {ns:List Nt} (h:j_ H f ns) (k:Same H H'):j_ H' f ns:=by
 obtain ⟨kvs,e,q⟩:=h;refine ⟨kvs,k _ _ e,fun o m=> ?_⟩;rcases q o m with z|⟨l,e1,e2⟩
 ·exact .inl z
 ·exact .inr ⟨l,e1,e2.same k⟩
def oM (K:PySem.W.Frag):Sp:=fun vs H Q _=>∃(t c a:Addr) (cs:List Int) (ns:List Nt),vs=[.ref t]/\RecAt H t c a cs ns/\dh cs ns /\ ∀(f:Addr) (H':Hp),H f=none->j_ H' f ns->Same H H'->Q (.ref f) H'
theorem Ho {f:Addr} {fd:FuncData} (F:jq K "firsts_of" "firsts_of" dF f fd):cH P w K mg base iZ 1 f fd ["record"] (oM K):=by
 refine F.ok kO (fun vs H Q E h=> ?_) (fun cdv A outer s H vs Q E hr h=> ?_)
 ·obtain ⟨t,c,a,cs,ns,rfl,_⟩:=h
  rfl
 ·obtain ⟨t,c,a,cs,ns,rfl,R,ok,k⟩:=h
  have hu:=lM hr;obtain ⟨ht,hc,Q6,ha,dn⟩:=id R;have V6:Q6.length=ns.length:=by rw [dn.length,List.length_map]
  have nl:=ok.2.1
  refine ⟨_,(aB (aO (i:=1) kO.nd rfl (Or.inl rfl) zR)
   (aB (gP PassesOwn.never rfl (bM (K:=K) rfl (aK (aG (K:=K) rfl) (pv 0) ao (fun _ _=>rfl))) (bh (i:=2) kO.nd rfl (Or.inl rfl))
   (aC (cg (jB (K:=K) rfl (Kd hu (pv 1) (cM (gj (K:=K) rfl) (pv 2) (dN ao) dO) (dX aA) ⟨rfl,rfl,rfl,rfl⟩) (aj (cM (gj (K:=K) rfl) (pv 2) dO (dN ao)) aA)))))
   (aC (aP (pv 1))))), ?_⟩
  intro f hf;have s1:=aD (o:=HO.dT []) hf;refine ⟨_,rfl,_,_,_,_,rfl,rfl,bL.of (s1 _ _ ht),rfl,a,rfl,⟨_,aZ.of (s1 _ _ ha)⟩, ?_⟩
  refine jD (K:=K) (a:=a) (xs:=Q6) (fun i σ H2=>∃(x:Option V) (kvs:List (List Key×V)),σ=[some (.ref t),some (.ref f),x]/\Same H H2/\H2 f=some (.dT kvs)/\kvs.length<=i /\
   (∀o m:Int,(cD kvs [Sum.inl o,Sum.inl m]=none/\bW (ns.take i) o m=[]) \/ ∃l,cD kvs [Sum.inl o,Sum.inl m]=some (.ref l)/\iU H2 l (bW (ns.take i) o m)/\H l=none/\l≠f) /\
   (∀(o m o' m':Int) l,cD kvs [Sum.inl o,Sum.inl m]=some (.ref l)->cD kvs [Sum.inl o',Sum.inl m']=some (.ref l)->o=o'/\m=m'))
   ⟨none,[],rfl,s1,au,Nat.zero_le _,fun o m=> .inl ⟨rfl,rfl⟩,fun o m o' m' l h=>by cases h⟩ (fun i σ H2 _ ⟨_,_,_,sm,_⟩=>aZ.of (sm _ _ ha)) ?_ ?_
  ·rintro i v σ H2 hi ⟨x0,kvs,rfl,sm,hF,kl,hval,inj⟩
   obtain ⟨x,w,ex,rfl,hx⟩:=eV dn hi;have il:i<Q6.length:=(List.getElem?_eq_some_iff.mp hi).1;have hx2:=sm _ _ hx;have tk:ns.take (i+1)=ns.take i++[x]:=by rw [List.take_add_one,ex];rfl
   refine Ax (fun v H3=>∃l yC,v = .ref l/\Same H H3/\(∀a xs,H2 a=some (HO.tup xs)->H3 a=some (HO.tup xs))/\H3 f=some (.dT yC)/\yC.length<=i+1/\cD yC [Sum.inl x.2.2.1,Sum.inl x.2.2.2]=some (.ref l) /\
    (∀o m:Int,(cD yC [Sum.inl o,Sum.inl m]=none/\bW (ns.take i) o m=[]) \/ ∃l,cD yC [Sum.inl o,Sum.inl m]=some (.ref l)/\iU H3 l (bW (ns.take i) o m)/\H l=none/\l≠f) /\
    (∀(o m o' m':Int) l,cD yC [Sum.inl o,Sum.inl m]=some (.ref l)->cD yC [Sum.inl o',Sum.inl m']=some (.ref l)->o=o'/\m=m')) (fun Q' kQ=> ?_) ?_
   ·refine ⟨_,rfl,f,rfl,.inr ⟨_,.inl hF⟩,_,rfl,_,rfl,_,_,rfl,bL.of hx2,qg _ rfl,fun p1 hp1=> ?_⟩
    have c2:iQ (nV x) (some 2) none=[.int x.2.2.1,.int x.2.2.2]:=wO ..;rw [c2];have Et:=aD (o:=HO.tup [V.int x.2.2.1,V.int x.2.2.2]) hp1;refine ⟨(by show 0<=sizeLine;decide),fun e he=> ?_⟩;have JL:=aD (o:=HO.lst []) he;have s12:=Et.trans JL;refine ⟨kvs,[Sum.inl x.2.2.1,Sum.inl x.2.2.2],p1,s12 _ _ hF,rfl,JL _ _ au,by rw [sizeLine_eq];omega,fun v hv=> ?_,fun hn=> ?_⟩
    ·rcases hval x.2.2.1 x.2.2.2 with z|⟨l,e1,e2,e3,e4⟩
     ·rw [z.1] at hv;cases hv
     ·rw [e1] at hv
      cases hv;refine kQ _ _ ⟨l,kvs,rfl,sm.trans s12,s12.tups,s12 _ _ hF,by omega,e1,fun o m=> ?_,inj⟩;rcases hval o m with z|⟨l',f1,f2,f3,f4⟩
      ·exact .inl z
      ·exact .inr ⟨l',f1,f2.same s12,f3,f4⟩
    ·have kF:Kp f (upd (upd H2 p1 (.tup [V.int x.2.2.1,V.int x.2.2.2])) e (.lst [])) (upd (upd (upd H2 p1 (.tup [V.int x.2.2.1,V.int x.2.2.2])) e (.lst [])) f (.dT (putK kvs [Sum.inl x.2.2.1,Sum.inl x.2.2.2] (.ref e)))):=Kp.set
     have nef:e≠f:=fun z=>by rw [←z] at hF;rw [Et _ _ hF] at he;cases he
     have hFe:(upd (upd H2 p1 (.tup [V.int x.2.2.1,V.int x.2.2.2])) e (.lst [])) f=some (.dT kvs):=s12 _ _ hF;have he2:H2 e=none:=Et.free he;have tF:∀a xs,(upd (upd H2 p1 (.tup [V.int x.2.2.1,V.int x.2.2.2])) e (.lst [])) a=some (HO.tup xs)->(upd (upd (upd H2 p1 (.tup [V.int x.2.2.1,V.int x.2.2.2])) e (.lst [])) f (.dT (putK kvs [Sum.inl x.2.2.1,Sum.inl x.2.2.2] (.ref e)))) a=some (HO.tup xs):=fun a xs h=>kF _ _ h (iK h hFe (by intro z;cases z))
     have neq:∀o m:Int,([Sum.inl o,Sum.inl m]:List Key)=[Sum.inl x.2.2.1,Sum.inl x.2.2.2]↔o=x.2.2.1/\m=x.2.2.2:=fun o m=>by
      constructor
      ·intro z;injection z with z1 z2;injection z2 with z2 _;exact ⟨Sum.inl.inj z1,Sum.inl.inj z2⟩
      ·rintro ⟨rfl,rfl⟩;rfl
     refine kQ _ _ ⟨e,_,rfl,fun b o eb=>kF _ _ ((sm.trans s12) _ _ eb) (aL eb hf),fun a xs h=>tF _ _ (s12.tups _ _ h),au, ?_,by rw [ju,if_pos rfl],fun o m=> ?_,fun o m o' m' l h1 h2=> ?_⟩
     ·exact Nat.le_trans (dG ..) (by omega)
     ·rw [ju]
      by_cases q:o=x.2.2.1/\m=x.2.2.2
      ·rw [if_pos ((neq o m).mpr q)]
       obtain ⟨rfl,rfl⟩:=q;refine .inr ⟨e,rfl, ?_,sm.free he2,nef⟩;rcases hval x.2.2.1 x.2.2.2 with z|⟨l,e1,_⟩
       ·rw [z.2]
        exact ⟨[],kF _ _ au nef,by simp [aF]⟩
       ·rw [e1] at hn;cases hn
      ·rw [if_neg fun z=>q ((neq o m).mp z)]
       rcases hval o m with z|⟨l',f1,f2,f3,f4⟩
       ·exact .inl z
       ·refine .inr ⟨l',f1, ?_,f3,f4⟩
        obtain ⟨ws,g1,g2⟩:=f2.same s12;exact ⟨ws,kF _ _ g1 f4,aF.keep tF _ (bx _ qz _) g2⟩
     ·rw [ju] at h1 h2
      have old:∀o m:Int,cD kvs [Sum.inl o,Sum.inl m]=some (V.ref e)->False:=fun o m h=>by
       rcases hval o m with z|⟨l',f1,⟨ws,g1,_⟩,f3,f4⟩
       ·rw [z.1] at h;cases h
       ·rw [f1] at h
        cases h;rw [he2] at g1;cases g1
      by_cases q:o=x.2.2.1/\m=x.2.2.2
      ·rw [if_pos ((neq o m).mpr q)] at h1
       cases h1
       by_cases q':o'=x.2.2.1/\m'=x.2.2.2
       ·exact ⟨q.1.trans q'.1.symm,q.2.trans q'.2.symm⟩
       ·rw [if_neg fun z=>q' ((neq o' m').mp z)] at h2
        exact (old _ _ h2).elim
      ·rw [if_neg fun z=>q ((neq o m).mp z)] at h1
       by_cases q':o'=x.2.2.1/\m'=x.2.2.2
       ·rw [if_pos ((neq o' m').mpr q')] at h2
        cases h2;exact (old _ _ h1).elim
       ·rw [if_neg fun z=>q' ((neq o' m').mp z)] at h2
        exact inj _ _ _ _ _ h1 h2
   ·rintro v H3 ⟨l,yC,rfl,sm3,tp3,WK,kl3,hkey,Rf,Wd⟩
    obtain ⟨z0,PL,hl0,nlf⟩:∃z0:True,iU H3 l (bW (ns.take i) x.2.2.1 x.2.2.2)/\H l=none/\l≠f:=by
     rcases Rf x.2.2.1 x.2.2.2 with z|⟨l',f1,f2,f3,f4⟩
     ·rw [z.1] at hkey;cases hkey
     ·rw [f1] at hkey
      cases hkey;exact ⟨trivial,f2,f3,f4⟩
    obtain ⟨ws,hl3,dl3⟩:=id PL;refine ⟨.inl ⟨rfl,_,aZ.of hl3⟩,_,rfl,_,rfl,_,_,rfl,bL.of (tp3 _ _ hx2),qj _ rfl,fun p2 hp2=> ?_⟩;have c1:iQ (nV x) none (some 2)=[.int x.1,.int x.2.1]:=wQ ..;rw [c1];have sp:=aD (o:=HO.tup [V.int x.1,V.int x.2.1]) hp2
    have wl:ws.length<=ns.length:=by
     rw [dl3.length,List.length_map];unfold bW;rw [List.length_map];have a1:=List.length_filter_le (fun y:Nt=>decide (y.2.2.1=x.2.2.1)&&decide (y.2.2.2=x.2.2.2)) (ns.take i);have a2:(ns.take i).length<=ns.length:=by rw [List.length_take];omega
     omega
    refine ⟨l,ws,_,rfl,rfl,sp _ _ hl3,by rw [sizeLine_eq];omega, ?_⟩;have kL:Kp l (upd H3 p2 (.tup [V.int x.1,V.int x.2.1])) (upd (upd H3 p2 (.tup [V.int x.1,V.int x.2.1])) l (.lst (ws++[V.ref p2]))):=Kp.set;have tL:=kL.tups (sp _ _ hl3);refine ⟨_,yC,rfl,fun b o eb=>kL _ _ (sp _ _ (sm3 _ _ eb)) (aL eb hl0),kL _ _ (sp _ _ WK) nlf.symm,kl3,fun o m=> ?_,Wd⟩;rw [tk,vQ]
    by_cases q:x.2.2.1=o/\x.2.2.2=m
    ·obtain ⟨rfl,rfl⟩:=q
     rw [if_pos ⟨rfl,rfl⟩];refine .inr ⟨l,hkey,⟨_,au, ?_⟩,hl0,nlf⟩;rw [List.map_append];exact aF.append (aF.keep (fun a xs h=>tL _ _ (sp.tups _ _ h)) _ (bx _ qz _) dl3) (W3 (Gd (x:=ft x) (tL _ _ au)))
    ·rw [if_neg q,List.append_nil]
     rcases Rf o m with z|⟨l',f1,f2,f3,f4⟩
     ·exact .inl z
     ·have nll:l'≠l:=fun z=>by
       subst z;obtain ⟨e1,e2⟩:=Wd _ _ _ _ _ f1 hkey;exact q ⟨e1.symm,e2.symm⟩
      obtain ⟨us,g1,g2⟩:=f2;exact .inr ⟨l',f1,⟨us,kL _ _ (sp _ _ g1) nll,aF.keep (fun a xs h=>tL _ _ (sp.tups _ _ h)) _ (bx _ qz _) g2⟩,f3,f4⟩
  ·rintro σ H2 ⟨x0,kvs,rfl,sm,hF,kl,hval,inj⟩
   rw [V6,List.take_length] at hval;refine ⟨_,rfl,k f H2 hf ⟨kvs,hF,fun o m=> ?_⟩ sm⟩;rcases hval o m with z|⟨l,f1,f2,_⟩
   ·exact .inl z
   ·exact .inr ⟨l,f1,f2⟩
def isFree (cs:List Int) (ns:List Nt) (ds:List Int) (h:Int):Bool:= !decide (gI ds h=gI cs h)&&(bW ns h (gI ds h)).all fun q=>decide (q.2<gI ds q.1)
def xY (K:PySem.W.Frag):Sp:=fun vs H Q _=>∃(c f d:Addr) (cs ds:List Int) (ns:List Nt) (h:Int),vs=[.ref c,.ref f,.ref d,.int h]/\H c=some (.lst (cs.map V.int))/\j_ H f ns/\H d=some (.lst (ds.map V.int))/\dh cs ns/\ds.length=cs.length/\0<=h/\h<cs.length /\ ∀H',Same H H'->Q (.bl (isFree cs ns ds h)) H'
theorem CZ {f:Addr} {fd:FuncData} (F:jq K "is_free" "is_free" fK f fd) (Gm:FnAt P w K mg base 1 "has" ["done","touch"] (Es K)) (Bt:nA mg):cH P w K mg base iZ 2 f fd ["counts","firsts","done","hand"] (xY K):=by
 refine F.ok Cy (fun vs H Q E h=> ?_) (fun cdv A outer s H vs Q E hr h=> ?_)
 ·obtain ⟨c,f,d,cs,ds,ns,h,rfl,_⟩:=h
  rfl
 ·obtain ⟨c,f,d,cs,ds,ns,h,rfl,hc,FA,hd,ok,dl,h0,h1,k⟩:=h
  have hu:=lM hr;have cX:=hr.units
  refine ⟨_,(aB (cj (bf mH (aK (aM (K:=K) rfl) (pv 2) (pv 3) (fun _ _=>rfl)) (aK (aM (K:=K) rfl) (pv 0) (pv 3) (fun _ _=>rfl)) (aY _)) (aC (aP fU)) bw)
   (aC (aP (aV (bZ (K:=K) rfl rfl) (by rfl) Bt.rm mU (aj (cU rfl (N:=["first","done"]) (own:=["first"]) (caps:=[2]) (aQ.of (by kernel_rfl)) (bM (K:=K) rfl (mF hu (pv 1) (jP (aj (pv 3) (aj (aK (aM (K:=K) rfl) (pv 2) (pv 3) (fun _ _=>rfl)) aA))) (dX aA) ⟨rfl,rfl,rfl,rfl⟩)) (fun _ _ _ _=>(bh (i:=0) (show List.Nodup (["first","done"]:List Str) by decide +kernel) rfl (Or.inl rfl))) (fun _ _ _ _=>cZ) (fun _ _ _ _=>(aN Gm (hr.mono (by decide)) (by rfl) (aj (pv 1) (aj (pv 0) aA))))) aA))))), ?_⟩
  refine ⟨_,rfl,_,rfl,_,_,_,_,rfl,rfl,aZ.of hd,jU h0 (by omega),_,rfl,_,rfl,_,_,_,_,rfl,rfl,aZ.of hc,jU h0 h1,rfl,_,rfl, ?_⟩
  by_cases e:gI ds h=gI cs h
  ·rw [show decide (V.int (gI ds h)=V.int (gI cs h))=true by simp [e]]
   refine fX ?_;have:isFree cs ns ds h=false:=by simp [isFree,e]
   rw [←this];exact k H (Same.refl _)
  ·rw [show decide (V.int (gI ds h)=V.int (gI cs h))=false by simp [e]]
   refine b_ ?_;obtain ⟨kvs,hF,hval⟩:=FA;refine ⟨_,rfl,f,rfl,.inr ⟨_,.inl hF⟩,_,rfl,_,rfl,_,rfl,_,_,_,_,rfl,rfl,aZ.of hd,jU h0 (by omega),(by show 2<=sizeLine;decide),fun t ht=> ?_⟩;have s1:=aD (o:=HO.tup [V.int h,V.int (gI ds h)]) ht;refine ⟨(by show 0<=sizeLine;decide),fun el hel=> ?_⟩;have s2:=aD (o:=HO.lst []) hel;have s12:=s1.trans s2;refine ⟨_,h_.t (k:=[Sum.inl h,Sum.inl (gI ds h)]) (s12 _ _ hF) (s2 _ _ au), ?_⟩
   obtain ⟨l,el',PL⟩:∃l,(cD kvs [Sum.inl h,Sum.inl (gI ds h)]).getD (V.ref el) = .ref l/\iU (upd (upd H t (.tup [V.int h,V.int (gI ds h)])) el (.lst [])) l (bW ns h (gI ds h)):=by
    rcases hval h (gI ds h) with z|⟨l,e1,e2⟩
    ·exact ⟨el,by rw [z.1];rfl,by rw [z.2];exact ⟨[],au,by simp [aF]⟩⟩
    ·exact ⟨l,by rw [e1];rfl,e2.same s12⟩
   rw [el'];obtain ⟨vs,hl,dv⟩:=id PL;have vl:vs.length=(bW ns h (gI ds h)).length:=by rw [dv.length,List.length_map]
   have fl:(bW ns h (gI ds h)).length<=ns.length:=by unfold bW;rw [List.length_map];exact List.length_filter_le ..
   have nl:=ok.2.1;refine ⟨l,rfl,⟨_,aZ.of hl⟩,fun D hD=> ?_⟩;refine eN (K:=K) (fun i=>((bW ns h (gI ds h))[i]?).map fun q=>V.bl (decide (q.2<gI ds q.1))) hD (aZ.of hl) (by omega) (fun i v H3 G F hi s3 kG kF=> ?_) (fun H3 s3 e3=> ?_)
   ·obtain ⟨q,u,eq,rfl,hq⟩:=Og dv hi
    have qm:∃x∈ns,q=ft x:=by
     obtain ⟨x,hx,e⟩:=List.mem_map.mp (List.mem_of_getElem? eq);exact ⟨x,(List.mem_filter.mp hx).1,e.symm⟩
    obtain ⟨x,xm,rfl⟩:=qm;obtain ⟨⟨a0,a1⟩,_⟩:=ok.2.2 x xm;refine ⟨_,rfl,_,rfl,d,u,ds,x.1,x.2.1,rfl,s3 _ _ (s12 _ _ hd),s3 _ _ hq,a0,by omega,kF _ H3 (Same.refl _) ?_⟩;rw [eq];rfl
   ·rw [vl,sE] at e3
    refine ⟨D,(bW ns h (gI ds h)).map (fun q=>decide (q.2<gI ds q.1)),rfl,aZ.of (by rw [e3,List.map_map];rfl), ?_⟩
    have:isFree cs ns ds h=((bW ns h (gI ds h)).map (fun q=>decide (q.2<gI ds q.1))).all id:=by
     unfold isFree;rw [List.all_map];simp [e]
    rw [←this];exact k H3 (s12.trans s3)
def jL (cs:List Int) (ns:List Nt) (ds:List Int):List Int:=(List.range cs.length).filterMap fun (i:Nat)=>if isFree cs ns ds (i:Int) then some (i:Int) else none
theorem Ih (cs:List Int) (ns:List Nt) (ds:List Int):(List.range cs.length).filterMap (fun (i:Nat)=>if isFree cs ns ds (i:Int) then some (V.int (0+(i:Int))) else none)=(jL cs ns ds).map V.int:=by
 unfold jL;rw [List.map_filterMap];refine j6 _ trivial fun i _=> ?_
 by_cases q:isFree cs ns ds (i:Int)=true
 ·rw [if_pos q,if_pos q];simp
 ·rw [if_neg q,if_neg q];rfl
theorem qu {cs:List Int} {ns:List Nt} {ds:List Int} {h:Int}:h∈jL cs ns ds↔0<=h/\h<cs.length/\isFree cs ns ds h=true:=by
 unfold jL;rw [List.mem_filterMap];constructor
 ·rintro ⟨i,hi,e⟩
  have hi':i<cs.length:=by simpa using hi
  by_cases q:isFree cs ns ds (i:Int)=true
  ·rw [if_pos q] at e
   cases e;exact ⟨by omega,by omega,q⟩
  ·rw [if_neg q] at e
   cases e
 ·rintro ⟨h0,h1,q⟩
  refine ⟨h.toNat,by simp;omega, ?_⟩;rw [show ((h.toNat:Nat):Int)=h by omega,if_pos q]
def xX (K:PySem.W.Frag):Sp:=fun vs H Q _=>∃(c f d:Addr) (cs ds:List Int) (ns:List Nt),vs=[.ref c,.ref f,.ref d]/\H c=some (.lst (cs.map V.int))/\j_ H f ns/\H d=some (.lst (ds.map V.int))/\dh cs ns/\ds.length=cs.length /\ ∀(p:Addr) (H':Hp),H p=none->H' p=some (.lst ((jL cs ns ds).map V.int))->Same H H'->Q (.ref p) H'
theorem vL {f:Addr} {fd:FuncData} (F:jq K "free_hands" "free_hands" cP f fd) (qP:FnAt P w K mg base 2 "is_free" ["counts","firsts","done","hand"] (xY K)) (Bt:nA mg):cH P w K mg base iZ 3 f fd ["counts","firsts","done"] (xX K):=by
 refine F.ok vH (fun vs H Q E h=> ?_) (fun cdv A outer s H vs Q E hr h=> ?_)
 ·obtain ⟨c,f,d,cs,ds,ns,rfl,_⟩:=h
  rfl
 ·obtain ⟨c,f,d,cs,ds,ns,rfl,hc,FA,hd,ok,dl,k⟩:=h
  have c8:=ok.1.1;refine ⟨_,(aC (aP (cU rfl (N:=["hand","counts","firsts","done"]) (own:=["hand"]) (caps:=[0,1,2]) (aQ.of (by kernel_rfl)) (fO (by rfl) Bt.iH (aj (aV (aU (K:=K) rfl) (by rfl) Bt.fV dj (aj (pv 0) aA)) aA)) (fun _ _ _ _=>(bh (i:=0) (show List.Nodup (["hand","counts","firsts","done"]:List Str) by decide +kernel) rfl (Or.inl rfl))) (fun _ _ _ _=>(oY (cT (aN qP (hr.mono (by decide)) (by rfl) (aj (pv 1) (aj (pv 2) (aj (pv 3) (aj (pv 0) aA)))))))) (fun _ _ _ _=>(pv 0))))), ?_⟩;refine ⟨_,rfl,c,_,rfl,.inl (aZ.of hc),_,rfl,by rw [List.length_map];omega,by rw [List.length_map];omega,fun D hD=> ?_⟩;have Ph:(((cs.map V.int).length:Nat):Int).toNat=cs.length:=by simp
  rw [Ph];refine j7 (fun (i:Nat)=>if isFree cs ns ds (i:Int) then some (V.int (0+(i:Int))) else none) hD (by omega) (fun j H3 G F hj s3 kG kF=> ?_) (fun H3 s3 e3=> ?_)
  ·refine ⟨_,rfl,_,rfl,_,rfl,_,rfl,c,f,d,cs,ds,ns,0+(j:Int),rfl,s3 _ _ hc,FA.same s3,s3 _ _ hd,ok,dl,by omega,by omega,fun H4 s4=>⟨_,rfl, ?_⟩⟩
   have ej:(0+(j:Int))=(j:Int):=by omega
   rw [ej]
   by_cases q:isFree cs ns ds (j:Int)=true
   ·rw [q]
    refine fX ⟨_,rfl,kF _ H4 s4 ?_⟩;rw [if_pos q,ej]
   ·have q':isFree cs ns ds (j:Int)=false:=by simpa using q
    rw [q'];exact b_ (kG H4 s4 (if_neg q))
  ·rw [Ih] at e3
   exact k D H3 hD e3 s3
def stp (ds:List Int) (h:Int):List Int:=ds.set h.toNat (gI ds h+1)
def runK (cs:List Int) (ns:List Nt):List Int->List Int->Bool
 | [],_=>true
 | h::os,ds=>if isFree cs ns ds h then runK cs ns os (stp ds h) else false
def zs (cs:List Int):List Int:=List.replicate cs.length 0
def inR (cs os:List Int):Prop:=∀h∈os,0<=h/\h<cs.length
def iI (cs os:List Int):Prop:=inR cs os/\os.length<=2400 /\ ∀h:Int,0<=h->h<cs.length->(os.count h:Int)=gI cs h
def sX (K:PySem.W.Frag):Sp:=fun vs H Q _=>∃(t c a o:Addr) (cs os:List Int) (ns:List Nt),vs=[.ref t,.ref o]/\RecAt H t c a cs ns/\Ed cs/\H o=some (.lst (os.map V.int))/\iI cs os /\ ∀H',Same H H'->Q .non H'
theorem tY {f:Addr} {fd:FuncData} (F:jq K "check_order" "check_order" cA f fd) (dM:FnAt P w K mg base 2 "is_below" ["value","count"] (mZ K)) (Bt:nA mg):cH P w K mg base iZ 3 f fd ["record","order"] (sX K):=by
 refine F.ok mj (fun vs H Q E h=> ?_) (fun cdv A outer s H vs Q E hr h=> ?_)
 ·obtain ⟨t,c,a,o,cs,os,ns,rfl,_⟩:=h
  rfl
 ·obtain ⟨t,c,a,o,cs,os,ns,rfl,⟨ht,hc,hN⟩,ok,ho,oo,k⟩:=h
  have cX:=hr.units;have c8:=ok.1;have ol:=oo.2.1
  refine ⟨_,(aB (aO (i:=2) mj.nd rfl (Or.inr rfl) (aV (aU (K:=K) rfl) (by rfl) Bt.fV dj (aj (aK (aG (K:=K) rfl) (pv 0) ao (fun _ _=>rfl)) aA)))
   (aB (cj (PW.pt (iJ (cW (cT (aV (j8 (K:=K) (cv:= .ty "list") (c:= .type "list") rfl rfl) (by rfl) Bt.gU gb (aj (pv 1) (aj (o8 (v:= .ty "list") (by rfl) Bt.lG jm rfl) aA))))) (gO (cW (cT (aV (bZ (K:=K) rfl rfl) (by rfl) Bt.rm mU (aj (cU rfl (N:=["hand","hands"]) (own:=["hand"]) (caps:=[2]) (aQ.of (by kernel_rfl)) (bM (K:=K) rfl (pv 1)) (fun _ _ _ _=>(bh (i:=0) (show List.Nodup (["hand","hands"]:List Str) by decide +kernel) rfl (Or.inl rfl))) (fun _ _ _ _=>cZ) (fun _ _ _ _=>(aN dM (hr.mono (by decide)) (by rfl) (aj (pv 0) (aj (pv 1) aA))))) aA))))))) (aC jA) bw)
   (aC (cj (bf (m_ (K:=K) rfl cX) (cU rfl (N:=["hand","order"]) (own:=["hand"]) (caps:=[1]) (aQ.of (by kernel_rfl)) (fO (by rfl) Bt.iH (aj (pv 2) aA)) (fun _ _ _ _=>(bh (i:=0) (show List.Nodup (["hand","order"]:List Str) by decide +kernel) rfl (Or.inl rfl))) (fun _ _ _ _=>cZ) (fun _ _ _ _=>(lA (K:=K) rfl PySem.F.plainAttrs_list PySem.F.slot_list_count PySem.F.type_list_count (ni (K:=K) rfl) (pv 1) (aj (pv 0) aA)))) (aK (aG (K:=K) rfl) (pv 0) ao (fun _ _=>rfl)) (aY _)) (aC jA) bw)))), ?_⟩
  refine ⟨_,rfl,_,_,_,_,rfl,rfl,bL.of ht,rfl,c,_,rfl,.inl (aZ.of hc), ?_⟩;refine ⟨_,rfl,_,_,true,rfl,.lst ho,nM K,true,rfl, ?_⟩;refine b_ ?_;refine ⟨_,rfl,o,rfl,⟨_,aZ.of ho⟩,fun D hD=> ?_⟩;refine eN (K:=K) (fun i=>some (.bl true)) hD (aZ.of ho) (by rw [List.length_map];omega) (fun i v H2 G F hi s2 kG kF=> ?_) (fun H2 s2 e2=> ?_)
  ·rw [List.getElem?_map] at hi
   cases ei:os[i]? with
   | none=>rw [ei] at hi;cases hi
   | some h=>
     rw [ei] at hi;cases hi;have q:=oo.1 h (List.mem_of_getElem? ei);refine ⟨_,rfl,_,rfl,h,(cs.map V.int).length,rfl, ?_⟩;rw [decide_eq_true (show BK h (cs.map V.int).length from ⟨q.1,by rw [List.length_map];exact q.2⟩)];exact kF _ H2 (Same.refl _) rfl
  rw [pJ] at e2;refine ⟨D,List.replicate (os.map V.int).length true,rfl,aZ.of (by rw [e2,List.map_replicate]),_,rfl, ?_⟩;rw [show (List.replicate (os.map V.int).length true).all id=true by simp];refine b_ ?_;refine ⟨_,rfl,_,rfl,by rw [List.length_map];omega,by rw [List.length_map];omega,fun D2 hD2=> ?_⟩;have Ph:(((cs.map V.int).length:Nat):Int).toNat=cs.length:=by simp
  rw [Ph];refine j7 (fun (i:Nat)=>some (V.int (os.count (0+(i:Int)):Nat))) hD2 (by omega) (fun j H3 G F hj s3 kG kF=> ?_) (fun H3 s3 e3=> ?_)
  ·refine ⟨_,rfl,.inl ⟨rfl,_,aZ.of (s3 _ _ (s2 _ _ ho))⟩,_,rfl,o,os,0+(j:Int),rfl,rfl,aZ.of (s3 _ _ (s2 _ _ ho)),kF _ H3 (Same.refl _) rfl⟩
  have e3':H3 D2=some (.lst (cs.map V.int)):=by
   rw [e3];congr 2
   have:(List.range cs.length).filterMap (fun (i:Nat)=>some (V.int (os.count (0+(i:Int)):Nat)))=(List.range cs.length).filterMap (fun (i:Nat)=>(cs[i]?).map V.int):=by
    refine j6 _ trivial fun i hi=> ?_;have hi':i<cs.length:=by simpa using hi
    have q:=oo.2.2 (0+(i:Int)) (by omega) (by omega);rw [q,show (0+(i:Int))=i by omega,mO (c:=cs[i]) (by simp [hi'])];simp [hi']
   rw [this,sE]
  have GQ:=s2.trans s3;refine ⟨_,rfl,_,_,_,_,rfl,rfl,bL.of (GQ _ _ ht),rfl,_,_,fZ e3',fZ (GQ _ _ hc),shaped_ints _,shaped_ints _,_,rfl, ?_⟩;rw [if_pos rfl,gQ PyData.int pK,decide_eq_true rfl];refine b_ ?_;exact k H3 GQ
theorem Jh (n:Nat):(List.range n).filterMap (fun _=>some (V.int 0))=(List.replicate n (0:Int)).map V.int:=by rw [pJ,List.map_replicate]
def oJ (K:PySem.W.Frag):Sp:=fun vs H Q _=>∃(t c a o:Addr) (cs os:List Int) (ns:List Nt),vs=[.ref t,.ref o]/\RecAt H t c a cs ns/\dh cs ns/\H o=some (.lst (os.map V.int))/\iI cs os /\ ∀H',Same H H'->Q (.bl (runK cs ns os (zs cs))) H'
theorem KH {f:Addr} {fd:FuncData} (F:jq K "keeps" "keeps" jf f fd) (bH:FnAt P w K mg base 4 "check_notes" ["record"] (gC K)) (vZ:FnAt P w K mg base 3 "check_order" ["record","order"] (sX K)) (mW:FnAt P w K mg base 1 "firsts_of" ["record"] (oM K)) (qP:FnAt P w K mg base 2 "is_free" ["counts","firsts","done","hand"] (xY K)) (Bt:nA mg):cH P w K mg base iZ 5 f fd ["record","order"] (oJ K):=by
 refine F.ok oR (fun vs H Q E h=> ?_) (fun cdv A outer s H vs Q E hr h=> ?_)
 ·obtain ⟨t,c,a,o,cs,os,ns,rfl,_⟩:=h
  rfl
 ·obtain ⟨t,c,a,o,cs,os,ns,rfl,R,ok,ho,oo,k⟩:=h
  have cX:=hr.units;have c8:=ok.1.1
  refine ⟨_,(aB (cg (aN bH (hr.mono (by decide)) (by rfl) (aj (pv 0) aA)))
   (aB (cg (aN vZ (hr.mono (by decide)) (by rfl) (aj (pv 0) (aj (pv 1) aA))))
   (aB (aO (i:=2) oR.nd rfl (Or.inl rfl) (aN mW (hr.mono (by decide)) (by rfl) (aj (pv 0) aA)))
   (aB (rT (i:=3) rfl oR.nd rfl (Or.inl rfl) (N:=["count"]) (own:=["count"]) (caps:=[]) (aQ.of (by kernel_rfl)) (bM (K:=K) rfl (aK (aG (K:=K) rfl) (pv 0) ao (fun _ _=>rfl))) (fun _ _ _ _=>(bh (i:=0) (show List.Nodup (["count"]:List Str) by decide +kernel) rfl (Or.inl rfl))) (fun _ _ _ _=>cZ) (fun _ _ _ _=>ao))
   (aB (gP PassesOwn.never rfl (bM (K:=K) rfl (pv 1)) (bh (i:=4) oR.nd rfl (Or.inl rfl))
   (aB (cj (cW (cT (aN qP (hr.mono (by decide)) (by rfl) (aj (aK (aG (K:=K) rfl) (pv 0) ao (fun _ _=>rfl)) (aj (pv 2) (aj (pv 3) (aj (pv 4) aA))))))) (aC (aP fU)) bw)
   (aC (Fe (pv 3) (pv 4) (tU (K:=K) rfl) ao Lh set_list))))
   (aC (aP fU))))))), ?_⟩
  refine ⟨_,rfl,t,c,a,cs,ns,rfl,R,ok,fun H1 s1=> ?_⟩;refine ⟨_,rfl,_,rfl,t,c,a,o,cs,os,ns,rfl,R.same s1,ok.1,s1 _ _ ho,oo,fun H2 s2=> ?_⟩;have s12:=s1.trans s2;refine ⟨_,rfl,t,c,a,cs,ns,rfl,R.same s12,ok,fun f H3 hf FA s3=> ?_⟩;have qb:=s12.trans s3;have R3:=R.same qb;refine ⟨_,rfl,_,_,_,_,rfl,rfl,bL.of R3.1,rfl,c,rfl,⟨_,aZ.of R3.2.1⟩,fun p hp=> ?_⟩;refine eN (K:=K) (fun i=>some (.int 0)) hp (aZ.of R3.2.1) (by rw [List.length_map];omega) (fun i v H4 G F hi s4 kG kF=>kF _ H4 (Same.refl _) rfl) (fun H4 s4 e4=> ?_);rw [List.length_map,Jh] at e4;have ho4:=s4 _ _ (qb _ _ ho);refine ⟨_,rfl,o,rfl,⟨_,aZ.of ho4⟩, ?_⟩
  refine jD (K:=K) (a:=o) (xs:=os.map V.int) (fun i σ H5=>∃(ds:List Int) (x:Option V),σ=[some (.ref t),some (.ref o),some (.ref f),some (.ref p),x]/\H5 p=some (.lst (ds.map V.int))/\ds.length=cs.length/\Same H3 H5/\runK cs ns os (zs cs)=runK cs ns (os.drop i) ds)
   ⟨zs cs,none,rfl,e4,by simp [zs],s4,rfl⟩ (fun i σ H5 _ ⟨_,_,_,_,_,sm,_⟩=>aZ.of (sm _ _ (qb _ _ ho))) ?_ ?_
  ·rintro i v σ H5 hi ⟨ds,x,rfl,Lq,dl,s5,run⟩
   rw [List.getElem?_map] at hi;cases ei:os[i]? with
   | none=>rw [ei] at hi;cases hi
   | some h=>
     rw [ei] at hi;cases hi;have il:=(List.getElem?_eq_some_iff.mp ei).1;have q:=oo.1 h (List.mem_of_getElem? ei)
     have dr:os.drop i=h::os.drop (i+1):=by
      rw [List.drop_eq_getElem_cons il];congr 1;exact (List.getElem?_eq_some_iff.mp ei).2
     have R5:=R3.same s5;refine ⟨_,rfl,_,_,_,_,rfl,rfl,bL.of R5.1,rfl,_,rfl,_,rfl,_,rfl,c,f,p,cs,ds,ns,h,rfl,R5.2.1,FA.same s5,Lq,ok,dl,q.1,q.2,fun H6 s6=>⟨_,rfl, ?_⟩⟩;have rZ:=s6 _ _ Lq;rw [dr] at run;simp only [runK] at run
     by_cases fr:isFree cs ns ds h=true
     ·rw [fr]
      refine b_ ?_;rw [if_pos fr] at run;have gl:h.toNat<ds.length:=by omega
      refine ⟨_,rfl,_,rfl,_,_,_,_,rfl,rfl,aZ.of rZ,q.1,(by rw [List.getElem?_map];simp [gl];rfl),_,_,rfl,rfl,_,_,_,_,rfl,rfl,rZ,pF q.1 (by rw [List.length_map];omega), ?_⟩;have eg:ds[h.toNat]=gI ds h:=by simp [gI,gl]
      refine ⟨stp ds h,_,rfl, ?_,by simp [stp,dl],fun b u e=>Kp.set _ _ ((s5.trans s6) _ _ e) (aL e hp),run⟩;show (upd H6 p (.lst ((ds.map V.int).set h.toNat (V.int (ds[h.toNat]+1))))) p=_;rw [au,eg,stp,List.map_set]
     ·have fr':isFree cs ns ds h=false:=by simpa using fr
      rw [fr'];refine fX ?_;rw [fr'] at run;have run':runK cs ns os (zs cs)=false:=by simpa using run
      rw [←run'];exact k H6 ((qb.trans s5).trans s6)
  ·rintro σ H5 ⟨ds,x,rfl,Lq,dl,s5,run⟩
   have:runK cs ns os (zs cs)=true:=by rw [run,List.length_map,List.drop_length];rfl
   rw [←this];exact k H5 (qb.trans s5)
def Ig (cs:List Int) (ns:List Nt):List Int->List Int->Prop
 | [],ds=>ds=cs
 | h::os,ds=>(jL cs ns ds).head?=some h/\Ig cs ns os (stp ds h)
theorem qX {cs:List Int} {ns:List Nt} {os2:List Int}:∀{os ds:List Int},(∀i h,os[i]? = some h->(jL cs ns ((os.take i).foldl stp ds)).head?=some h)->Ig cs ns os2 (os.foldl stp ds)->Ig cs ns (os++os2) ds
 | [],ds,_,h=>h
 | x::os,ds,h1,h2=>by
   refine ⟨by simpa using h1 0 x rfl,qX (fun i h e=> ?_) h2⟩;have:=h1 (i+1) h (by simpa using e);simpa using this
theorem wI {cs:List Int} {ns:List Nt} {ds:List Int} {h:Int} (d:bQ cs ds) (h0:0<=h) (h1:h<cs.length) (f:isFree cs ns ds h=true):gI ds h<gI cs h:=by
 unfold isFree at f;simp only [Bool.and_eq_true,Bool.not_eq_true',decide_eq_false_iff_not] at f;have:=d.2 h h0 h1;omega
theorem RT {cs:List Int} {ns:List Nt} {ds:List Int} {h:Int} (d:bQ cs ds) (h0:0<=h) (h1:h<cs.length) (f:isFree cs ns ds h=true):bQ cs (stp ds h):=by
 have lt:=wI d h0 h1 f;have:=d.2 h h0 h1;refine ⟨by simp [stp,d.1],fun i i0 i1=> ?_⟩;unfold stp;rw [mL h0 (by rw [d.1];exact h1) i0]
 by_cases e:i=h
 ·subst e;rw [if_pos rfl];omega
 ·rw [if_neg e];exact d.2 i i0 i1
theorem NP {cs ds:List Int} {h:Int} (d:bQ cs ds) (h0:0<=h) (h1:h<cs.length):(stp ds h).sum=ds.sum+1:=by
 have hl:h.toNat<ds.length:=by rw [d.1];omega
 have e:ds[h.toNat]? = some (gI ds h):=by simp [gI,hl]
 unfold stp;rw [sum_set e];omega
theorem Ve {cs:List Int} (h:Ed cs):bQ cs (zs cs):=by
 refine ⟨by simp [zs],fun i i0 i1=> ?_⟩;have:gI (zs cs) i=0:=by unfold gI zs;rw [List.getElem?_replicate];split<;>rfl
 rw [this];exact ⟨Int.le_refl _,(h.gI i).1⟩
def Stuck (cs:List Int) (ns:List Nt):Prop:=∃ds,bQ cs ds/\ds≠cs/\jL cs ns ds=[]
def xZ (K:PySem.W.Frag):Sp:=fun vs H Q _=>∃(t c a:Addr) (cs:List Int) (ns:List Nt),vs=[.ref t]/\RecAt H t c a cs ns/\dh cs ns /\
 (∀H',Stuck cs ns->Same H H'->Q .non H') /\ ∀(p:Addr) (os:List Int) (H':Hp),H p=none->H' p=some (.lst (os.map V.int))->Ig cs ns os (zs cs)->inR cs os->os.length<=2400->Same H H'->Q (.ref p) H'
theorem tX {f:Addr} {fd:FuncData} (F:jq K "first_order" "first_order" cu f fd) (bH:FnAt P w K mg base 4 "check_notes" ["record"] (gC K)) (mW:FnAt P w K mg base 1 "firsts_of" ["record"] (oM K)) (yX:FnAt P w K mg base 3 "free_hands" ["counts","firsts","done"] (xX K)) (Bt:nA mg):cH P w K mg base iZ 5 f fd ["record"] (xZ K):=by
 refine F.ok fB (fun vs H Q E h=> ?_) (fun cdv A outer s H vs Q E hr h=> ?_)
 ·obtain ⟨t,c,a,cs,ns,rfl,_⟩:=h
  rfl
 ·obtain ⟨t,c,a,cs,ns,rfl,R,ok,kN,k⟩:=h
  have cX:=hr.units;have c8:=ok.1.1;have hsum:=JD ok.1.2
  refine ⟨_,(aB (cg (aN bH (hr.mono (by decide)) (by rfl) (aj (pv 0) aA)))
   (aB (aO (i:=1) fB.nd rfl (Or.inl rfl) (aN mW (hr.mono (by decide)) (by rfl) (aj (pv 0) aA)))
   (aB (rT (i:=2) rfl fB.nd rfl (Or.inl rfl) (N:=["count"]) (own:=["count"]) (caps:=[]) (aQ.of (by kernel_rfl)) (bM (K:=K) rfl (aK (aG (K:=K) rfl) (pv 0) ao (fun _ _=>rfl))) (fun _ _ _ _=>(bh (i:=0) (show List.Nodup (["count"]:List Str) by decide +kernel) rfl (Or.inl rfl))) (fun _ _ _ _=>cZ) (fun _ _ _ _=>ao))
   (aB (aO (i:=3) fB.nd rfl (Or.inl rfl) (dX aA))
   (aB (tQ PassesOwn.never (bf (m_ (K:=K) rfl cX) (pv 2) (aK (aG (K:=K) rfl) (pv 0) ao (fun _ _=>rfl)) (aY _)) (aB (aO (i:=4) fB.nd rfl (Or.inl rfl) (aN yX (hr.mono (by decide)) (by rfl) (aj (aK (aG (K:=K) rfl) (pv 0) ao (fun _ _=>rfl)) (aj (pv 1) (aj (pv 2) aA)))))
   (aB (cj (cW (m9 (K:=K) rfl (pv 4))) (aC (aP iy)) bw)
   (aB (cg (jB (K:=K) rfl (pv 3) (aj (aK (aM (K:=K) rfl) (pv 4) ao (fun _ _=>rfl)) aA)))
   (aC (Fe (pv 2) (aK (aM (K:=K) rfl) (pv 4) ao (fun _ _=>rfl)) (tU (K:=K) rfl) ao Lh set_list))))))
   (aC (aP (pv 3)))))))), ?_⟩
  refine ⟨_,rfl,t,c,a,cs,ns,rfl,R,ok,fun H1 s1=> ?_⟩;refine ⟨_,rfl,t,c,a,cs,ns,rfl,R.same s1,ok,fun f H3 hf FA s3=> ?_⟩;have qb:=s1.trans s3;have R3:=R.same qb;refine ⟨_,rfl,_,_,_,_,rfl,rfl,bL.of R3.1,rfl,c,rfl,⟨_,aZ.of R3.2.1⟩,fun p hp=> ?_⟩;refine eN (K:=K) (fun i=>some (.int 0)) hp (aZ.of R3.2.1) (by rw [List.length_map];omega) (fun i v H4 G F hi s4 kG kF=>kF _ H4 (Same.refl _) rfl) (fun H4 s4 e4=> ?_);rw [List.length_map,Jh] at e4;refine ⟨(by show 0<=sizeLine;decide),fun o ho=> ?_⟩;have s5:=aD (o:=HO.lst []) ho;have npo:p≠o:=aL e4 ho;have Zj:H3 o=none:=s4.free ho
  refine ⟨fun m σ H6=>∃(ds os:List Int) (x:Option V),σ=[some (.ref t),some (.ref f),some (.ref p),some (.ref o),x]/\H6 p=some (.lst (ds.map V.int))/\H6 o=some (.lst (os.map V.int))/\bQ cs ds/\inR cs os/\Same H3 H6/\os.foldl stp (zs cs)=ds/\(∀i h,os[i]? = some h->(jL cs ns ((os.take i).foldl stp (zs cs))).head?=some h)/\(os.length:Int)=ds.sum/\m=(cs.sum - ds.sum).toNat,
   ⟨_,zs cs,[],none,rfl,s5 _ _ e4,au,Ve ok.1,fun h hh=>(by cases hh),s4.trans s5,rfl,fun i h e=>(by cases e), ?_,rfl⟩, ?_⟩
  ·have:(zs cs).sum=0:=by
    unfold zs;generalize cs.length=n
    induction n with
    | zero=>rfl
    | succ n ih=>rw [List.replicate_succ,List.sum_cons,ih];rfl
   rw [this];rfl
  rintro m σ H6 ⟨ds,os,x,rfl,rZ,ho6,rH,ir,s6,fold,heads,aiY,rfl⟩;have R6:=R3.same s6;refine ⟨_,rfl,_,rfl,_,_,_,_,rfl,rfl,bL.of R6.1,rfl,_,_,fZ rZ,fZ R6.2.1,shaped_ints _,shaped_ints _,_,rfl, ?_⟩;rw [if_pos rfl,gQ PyData.int pK];have akk:=rH.sum
  by_cases e0:ds=cs
  ·rw [decide_eq_true e0]
   refine b_ ?_;refine ⟨_,rfl,k o os H6 (qb.free Zj) ho6 ?_ ir (by omega) (qb.trans s6)⟩;have:=qX (os2:=[]) heads (by rw [fold];exact e0);simpa using this
  rw [decide_eq_false e0];refine fX ?_;refine ⟨fun σ' H'=>∃m',m'<(cs.sum - ds.sum).toNat /\ ∃(ds os:List Int) (x:Option V),σ'=[some (.ref t),some (.ref f),some (.ref p),some (.ref o),x]/\H' p=some (.lst (ds.map V.int))/\H' o=some (.lst (os.map V.int))/\bQ cs ds/\inR cs os/\Same H3 H'/\os.foldl stp (zs cs)=ds/\(∀i h,os[i]? = some h->(jL cs ns ((os.take i).foldl stp (zs cs))).head?=some h)/\(os.length:Int)=ds.sum/\m'=(cs.sum - ds.sum).toNat,fun _ _ h=>h, ?_⟩;refine ⟨_,rfl,_,_,_,_,rfl,rfl,bL.of R6.1,rfl,_,rfl,_,rfl,c,f,p,cs,ds,ns,rfl,R6.2.1,FA.same s6,rZ,ok,rH.1,fun q H7 hq Zg s7=> ?_⟩;have s67:=s6.trans s7;refine ⟨_,rfl,_,.inl ⟨_,aZ.of Zg,rfl⟩, ?_⟩;cases fr:jL cs ns ds with
  | nil=>
    refine fX ?_;exact kN H7 ⟨ds,rH,e0,fr⟩ (qb.trans s67)
  | cons h fr'=>
    refine b_ ?_;rw [fr] at Zg;have hm:h∈jL cs ns ds:=by rw [fr];simp
    obtain ⟨h0,h1,hfree⟩:=qu.mp hm;have Zi:=s7 _ _ ho6;have hp7:=s7 _ _ rZ;have lt:=wI rH h0 h1 hfree;refine ⟨_,rfl,.inl ⟨rfl,_,aZ.of Zi⟩,_,rfl,_,_,_,_,rfl,rfl,aZ.of Zg,dR (j:=0) (v:=V.int h) rfl,o,_,_,rfl,rfl,Zi,by rw [List.length_map,sizeLine_eq];omega, ?_⟩;have k8:Kp o H7 (upd H7 o (.lst (os.map V.int++[V.int h]))):=Kp.set;have nqo:q≠o:=fun z=>by rw [←z] at ho6;rw [ho6] at hq;cases hq
    have hp8:=k8 _ _ hp7 npo;have hq8:=k8 _ _ Zg nqo;have gl:h.toNat<ds.length:=by rw [rH.1];omega
    have eg:ds[h.toNat]=gI ds h:=by simp [gI,gl]
    refine ⟨_,rfl,_,rfl,_,_,_,_,rfl,rfl,aZ.of hq8,dR (j:=0) (v:=V.int h) rfl,_,_,_,_,rfl,rfl,aZ.of hp8,h0,(by rw [List.getElem?_map];simp [gl];rfl),_,_,rfl,rfl,_,_,_,_,rfl,rfl,hp8,pF h0 (by rw [List.length_map];omega), ?_⟩;have k9:Kp p (upd H7 o (.lst (os.map V.int++[V.int h]))) (upd (upd H7 o (.lst (os.map V.int++[V.int h]))) p (.lst ((ds.map V.int).set h.toNat (V.int (ds[h.toNat]+1))))):=Kp.set;have ss:=NP rH h0 h1;have ok':=RT rH h0 h1 hfree;have ah4:=ok'.sum;refine ⟨_, ?_,stp ds h,os++[h],_,rfl, ?_, ?_,ok',fun z hz=> ?_,fun b u e=>k9 _ _ (k8 _ _ (s67 _ _ e) (aL e Zj)) (aL e hp),by rw [List.foldl_append,fold];rfl,fun i z e=> ?_,by rw [List.length_append,ss];simp;omega,rfl⟩
    ·omega
    ·show (upd (upd H7 o (.lst (os.map V.int++[V.int h]))) p (.lst ((ds.map V.int).set h.toNat (V.int (ds[h.toNat]+1))))) p=_
     rw [au,eg,stp,List.map_set]
    ·refine (k9 _ _ au npo.symm).trans ?_
     simp
    ·rcases List.mem_append.mp hz with hz|hz
     ·exact ir z hz
     ·have:z=h:=by simpa using hz
      subst this;exact ⟨h0,h1⟩
    ·by_cases hi:i<os.length
     ·rw [List.getElem?_append_left hi] at e
      rw [List.take_append_of_le_length (by omega)];exact heads i z e
     ·have hi2:i=os.length:=by
       have:=(List.getElem?_eq_some_iff.mp e).1;simp at this;omega
      subst hi2;rw [List.take_append_of_le_length (Nat.le_refl _),List.take_length,fold,fr];simpa using e
def M5 (kvs:List (List Key×V)) (os:List Int):Prop:=∀(h:Int) (k:Nat),k<os.count h -> ∃p:Nat,cD kvs [Sum.inl h,Sum.inl (k:Int)]=some (.int p)/\os[p]? = some h/\(os.take p).count h=k
def rQ (K:PySem.W.Frag):Sp:=fun vs H Q _=>∃(a:Addr) (os:List Int),vs=[.ref a]/\H a=some (.lst (os.map V.int))/\os.length<=2400 /\ ∀(d:Addr) (kvs:List (List Key×V)) (H':Hp),H d=none->H' d=some (.dT kvs)->M5 kvs os->Same H H'->Q (.ref d) H'
theorem Kr {f:Addr} {fd:FuncData} (F:jq K "_law_spots" "_law_spots" gK f fd) (Bt:nA mg):cH P w K mg base iZ 1 f fd ["order"] (rQ K):=by
 refine F.ok m7 (fun vs H Q E h=> ?_) (fun cdv A outer s H vs Q E hr h=> ?_)
 ·obtain ⟨a,os,rfl,_⟩:=h
  rfl
 ·obtain ⟨a,os,rfl,ha,hlen,k⟩:=h
  have hu:=lM hr
  refine ⟨_,(aB (aO (i:=1) m7.nd rfl (Or.inl rfl) zR)
   (aB (aO (i:=2) m7.nd rfl (Or.inl rfl) o7)
   (aB (gP PassesOwn.never rfl (fO (by rfl) Bt.iH (aj (aV (aU (K:=K) rfl) (by rfl) Bt.fV dj (aj (pv 0) aA)) aA)) (bh (i:=3) m7.nd rfl (Or.inl rfl))
   (aB (oZ hu (pv 2) (aK (aM (K:=K) rfl) (pv 0) (pv 3) (fun _ _=>rfl)) (bG dY (mF hu (pv 2) (aK (aM (K:=K) rfl) (pv 0) (pv 3) (fun _ _=>rfl)) ao ⟨rfl,rfl,rfl,rfl⟩) ao) rfl)
   (aC (oZ hu (pv 1) (jP (aj (aK (aM (K:=K) rfl) (pv 0) (pv 3) (fun _ _=>rfl)) (aj (bG CN (jH hu (pv 2) (aK (aM (K:=K) rfl) (pv 0) (pv 3) (fun _ _=>rfl)) (fun _ _=>rfl)) ao) aA))) (pv 3) rfl))))
   (aC (aP (pv 1)))))), ?_⟩
  intro d hd;have R_:=aD (o:=HO.dT []) hd;intro m hm;have R9:=aD (o:=HO.dK []) hm;have ndm:d≠m:=aL au hm;have hm0:H m=none:=R_.free hm;have ha2:=R9 _ _ (R_ _ _ ha);refine ⟨_,rfl,a,_,rfl,.inl (aZ.of ha2),_,rfl,by rw [List.length_map];omega,by rw [List.length_map];omega, ?_⟩;have Ph:(((os.map V.int).length:Nat):Int).toNat=os.length:=by simp
  rw [Ph]
  refine qG (lo:=0) (n:=os.length) (fun i σ H2=>∃(fk:List (List Key×V)) (mk:List (Key×V)) (x:Option V),σ=[some (.ref a),some (.ref d),some (.ref m),x]/\Same H H2/\H2 d=some (.dT fk)/\H2 m=some (.dK mk) /\
   fk.length<=i/\mk.length<=i/\(∀h:Int,(cD mk (Sum.inl h)).getD (.int 0) = .int ((os.take i).count h))/\M5 fk (os.take i))
   ⟨[],[],none,rfl,R_.trans R9,R9 _ _ au,au,Nat.zero_le _,Nat.zero_le _,fun h=>by simp [cD],fun h k hk=>by simp at hk⟩ ?_ ?_
  ·rintro i σ H2 hi ⟨fk,mk,x,rfl,sm,hD,hM,fl,ml,hv,hS⟩
   have Zm:=sm _ _ ha;obtain ⟨y,ey⟩:∃y,os[i]? = some y:=⟨os[i],by simp [hi]⟩;have tk:os.take (i+1)=os.take i++[y]:=by rw [List.take_add_one,ey];rfl
   have ei:(0+(i:Int))=(i:Int):=by omega
   have at_:∀(xs:List V),xs=os.map V.int->Bp xs (0+(i:Int))=some (.int y):=by
    rintro xs rfl;rw [ei];refine dR ?_;rw [List.getElem?_map,ey];rfl
   refine ⟨_,rfl,m,rfl,.inl ⟨_,.inl hM⟩,_,rfl,_,rfl,_,_,_,_,rfl,rfl,aZ.of Zm,at_ _ rfl,_,h_.k (k:=Sum.inl y) hM, ?_⟩;rw [hv y];refine ⟨_,_,rfl,rfl,_,rfl,_,rfl,_,rfl,_,_,_,_,rfl,rfl,aZ.of Zm,at_ _ rfl,m,_,rfl,vm.k (k:=Sum.inl y) hM (by rw [sizeLine_eq];omega), ?_⟩;have k1:Kp m H2 (upd H2 m (.dK (putK mk (Sum.inl y) (V.int (((os.take i).count y:Nat)+1))))):=Kp.set;have ha1:=k1 _ _ Zm (iK Zm hM (by intro z;cases z));have hD1:=k1 _ _ hD ndm;have hM1:(upd H2 m (.dK (putK mk (Sum.inl y) (V.int (((os.take i).count y:Nat)+1))))) m=some (.dK (putK mk (Sum.inl y) (V.int (((os.take i).count y:Nat)+1)))):=au;have gv:cD (putK mk (Sum.inl y) (V.int (((os.take i).count y:Nat)+1))) (Sum.inl y)=some (V.int (((os.take i).count y:Nat)+1)):=by rw [ju,if_pos rfl]
   refine ⟨_,rfl,_,rfl,_,rfl,_,rfl,_,_,_,_,rfl,rfl,aZ.of ha1,at_ _ rfl,_,rfl,_,rfl,_,rfl,_,_,_,_,rfl,rfl,aZ.of ha1,at_ _ rfl,m,_,rfl,gv▸h_.k (k:=Sum.inl y) hM1,_,_,rfl,rfl,(by show 2<=sizeLine;decide),fun t ht=> ?_⟩;have st:=aD (o:=HO.tup [V.int y,V.int ((((os.take i).count y:Nat):Int)+1 - 1)]) ht;refine ⟨d,_,rfl,vm.t (k:=[Sum.inl y,Sum.inl ((((os.take i).count y:Nat):Int)+1 - 1)]) (st _ _ hD1) au (by rw [sizeLine_eq];omega), ?_⟩;have ec:(((os.take i).count y:Nat):Int)+1 - 1=((os.take i).count y:Nat):=by omega
   refine ⟨_,putK mk (Sum.inl y) (V.int (((os.take i).count y:Nat)+1)),_,rfl, ?_,au, ?_, ?_, ?_,fun h=> ?_,fun h j hj=> ?_⟩
   ·intro c u e
    have n1:c≠d:=aL e hd;have n2:c≠m:=aL e hm0;rw [bA n1];exact st _ _ (k1 _ _ (sm _ _ e) n2)
   ·rw [bA ndm.symm]
    exact st _ _ hM1
   ·exact Nat.le_trans (dG ..) (by omega)
   ·exact Nat.le_trans (dG ..) (by omega)
   ·rw [ju,tk,List.count_append]
    by_cases e:h=y
    ·subst e
     rw [if_pos rfl];simp
    ·rw [if_neg (fun z=>e (Sum.inl.inj z)),hv h]
     have:¬y=h:=fun z=>e z.symm;simp [this]
   ·rw [ju]
    by_cases e:([Sum.inl h,Sum.inl (j:Int)]:List Key)=[Sum.inl y,Sum.inl ((((os.take i).count y:Nat):Int)+1 - 1)]
    ·rw [if_pos e]
     injection e with z1 z2
     injection z2 with z2 _
     have eh:h=y:=Sum.inl.inj z1;have ej:(j:Int)=(((os.take i).count y:Nat):Int)+1 - 1:=Sum.inl.inj z2;subst eh;have tl:(os.take i).length=i:=by rw [List.length_take];omega
     refine ⟨i,by rw [ei], ?_, ?_⟩
     ·rw [tk,List.getElem?_append_right (by omega),tl];simp
     ·rw [tk,List.take_append_of_le_length (by omega),List.take_take,Nat.min_self];omega
    ·rw [if_neg e]
     have hj':j<(os.take i).count h:=by
      rw [tk,List.count_append] at hj
      by_cases ehy:h=y
      ·subst ehy
       simp at hj;have:j≠(os.take i).count h:=fun z=>e (by rw [z,ec]);omega
      ·have:¬y=h:=fun z=>ehy z.symm
       simpa [this] using hj
     obtain ⟨p,e1,e2,e3⟩:=hS h j hj';have pl:p<(os.take i).length:=(List.getElem?_eq_some_iff.mp e2).1;exact ⟨p,e1,by rw [tk,List.getElem?_append_left pl];exact e2,by rw [tk,List.take_append_of_le_length (by omega)];exact e3⟩
  ·rintro σ H2 ⟨fk,mk,x,rfl,sm,hD,hM,fl,ml,hv,hS⟩
   rw [List.take_length] at hS;exact ⟨_,rfl,k d fk H2 hd hD hS sm⟩
theorem t_:∀(n:Nat) (l:List Nat),l.Nodup->(∀x∈l,x<n)->l.length<=n
 | 0,l,_,h=>by
   cases l with
   | nil=>exact Nat.le_refl _
   | cons x l=>exact absurd (h x (by simp)) (Nat.not_lt_zero _)
 | n+1,l,nd,h=>by
   by_cases m:n∈l
   ·have:=t_ n (l.erase n) (nd.erase n) fun x hx=>by
     have:=(nd.mem_erase_iff).mp hx;have:=h x this.2;omega
    rw [List.length_erase_of_mem m] at this;omega
   ·have:=t_ n l nd fun x hx=>by
     have:=h x hx;have:x≠n:=fun z=>m (z▸hx);omega
    omega
def Q9 (x y:Nt):Prop:=x.2.2.1=y.1/\x.2.2.2<=y.2.1
inductive Gp (ns:List Nt) (h k:Int):List Nt->Int->Int->Prop
 | nil:Gp ns h k [] h k
 | snoc {c:List Nt} {g m:Int} {x:Nt}:Gp ns h k c g m->x∈ns->x.1=g->m<=x.2.1->Gp ns h k (c++[x]) x.2.2.1 x.2.2.2
structure Best (ns:List Nt) (h k:Int) (n:Nat) (D:List (Int×Int×List Nt)):Prop where
 nd:(D.map (·.1)).Nodup
 ch:∀e∈D,Gp ns h k e.2.2 e.1 e.2.1/\e.2.2.length=n
 le:∀c g m,Gp ns h k c g m->c.length=n -> ∃e∈D,e.1=g/\e.2.1<=m
def eX (D:List (Int×Int×List Nt)) (g:Int):Option (Int×List Nt):=(D.find? fun e=>decide (e.1=g)).map (·.2)
theorem jZ {D:List (Int×Int×List Nt)} {g:Int} {r:Int×List Nt} (h:eX D g=some r):(g,r)∈D:=by
 unfold eX at h;cases e:D.find? (fun e=>decide (e.1=g)) with
 | none=>rw [e] at h;cases h
 | some q=>
   rw [e] at h;cases h;have h1:=List.find?_some e;have h2:=List.mem_of_find?_eq_some e;have:q.1=g:=of_decide_eq_true h1;rw [←this];exact h2
theorem n6 {D:List (Int×Int×List Nt)} {g:Int} (h:eX D g=none):∀e∈D,e.1≠g:=by
 unfold eX at h;cases e:D.find? (fun e=>decide (e.1=g)) with
 | some q=>rw [e] at h;cases h
 | none=>
   intro q hq z;have:=List.find?_eq_none.mp e q hq;exact this (decide_eq_true z)
theorem ug {D:List (Int×Int×List Nt)} (nd:(D.map (·.1)).Nodup) {e:Int×Int×List Nt} (h:e∈D):eX D e.1=some e.2:=by
 induction D with
 | nil=>cases h
 | cons q D ih=>
   rw [List.map_cons,List.nodup_cons] at nd;unfold eX;rw [List.find?_cons];rcases List.mem_cons.mp h with rfl|h
   ·simp
   ·have:¬q.1=e.1:=fun z=>nd.1 (by rw [z];exact List.mem_map.mpr ⟨e,h,rfl⟩)
    simp only [this,decide_false];exact ih nd.2 h
def put3 (D:List (Int×Int×List Nt)) (g:Int) (r:Int×List Nt):List (Int×Int×List Nt):=if (eX D g).isSome then D.map fun e=>if e.1=g then (g,r) else e else D++[(g,r)]
theorem G8 (D:List (Int×Int×List Nt)) (g:Int) (r:Int×List Nt):(put3 D g r).map (·.1)=if (eX D g).isSome then D.map (·.1) else D.map (·.1)++[g]:=by
 unfold put3;split
 ·rw [List.map_map]
  refine List.map_congr_left fun e _=> ?_;show (if e.1=g then (g,r) else e).1=e.1;split
  ·rename_i z;exact z.symm
  ·rfl
 ·rw [List.map_append];rfl
theorem Od {D:List (Int×Int×List Nt)} (nd:(D.map (·.1)).Nodup) (g:Int) (r:Int×List Nt):((put3 D g r).map (·.1)).Nodup:=by
 rw [G8];cases e:eX D g with
 | some q=>exact nd
 | none=>
   simp only [Option.isSome_none,Bool.false_eq_true,if_false];refine List.nodup_append.mpr ⟨nd,by simp,fun a ha b hb=> ?_⟩;have:b=g:=by simpa using hb
   subst this;obtain ⟨q,hq,rfl⟩:=List.mem_map.mp ha;exact n6 e q hq
theorem J1 {D:List (Int×Int×List Nt)} {g:Int} {r:Int×List Nt} {e:Int×Int×List Nt} (h:e∈put3 D g r):e=(g,r)\/(e∈D/\e.1≠g):=by
 unfold put3 at h;cases q:eX D g with
 | some z=>
   rw [q] at h;simp only [Option.isSome_some,if_true] at h;obtain ⟨y,hy,rfl⟩:=List.mem_map.mp h
   by_cases w:y.1=g
   ·left;rw [if_pos w]
   ·right;rw [if_neg w];exact ⟨hy,w⟩
 | none=>
   rw [q] at h;simp only [Option.isSome_none,Bool.false_eq_true,if_false] at h;rcases List.mem_append.mp h with h|h
   ·exact .inr ⟨h,n6 q e h⟩
   ·left;simpa using h
theorem G7 (D:List (Int×Int×List Nt)) (g:Int) (r:Int×List Nt):(g,r)∈put3 D g r:=by
 unfold put3;cases q:eX D g with
 | some z=>
   simp only [Option.isSome_some,if_true];exact List.mem_map.mpr ⟨_,jZ q,by simp⟩
 | none=>simp
theorem CJ {D:List (Int×Int×List Nt)} {g:Int} {r:Int×List Nt} {e:Int×Int×List Nt} (h:e∈D) (ne:e.1≠g):e∈put3 D g r:=by
 unfold put3;cases q:eX D g with
 | some z=>
   simp only [Option.isSome_some,if_true];exact List.mem_map.mpr ⟨e,h,by rw [if_neg ne]⟩
 | none=>simp [h]
def i_ (C:List (Int×Int×List Nt)) (L:List (Int×Int×List Nt)) (x:Nt):List (Int×Int×List Nt):=
 match eX C x.1 with
 | none=>L
 | some r=>if r.1<=x.2.1 then (match eX L x.2.2.1 with
    | none=>put3 L x.2.2.1 (x.2.2.2,r.2++[x])
    | some q=>if x.2.2.2<q.1 then put3 L x.2.2.1 (x.2.2.2,r.2++[x]) else L) else L
def Af (ns:List Nt) (C:List (Int×Int×List Nt)):List (Int×Int×List Nt):=ns.foldl (i_ C) []
structure Half (ns ms:List Nt) (h k:Int) (n:Nat) (L:List (Int×Int×List Nt)):Prop where
 nd:(L.map (·.1)).Nodup
 ch:∀e∈L,Gp ns h k e.2.2 e.1 e.2.1/\e.2.2.length=n+1
 le:∀c g m x,Gp ns h k c g m->c.length=n->x∈ms->x.1=g->m<=x.2.1 -> ∃e∈L,e.1=x.2.2.1/\e.2.1<=x.2.2.2
theorem H_ {ns ms:List Nt} {h k:Int} {n:Nat} {C L:List (Int×Int×List Nt)} (B:Best ns h k n C) (A:Half ns ms h k n L) {x:Nt} (hx:x∈ns):Half ns (ms++[x]) h k n (i_ C L x):=by
 unfold i_;cases e:eX C x.1 with
 | none=>
   refine ⟨A.nd,A.ch,fun c g m y hc hl hy e1 e2=> ?_⟩;rcases List.mem_append.mp hy with hy|hy
   ·exact A.le c g m y hc hl hy e1 e2
   ·have:y=x:=by simpa using hy
    subst this;obtain ⟨q,hq,q1,q2⟩:=B.le c g m hc hl;exact absurd (q1.trans e1.symm) (n6 e q hq)
 | some r=>
   have hr:=jZ e;obtain ⟨rc,rl⟩:=B.ch _ hr;dsimp only
   by_cases w:r.1<=x.2.1
   rotate_left
   ·rw [if_neg w]
    refine ⟨A.nd,A.ch,fun c g m y hc hl hy e1 e2=> ?_⟩;rcases List.mem_append.mp hy with hy|hy
    ·exact A.le c g m y hc hl hy e1 e2
    ·have:y=x:=by simpa using hy
     subst this;obtain ⟨q,hq,q1,q2⟩:=B.le c g m hc hl;have:=ug B.nd hq;rw [q1,←e1,e] at this;cases this;exact absurd (Int.le_trans q2 e2) w
   rw [if_pos w];have new:Gp ns h k (r.2++[x]) x.2.2.1 x.2.2.2:= .snoc rc hx rfl w
   have put:((∀q,eX L x.2.2.1=some q->x.2.2.2<=q.1))->Half ns (ms++[x]) h k n (put3 L x.2.2.1 (x.2.2.2,r.2++[x])):=fun ge=>by
    refine ⟨Od A.nd _ _,fun y hy=> ?_,fun c g m y hc hl hy e1 e2=> ?_⟩
    ·rcases J1 hy with rfl|⟨hy,_⟩
     ·exact ⟨new,by rw [List.length_append,rl];rfl⟩
     ·exact A.ch y hy
    ·by_cases z:y.2.2.1=x.2.2.1
     ·refine ⟨_,G7 L x.2.2.1 (x.2.2.2,r.2++[x]),z.symm, ?_⟩
      rcases List.mem_append.mp hy with hy|hy
      ·obtain ⟨q,hq,q1,q2⟩:=A.le c g m y hc hl hy e1 e2
       have:=ug A.nd hq;rw [q1,z] at this;have:=ge _ this;show x.2.2.2<=y.2.2.2;omega
      ·have:y=x:=by simpa using hy
       subst this;exact Int.le_refl _
     ·rcases List.mem_append.mp hy with hy|hy
      ·obtain ⟨q,hq,q1,q2⟩:=A.le c g m y hc hl hy e1 e2
       exact ⟨q,CJ hq (fun v=>z (q1.symm.trans v)),q1,q2⟩
      ·have:y=x:=by simpa using hy
       subst this;exact absurd rfl z
   cases f:eX L x.2.2.1 with
   | none=>exact put fun q z=>by rw [f] at z;cases z
   | some q=>
     dsimp only
     by_cases v:x.2.2.2<q.1
     ·rw [if_pos v]
      exact put fun q' z=>by rw [f] at z;cases z;omega
     ·rw [if_neg v]
      refine ⟨A.nd,A.ch,fun c g m y hc hl hy e1 e2=> ?_⟩;rcases List.mem_append.mp hy with hy|hy
      ·exact A.le c g m y hc hl hy e1 e2
      ·have:y=x:=by simpa using hy
       subst this;exact ⟨_,jZ f,rfl,by show q.1<=_;omega⟩
theorem Qh {ns:List Nt} {h k:Int} {n:Nat} {c:List Nt} {g m:Int} (hc:Gp ns h k c g m) (hl:c.length=n+1):∃c' x m',c=c'++[x]/\Gp ns h k c' x.1 m'/\c'.length=n/\x∈ns/\m'<=x.2.1/\g=x.2.2.1/\m=x.2.2.2:=by
 cases hc with
 | nil=>cases hl
 | @snoc c' g' m' x hc' hx e1 e2=>
   subst e1;exact ⟨c',x,m',rfl,hc',by simpa using hl,hx,e2,rfl,rfl⟩
theorem Ia {ns:List Nt} {h k:Int} {n:Nat} {L:List (Int×Int×List Nt)} (A:Half ns ns h k n L):Best ns h k (n+1) L:=by
 refine ⟨A.nd,A.ch,fun c g m hc hl=> ?_⟩;obtain ⟨c',x,m',rfl,hc',hl',hx,e2,rfl,rfl⟩:=Qh hc hl;exact A.le c' x.1 m' x hc' hl' hx rfl e2
theorem WD (ns:List Nt) (h k:Int) (n:Nat):Half ns [] h k n []:=⟨by simp,fun e he=>(by cases he),fun c g m x _ _ hx=>(by cases hx)⟩
theorem XM (ns:List Nt) (h k:Int):Best ns h k 0 [(h,k,[])]:=by
 refine ⟨by simp,fun e he=> ?_,fun c g m hc hl=> ?_⟩
 ·have:e=(h,k,[]):=by simpa using he
  subst this;exact ⟨.nil,rfl⟩
 ·cases hc with
  | nil=>exact ⟨_,List.mem_singleton.mpr rfl,rfl,Int.le_refl _⟩
  | snoc _ _ _ _=>simp at hl
def j9 (ns:List Nt) (h k:Int) (c:List Nt):Prop:=c≠[] /\ ∃m,Gp ns h k c h m/\m<=k
abbrev Bw:=List (Int×Int×List Nt)
def vh (B H:Hp) (p:Key×V) (e:Int×Int×List Nt):Prop:=p.1=Sum.inl e.1 /\ ∃t l,p.2 = .ref t/\H t=some (.tup [.int e.2.1,.ref l])/\cJ H l e.2.2/\B l=none
def oF (B H:Hp):List (Key×V)->Bw->Prop
 | [],[]=>True
 | p::ps,e::es=>vh B H p e/\oF B H ps es
 | _,_=>False
def M_ (B H:Hp) (d:Addr) (D:Bw):Prop:=∃kvs,H d=some (.dK kvs)/\oF B H kvs D
theorem oF.imp {B H H':Hp} (f:∀p e,vh B H p e->vh B H' p e):∀{kvs:List (Key×V)} {D:Bw},oF B H kvs D->oF B H' kvs D
 | [],[],_=>True.intro
 | _::_,_::_,h=>⟨f _ _ h.1,oF.imp f h.2⟩
 | [],_::_,h=>h.elim
 | _::_,[],h=>h.elim
theorem vh.same {B H H':Hp} (s:Same H H') {p:Key×V} {e:Int×Int×List Nt} (h:vh B H p e):vh B H' p e:=by
 obtain ⟨e1,t,l,e2,e3,e4,e5⟩:=h;exact ⟨e1,t,l,e2,s _ _ e3,e4.same s,e5⟩
theorem vh.kp {B H H':Hp} {d:Addr} {ks:List (Key×V)} (hd:H d=some (.dK ks)) (k:Kp d H H') {p:Key×V} {e:Int×Int×List Nt} (h:vh B H p e):vh B H' p e:=by
 obtain ⟨e1,t,l,e2,e3,e4,e5⟩:=h;have tp:=k.tups' hd;obtain ⟨vs,q1,_⟩:=id e4;exact ⟨e1,t,l,e2,tp _ _ e3,e4.kp tp k (iK q1 hd (fun z=>nomatch z)),e5⟩
theorem oF.length {B H:Hp}:∀{kvs:List (Key×V)} {D:Bw},oF B H kvs D->kvs.length=D.length
 | [],[],_=>rfl
 | _::_,_::_,h=>by rw [List.length_cons,List.length_cons,oF.length h.2]
 | [],_::_,h=>h.elim
 | _::_,[],h=>h.elim
theorem oF.val {B H:Hp} (g:Int):∀{kvs:List (Key×V)} {D:Bw},oF B H kvs D->(cD kvs (Sum.inl g)=none/\eX D g=none) \/ ∃r t l,cD kvs (Sum.inl g)=some (.ref t)/\eX D g=some r/\H t=some (.tup [.int r.1,.ref l])/\cJ H l r.2/\B l=none
 | [],[],_=> .inl ⟨rfl,rfl⟩
 | [],_::_,h=>h.elim
 | _::_,[],h=>h.elim
 | p::ps,e::es,h=>by
   obtain ⟨⟨e1,t,l,e2,e3,e4,e5⟩,h2⟩:=h
   by_cases q:e.1=g
   ·refine .inr ⟨e.2,t,l, ?_, ?_,e3,e4,e5⟩
    ·rw [dU (by rw [e1,q]),e2]
    ·unfold eX;rw [List.find?_cons];simp [q]
   ·have ih:=oF.val g h2
    rw [dW (by rw [e1];intro z;exact q (Sum.inl.inj z))];have:eX (e::es) g=eX es g:=by unfold eX;rw [List.find?_cons];simp [q]
    rw [this];exact ih
theorem oF.repl {B H:Hp} {g m:Int} {c:List Nt} {t l:Addr} (ht:H t=some (.tup [.int m,.ref l])) (hl:cJ H l c) (bl:B l=none):∀{kvs:List (Key×V)} {D:Bw},oF B H kvs D->oF B H (kvs.map fun kv=>if kv.1=Sum.inl g then (kv.1,V.ref t) else kv) (D.map fun e=>if e.1=g then (g,(m,c)) else e)
 | [],[],_=>True.intro
 | [],_::_,h=>h.elim
 | _::_,[],h=>h.elim
 | p::ps,e::es,h=>by
   obtain ⟨h1,h2⟩:=h;refine ⟨?_,oF.repl ht hl bl h2⟩;have e1:=h1.1;dsimp only
   by_cases q:e.1=g
   ·rw [if_pos (show p.1=Sum.inl g by rw [e1,q]),if_pos q]
    exact ⟨by rw [←q];exact e1,t,l,rfl,ht,hl,bl⟩
   ·rw [if_neg (show ¬p.1=Sum.inl g by rw [e1];intro z;exact q (Sum.inl.inj z)),if_neg q]
    exact h1
theorem oF.snoc {B H:Hp} {p:Key×V} {e:Int×Int×List Nt} (h:vh B H p e):∀{kvs:List (Key×V)} {D:Bw},oF B H kvs D->oF B H (kvs++[p]) (D++[e])
 | [],[],_=>⟨h,True.intro⟩
 | [],_::_,h=>h.elim
 | _::_,[],h=>h.elim
 | _::_,_::_,h'=>⟨h'.1,oF.snoc h h'.2⟩
theorem oF.put {B H:Hp} {g m:Int} {c:List Nt} {t l:Addr} (ht:H t=some (.tup [.int m,.ref l])) (hl:cJ H l c) (bl:B l=none) {kvs:List (Key×V)} {D:Bw} (h:oF B H kvs D):oF B H (putK kvs (Sum.inl g) (.ref t)) (put3 D g (m,c)):=by
 unfold putK put3;rw [jX];rcases h.val g with ⟨e1,e2⟩|⟨r,t',l',e1,e2,_⟩
 ·rw [e1,e2]
  exact oF.snoc ⟨rfl,t,l,rfl,ht,hl,bl⟩ h
 ·rw [e1,e2]
  exact oF.repl ht hl bl h
theorem GC (C L:Bw) (x:Nt):(i_ C L x).length<=L.length+1:=by
 have p:∀g r,(put3 L g r).length<=L.length+1:=fun g r=>by
  unfold put3;split
  ·rw [List.length_map];omega
  ·rw [List.length_append];exact Nat.le_refl _
 unfold i_;split
 ·omega
 ·split
  ·split
   ·exact p _ _
   ·split
    ·exact p _ _
    ·omega
  ·omega
theorem Ov {c A B:Prop} [Decidable c] (P:Prop) (hA:P->A) (hc:c->P) (hB:¬c->(P->A)->B):if c then A else B:=by
 by_cases h:c
 ·rw [if_pos h];exact hA (hc h)
 ·rw [if_neg h];exact hB h hA
def sW (K:PySem.W.Frag):Sp:=fun vs H Q _=>∃(t c a d:Addr) (cs:List Int) (ns:List Nt) (C:Bw) (B:Hp),vs=[.ref t,.ref d]/\Same B H/\RecAt H t c a cs ns/\ns.length<=100000/\M_ B H d C/\(∀e∈C,e.2.2.length<=100) /\ ∀(d':Addr) (H':Hp),H d'=none->M_ B H' d' (Af ns C)->Same H H'->Q (.ref d') H'
theorem Hj {f:Addr} {fd:FuncData} (F:jq K "longer_chains" "longer_chains" bN f fd):cH P w K mg base iZ 1 f fd ["record","chains"] (sW K):=by
 refine F.ok fG (fun vs H Q E h=> ?_) (fun cdv A outer s H vs Q E hr h=> ?_)
 ·obtain ⟨t,c,a,d,cs,ns,C,B,rfl,_⟩:=h
  rfl
 ·obtain ⟨t,c,a,d,cs,ns,C,B,rfl,sB,R,nl,⟨kc,hd,cr⟩,cl,k⟩:=h
  have hu:=lM hr;obtain ⟨ht,hc,Q6,ha,dn⟩:=id R;have V6:Q6.length=ns.length:=by rw [dn.length,List.length_map]
  refine ⟨_,(aB (aO (i:=2) fG.nd rfl (Or.inl rfl) o7)
   (aB (gP PassesOwn.never rfl (bM (K:=K) rfl (aK (aG (K:=K) rfl) (pv 0) ao (fun _ _=>rfl))) (bh (i:=3) fG.nd rfl (Or.inl rfl))
   (aB (aO (i:=4) fG.nd rfl (Or.inl rfl) (zT hu (pv 1) (aK (aG (K:=K) rfl) (pv 3) ao (fun _ _=>rfl)) ⟨rfl,rfl,rfl,rfl⟩))
   (aC (cj (PW.pt (mz (bf o9 (pv 4) iy (aY _)) (jG (bf tW (aK (aG (K:=K) rfl) (pv 4) ao (fun _ _=>rfl)) (aK (aG (K:=K) rfl) (pv 3) ao (fun _ _=>rfl)) (aY _))))) (aC (cj (PW.pt (iJ (SQ (Hg hu (aK (aG (K:=K) rfl) (pv 3) ao (fun _ _=>rfl)) (pv 2))) (gO (bf pA (aK (aG (K:=K) rfl) (pv 3) ao (fun _ _=>rfl)) (aK (Pz (K:=K) rfl) (jH hu (pv 2) (aK (aG (K:=K) rfl) (pv 3) ao (fun _ _=>rfl)) (fun _ _=>rfl)) ao (fun _ _=>rfl)) (aY _))))) (aC (oZ hu (pv 2) (aK (aG (K:=K) rfl) (pv 3) ao (fun _ _=>rfl)) (jP (aj (aK (aG (K:=K) rfl) (pv 3) ao (fun _ _=>rfl)) (aj (bG Ko (aK (aG (K:=K) rfl) (pv 4) ao (fun _ _=>rfl)) (dX (aj (pv 3) aA))) aA))) rfl)) bw)) bw))))
   (aC (aP (pv 2))))), ?_⟩
  intro f hf;have s1:=aD (o:=HO.dK []) hf;refine ⟨_,rfl,_,_,_,_,rfl,rfl,bL.of (s1 _ _ ht),rfl,a,rfl,⟨_,aZ.of (s1 _ _ ha)⟩, ?_⟩
  refine jD (K:=K) (a:=a) (xs:=Q6) (fun i σ H2=>∃(x1 x2:Option V) (kvs:List (Key×V)) (L:Bw),σ=[some (.ref t),some (.ref d),some (.ref f),x1,x2]/\Same H H2/\H2 f=some (.dK kvs)/\oF B H2 kvs L/\L.length<=i/\Af ns C=(ns.drop i).foldl (i_ C) L)
   ⟨none,none,[],[],rfl,s1,au,True.intro,Nat.zero_le _,rfl⟩ (fun i σ H2 _ ⟨_,_,_,_,_,sm,_⟩=>aZ.of (sm _ _ ha)) ?_ ?_
  ·rintro i v σ H2 hi ⟨x1,x2,kvs,L,rfl,sm,hF,rel,ll,fold⟩
   obtain ⟨x,w,ex,rfl,hx⟩:=eV dn hi;have il:i<ns.length:=(List.getElem?_eq_some_iff.mp ex).1;have hx2:=sm _ _ hx;have hd2:=sm _ _ hd;have cr2:oF B H2 kc C:=cr.imp fun _ _ h=>h.same sm
   have dr:ns.drop i=x::ns.drop (i+1):=by
    rw [List.drop_eq_getElem_cons il];congr 1;exact (List.getElem?_eq_some_iff.mp ex).2
   rw [dr,List.foldl_cons] at fold;have kl:=rel.length;refine ⟨_,rfl,d,rfl,.inl ⟨_,.inl hd2⟩,_,rfl,_,_,_,_,rfl,rfl,bL.of hx2,rfl,_,h_.k (k:=Sum.inl x.1) hd2, ?_⟩;have st0:i_ C L x=L -> ∃(y1 y2:Option V) (kvs':List (Key×V)) (L':Bw),[some (V.ref t),some (.ref d),some (.ref f),some (.ref w),some ((cD kc (Sum.inl x.1)).getD .non)]=[some (.ref t),some (.ref d),some (.ref f),y1,y2]/\Same H H2/\H2 f=some (.dK kvs')/\oF B H2 kvs' L'/\L'.length<=i+1/\Af ns C=(ns.drop (i+1)).foldl (i_ C) L':=fun es=>⟨_,_,kvs,L,rfl,sm,hF,rel,by omega,by rw [fold,es]⟩;refine ⟨_,rfl,rfl,_,rfl, ?_⟩;rcases cr2.val x.1 with ⟨e1,e2⟩|⟨r,tc,lc,e1,e2,htc,hlc,_⟩
   ·rw [e1] at st0 ⊢
    refine iM (fun q=>absurd q (by simp)) (fun _=> ?_);exact st0 (by unfold i_;rw [e2])
   rw [e1] at st0 ⊢;refine iM (fun _=> ?_) (fun q=>absurd (by simp) q);refine ⟨_,rfl,_,_,_,_,rfl,rfl,bL.of htc,rfl,_,rfl,_,_,_,_,rfl,rfl,bL.of hx2,rfl,_,_,rfl,rfl,_,rfl, ?_⟩
   by_cases w1:r.1<=x.2.1
   rotate_left
   ·rw [decide_eq_false w1]
    refine b_ ?_;exact st0 (by unfold i_;rw [e2];dsimp only;rw [if_neg w1])
   rw [decide_eq_true w1];refine fX ?_;refine ⟨_,rfl,_,_,_,_,rfl,rfl,bL.of hx2,rfl,_,rfl,f,_,rfl,h_.k (k:=Sum.inl x.2.2.1) hF,_,rfl, ?_⟩;refine Ov (i_ C L x=put3 L x.2.2.1 (x.2.2.2,r.2++[x])) (fun es=> ?_) (fun z=> ?_) (fun z body=> ?_)
   ·obtain ⟨wl,hl2,dl2⟩:=id hlc
    have wll:wl.length=r.2.length:=by rw [dl2.length,List.length_map]
    have rl:r.2.length<=100:=cl _ (jZ e2);refine ⟨_,rfl,_,_,_,_,rfl,rfl,bL.of hx2,rfl,_,rfl,_,_,_,_,rfl,rfl,bL.of htc,rfl,_,rfl,(by show 1<=sizeLine;decide),fun p1 hp1=> ?_⟩;have u1:=aD (o:=HO.lst [V.ref w]) hp1;refine ⟨lc,p1,_,_,rfl,rfl,u1 _ _ hl2,au,by rw [sizeLine_eq,List.length_singleton];omega,fun p2 hp2=> ?_⟩;have u2:=aD (o:=HO.lst (wl++[V.ref w])) hp2;refine ⟨(by show 2<=sizeLine;decide),fun p3 hp3=> ?_⟩;have u3:=aD (o:=HO.tup [V.int x.2.2.2,V.ref p2]) hp3;have Ng:=(u1.trans u2).trans u3
    have N3:cJ (upd (upd (upd H2 p1 (.lst [V.ref w])) p2 (.lst (wl++[V.ref w]))) p3 (.tup [V.int x.2.2.2,V.ref p2])) p2 (r.2++[x]):=⟨_,u3 _ _ au,by
     rw [List.map_append];exact wN (aF.keep Ng.tups _ (bx _ dI _) dl2) (oA (Ng _ _ hx2))⟩
    have T3:(upd (upd (upd H2 p1 (.lst [V.ref w])) p2 (.lst (wl++[V.ref w]))) p3 (.tup [V.int x.2.2.2,V.ref p2])) p3=some (.tup [.int x.2.2.2,.ref p2]):=au;have WK:=Ng _ _ hF;have bl3:B p2=none:=(sB.trans sm).free (u1.free hp2);have S3:=sm.trans Ng;have Vx:oF B _ kvs L:=rel.imp fun _ _ h=>h.same Ng;have hx3:=Ng _ _ hx2;generalize (upd (upd (upd H2 p1 (.lst [V.ref w])) p2 (.lst (wl++[V.ref w]))) p3 (.tup [V.int x.2.2.2,V.ref p2]))=H3 at N3 T3 WK S3 Vx hx3 ⊢;refine ⟨_,rfl,_,rfl,_,_,_,_,rfl,rfl,bL.of hx3,rfl,f,_,rfl,vm.k (k:=Sum.inl x.2.2.1) WK (by rw [sizeLine_eq];omega), ?_⟩;have kf:Kp f H3 (upd H3 f (.dK (putK kvs (Sum.inl x.2.2.1) (.ref p3)))):=Kp.set;refine ⟨_,_,_,put3 L x.2.2.1 (x.2.2.2,r.2++[x]),rfl,fun b u e=>kf _ _ (S3 _ _ e) (aL e hf),au,(oF.put T3 N3 bl3 Vx).imp fun _ _ h=>h.kp WK kf, ?_,by rw [fold,es]⟩;rw [←es];have:=GC C L x;omega
   ·rcases rel.val x.2.2.1 with ⟨f1,f2⟩|⟨q,tq,lq,f1,f2,htq,hlq,_⟩
    ·unfold i_;rw [e2];dsimp only;rw [if_pos w1,f2]
    ·rw [f1] at z;exact absurd z (by simp)
   ·rcases rel.val x.2.2.1 with ⟨f1,f2⟩|⟨q,tq,lq,f1,f2,htq,hlq,_⟩
    ·rw [f1] at z;exact absurd (by simp) z
    refine ⟨_,rfl,_,_,_,_,rfl,rfl,bL.of hx2,rfl,_,rfl,_,rfl,_,_,_,_,rfl,rfl,bL.of hx2,rfl,f,_,rfl,.inl ⟨_,Sum.inl x.2.2.1,.inl hF,rfl,f1.symm⟩,.inr (.inl ⟨tq,_,0,_,rfl,rfl,bL.of htq,rfl,_,_,rfl,rfl,_,rfl, ?_⟩)⟩
    by_cases w2:x.2.2.2<q.1
    ·rw [decide_eq_true w2]
     exact body (by unfold i_;rw [e2];dsimp only;rw [if_pos w1,f2];dsimp only;rw [if_pos w2])
    ·rw [decide_eq_false w2]
     refine b_ ?_;exact st0 (by unfold i_;rw [e2];dsimp only;rw [if_pos w1,f2];dsimp only;rw [if_neg w2])
  ·rintro σ H2 ⟨x1,x2,kvs,L,rfl,sm,hF,rel,ll,fold⟩
   refine ⟨_,rfl,k f H2 hf ⟨kvs,hF, ?_⟩ sm⟩;rw [V6,List.drop_length,List.foldl_nil] at fold;rw [fold];exact rel
def Lk:List Nt->Prop
 | []=>True
 | [_]=>True
 | x::y::r=>Q9 x y/\Lk (y::r)
theorem lC {x:Nt} {r:List Nt}:∀(l:List Nt),Lk (l++x::r)↔Lk (l++[x])/\Lk (x::r)
 | []=>⟨fun h=>⟨True.intro,h⟩,fun h=>h.2⟩
 | [y]=>⟨fun h=>⟨⟨h.1,True.intro⟩,h.2⟩,fun h=>⟨h.1.1,h.2⟩⟩
 | y::z::l=>by
   have ih:=lC (x:=x) (r:=r) (z::l);constructor
   ·intro h
    have h2:Lk ((z::l)++x::r):=h.2;exact ⟨⟨h.1,(ih.mp h2).1⟩,(ih.mp h2).2⟩
   ·intro h
    exact ⟨h.1.1,ih.mpr ⟨h.1.2,h.2⟩⟩
theorem rW {y z:Nt} (e:y.1=z.1) (le:y.2.1<=z.2.1):∀(l:List Nt),Lk (l++[y])->Lk (l++[z])
 | [],_=>True.intro
 | [w],h=>⟨⟨h.1.1.trans e,Int.le_trans h.1.2 le⟩,True.intro⟩
 | w::v::l,h=>⟨h.1,rW e le (v::l) h.2⟩
def BL (ns c:List Nt):Prop:=∃x r,c=x::r/\(∀y∈c,y∈ns)/\Lk (x::r++[x])
theorem qH {α:Type} (f:α->Int):∀(c:List α),¬(c.map f).Nodup -> ∃a y b z d,c=a++y::b++z::d/\f y=f z
 | [],h=>absurd List.nodup_nil h
 | x::r,h=>by
   rw [List.map_cons,List.nodup_cons] at h
   by_cases m:f x∈r.map f
   ·obtain ⟨z,hz,e⟩:=List.mem_map.mp m
    obtain ⟨b,d,rfl⟩:=List.append_of_mem hz;exact ⟨[],x,b,z,d,rfl,e.symm⟩
   ·obtain ⟨a,y,b,z,d,rfl,e⟩:=qH f r fun nd=>h ⟨m,nd⟩
    exact ⟨x::a,y,b,z,d,rfl,e⟩
theorem Ad {n:Nat} {l:List Int} (h:∀x∈l,0<=x/\x<n) (lt:n<l.length):¬l.Nodup:=fun nd=>by
 have h2:(l.map Int.toNat).Nodup:=by
  refine List.pairwise_map.mpr (List.Pairwise.imp_of_mem (fun {a b} ha hb ne z=>ne ?_) nd);have:=h a ha;have:=h b hb;omega
 have:=t_ n _ h2 fun x hx=>by
  obtain ⟨y,hy,rfl⟩:=List.mem_map.mp hx;have:=h y hy;omega
 rw [List.length_map] at this;omega
theorem GX {cs:List Int} {ns:List Nt} (ok:dh cs ns) {c:List Nt} (R:BL ns c) (lt:cs.length<c.length):∃c',BL ns c'/\c'.length<c.length:=by
 obtain ⟨x,r,rfl,mem,lk⟩:=R
 obtain ⟨a,y,b,z,d,ec,e⟩:=qH (fun t:Nt=>t.1) (x::r) (Ad (n:=cs.length) (fun v hv=>by
  obtain ⟨t,ht,rfl⟩:=List.mem_map.mp hv;exact (ok.2.2 t (mem t ht)).1) (by rw [List.length_map];exact lt))
 rw [ec] at lk mem lt ⊢;have lk1:Lk (a++y::(b++z::(d++[x]))):=by simpa using lk
 obtain ⟨l1,l2⟩:=(lC a).mp lk1;have l3:Lk ((y::b)++z::(d++[x])):=l2;obtain ⟨l4,l5⟩:=(lC (y::b)).mp l3;rcases Int.le_total z.2.1 y.2.1 with w|w
 ·refine ⟨y::b,⟨y,b,rfl,fun v hv=>mem v ?_,rW e.symm w _ l4⟩,by simp;omega⟩
  exact List.mem_append.mpr (.inl (List.mem_append.mpr (.inr hv)))
 ·have l6:=rW e w _ l1
  cases a with
  | nil=>
    have ex:x=y:=by simpa using (List.cons.inj ec).1
    subst ex;refine ⟨z::d,⟨z,d,rfl,fun v hv=>mem v ?_,rW e w (z::d) l5⟩,by simp;omega⟩;simp only [List.nil_append,List.mem_append];exact .inr hv
  | cons x' a=>
    have ex:x=x':=by simpa using (List.cons.inj ec).1
    subst ex;refine ⟨x::(a++z::d),⟨x,_,rfl,fun v hv=>mem v ?_, ?_⟩,by simp;omega⟩
    ·simp only [List.cons_append,List.mem_cons,List.mem_append] at hv ⊢
     rcases hv with hv|hv|hv
     ·exact .inl hv
     ·exact .inr (.inl (.inl hv))
     ·exact .inr (.inr hv)
    ·have:Lk ((x::a)++z::(d++[x])):=(lC (x::a)).mpr ⟨l6,l5⟩
     simpa using this
theorem tK {cs:List Int} {ns:List Nt} (ok:dh cs ns):∀(n:Nat) (c:List Nt),c.length<=n->BL ns c -> ∃c',BL ns c'/\c'.length<=cs.length/\c'.length<=c.length
 | 0,c,l,R=>by
   obtain ⟨x,r,rfl,_⟩:=R;simp at l
 | n+1,c,l,R=>by
   by_cases h:c.length<=cs.length
   ·exact ⟨c,R,h,Nat.le_refl _⟩
   ·obtain ⟨c1,R1,l1⟩:=GX ok R (by omega)
    obtain ⟨c2,R2,l2,l3⟩:=tK ok n c1 (by omega) R1;exact ⟨c2,R2,l2,by omega⟩
theorem Uq {ns:List Nt} {h k:Int} {c:List Nt} {g m:Int} (hc:Gp ns h k c g m):(∀y∈c,y∈ns)/\(∀x r,c=x::r->x.1=h/\k<=x.2.1)/\(c=[]->g=h/\m=k) /\ ∀y:Nt,g=y.1->m<=y.2.1->Lk (c++[y]):=by
 induction hc with
 | nil=>exact ⟨fun y hy=>(by cases hy),fun x r e=>(by cases e),fun _=>⟨rfl,rfl⟩,fun y _ _=>True.intro⟩
 | @snoc c g m x hc hx e1 e2 ih=>
   obtain ⟨i1,i2,i3,i4⟩:=ih;refine ⟨fun y hy=> ?_,fun z r e=> ?_,fun e=>(by simp at e),fun y f1 f2=> ?_⟩
   ·rcases List.mem_append.mp hy with hy|hy
    ·exact i1 y hy
    ·have:y=x:=by simpa using hy
     exact this▸hx
   ·cases c with
    | nil=>
      obtain ⟨j1,j2⟩:=i3 rfl;have:x=z:=by simpa using (List.cons.inj e).1
      subst this;exact ⟨e1.trans j1,by omega⟩
    | cons z' c=>
      have:z'=z:=by simpa using (List.cons.inj e).1
      subst this;exact i2 z' c rfl
   ·have:=i4 x e1.symm e2
    rw [List.append_assoc];exact (lC c).mpr ⟨this,⟨⟨f1,f2⟩,True.intro⟩⟩
theorem G3 {ns:List Nt} {h k:Int} {c:List Nt} (R:j9 ns h k c):BL ns c:=by
 obtain ⟨ne,m,hc,le⟩:=R;obtain ⟨i1,i2,_,i4⟩:=Uq hc;cases c with
 | nil=>exact absurd rfl ne
 | cons x r=>
   obtain ⟨j1,j2⟩:=i2 x r rfl;exact ⟨x,r,rfl,i1,i4 x j1.symm (by omega)⟩
theorem K8 {ns:List Nt}:∀(n:Nat) (l:List Nt) (x y:Nt) (r:List Nt),l.length=n->l=x::r->(∀z∈l,z∈ns)->Lk (l++[y]) -> ∃m,Gp ns x.1 x.2.1 l y.1 m/\m<=y.2.1
 | 0,l,x,y,r,hl,e,_,_=>by subst e;simp at hl
 | n+1,l,x,y,r,hl,e,mem,lk=>by
   rcases List.eq_nil_or_concat l with rfl|⟨l',w,rfl⟩
   ·cases e
   have hw:w∈ns:=mem w (by simp);cases l' with
   | nil=>
     have:w=x:=by simpa using (List.cons.inj e).1
     subst this;have h:Q9 w y:=lk.1;refine ⟨w.2.2.2, ?_,h.2⟩;rw [←h.1];exact Gp.snoc (c:=[]) .nil hw rfl (Int.le_refl _)
   | cons x' r'=>
     have:x'=x:=by simpa using (List.cons.inj e).1
     subst this;have lk2:Lk ((x'::r')++w::[y]):=by simpa using lk
     obtain ⟨l1,l2⟩:=(lC (x'::r')).mp lk2;obtain ⟨m,hc,hm⟩:=K8 n (x'::r') x' w r' (by simpa using hl) rfl (fun z hz=>mem z (by simp only [List.concat_eq_append,List.mem_append];exact .inl hz)) l1;have h:Q9 w y:=l2.1;refine ⟨w.2.2.2, ?_,h.2⟩;rw [←h.1,List.concat_eq_append];exact .snoc hc hw rfl hm
theorem wz {ns:List Nt} {x:Nt} {r:List Nt} (R:BL ns (x::r)):j9 ns x.1 x.2.1 (x::r):=by
 obtain ⟨x',r',e,mem,lk⟩:=R;cases e;obtain ⟨m,hc,hm⟩:=K8 _ (x::r) x x r rfl rfl mem lk;exact ⟨by simp,m,hc,hm⟩
theorem wL {ns:List Nt} {h k:Int} {n:Nat} {C:Bw} (B:Best ns h k n C):∀(ys ms:List Nt) (L:Bw),(∀y∈ys,y∈ns)->Half ns ms h k n L->Half ns (ms++ys) h k n (ys.foldl (i_ C) L)
 | [],ms,L,_,A=>by rw [List.append_nil];exact A
 | y::ys,ms,L,hy,A=>by
   have:=wL B ys (ms++[y]) (i_ C L y) (fun z hz=>hy z (by simp [hz])) (H_ B A (hy y (by simp)));rw [List.append_assoc] at this;exact this
theorem Hw {ns:List Nt} {h k:Int} {n:Nat} {C:Bw} (B:Best ns h k n C):Best ns h k (n+1) (Af ns C):=Ia (wL B ns [] [] (fun _ h=>h) (WD ns h k n))
def nR (K:PySem.W.Frag):Sp:=fun vs H Q _=>∃(t c a st:Addr) (cs:List Int) (ns:List Nt) (h k:Int),vs=[.ref t,.ref st]/\RecAt H t c a cs ns/\dh cs ns/\H st=some (.tup [.int h,.int k]) /\
 (∀H',Same H H'->(∀c',j9 ns h k c'->cs.length<c'.length)->Q .non H') /\ ∀(p:Addr) (c':List Nt) (H':Hp),Same H H'->H p=none->cJ H' p c'->j9 ns h k c'->c'.length<=cs.length->(∀c2,j9 ns h k c2->c'.length<=c2.length)->Q (.ref p) H'
theorem zW {f:Addr} {fd:FuncData} (F:jq K "ring_from" "ring_from" dz f fd) (rN:FnAt P w K mg base 1 "longer_chains" ["record","chains"] (sW K)) (Bt:nA mg):cH P w K mg base iZ 2 f fd ["record","start"] (nR K):=by
 refine F.ok gD (fun vs H Q E h=> ?_) (fun cdv A outer s H vs Q E hr h=> ?_)
 ·obtain ⟨t,c,a,st,cs,ns,h,k,rfl,_⟩:=h
  rfl
 ·obtain ⟨t,c,a,st,cs,ns,h,k,rfl,R,ok,hst,kN,kR⟩:=h
  have hu:=lM hr;have c8:=ok.1.1;have nl:=ok.2.1
  refine ⟨_,(aB (aO (i:=2) gD.nd rfl (Or.inl rfl) (Ke (aK (aG (K:=K) rfl) (pv 1) ao (fun _ _=>rfl)) (jP (aj (aK (aG (K:=K) rfl) (pv 1) ao (fun _ _=>rfl)) (aj (dX aA) aA)))))
   (aB (gP PassesOwn.never rfl (fO (by rfl) Bt.iH (aj (aV (aU (K:=K) rfl) (by rfl) Bt.fV dj (aj (aK (aG (K:=K) rfl) (pv 0) ao (fun _ _=>rfl)) aA)) aA)) (bh (i:=3) gD.nd rfl (Or.inl rfl))
   (aB (aO (i:=2) gD.nd rfl (Or.inl rfl) (aN rN (hr.mono (by decide)) (by rfl) (aj (pv 0) (aj (pv 2) aA))))
   (aB (aO (i:=4) gD.nd rfl (Or.inl rfl) (zT hu (pv 2) (aK (aG (K:=K) rfl) (pv 1) ao (fun _ _=>rfl)) ⟨rfl,rfl,rfl,rfl⟩))
   (aC (cj (PW.pt (mz (bf o9 (pv 4) iy (aY _)) (jG (bf tW (aK (aG (K:=K) rfl) (pv 4) ao (fun _ _=>rfl)) (aK (aG (K:=K) rfl) (pv 1) ao (fun _ _=>rfl)) (aY _))))) (aC (aP (aK (aG (K:=K) rfl) (pv 4) ao (fun _ _=>rfl)))) bw)))))
   (aC (aP iy)))), ?_⟩
  intro d hd;have s1:=aD (o:=HO.dK []) hd;refine ⟨_,rfl,_,_,_,_,rfl,rfl,bL.of (s1 _ _ hst),rfl, ?_⟩;refine ⟨_,rfl,_,_,_,_,rfl,rfl,bL.of (s1 _ _ hst),rfl,(by show 0<=sizeLine;decide),fun l hl=> ?_⟩;have s2:=aD (o:=HO.lst []) hl;refine ⟨(by show 2<=sizeLine;decide),fun p hp=> ?_⟩;have s3:=aD (o:=HO.tup [V.int k,V.ref l]) hp;have GQ:=s2.trans s3;have hd0:(upd (upd (upd H d (.dK [])) l (.lst [])) p (.tup [V.int k,V.ref l])) d=some (.dK []):=GQ _ _ au;refine ⟨Sum.inl h,rfl,hd0, ?_⟩;have kd:Kp d (upd (upd (upd H d (.dK [])) l (.lst [])) p (.tup [V.int k,V.ref l])) (upd (upd (upd (upd H d (.dK [])) l (.lst [])) p (.tup [V.int k,V.ref l])) d (.dK [(Sum.inl h,V.ref p)])):=Kp.set;have S4:Same H (upd (upd (upd (upd H d (.dK [])) l (.lst [])) p (.tup [V.int k,V.ref l])) d (.dK [(Sum.inl h,V.ref p)])):=fun b u e=>kd _ _ (GQ _ _ (s1 _ _ e)) (aL e hd);have N4:cJ (upd (upd (upd H d (.dK [])) l (.lst [])) p (.tup [V.int k,V.ref l])) l []:=⟨[],s3 _ _ au,by simp [aF]⟩;have E4:vh H (upd (upd (upd H d (.dK [])) l (.lst [])) p (.tup [V.int k,V.ref l])) (Sum.inl h,V.ref p) (h,k,[]):=⟨rfl,p,l,rfl,au,N4,s1.free hl⟩;have CA4:M_ H (upd (upd (upd (upd H d (.dK [])) l (.lst [])) p (.tup [V.int k,V.ref l])) d (.dK [(Sum.inl h,V.ref p)])) d [(h,k,[])]:=⟨_,au,E4.kp hd0 kd,True.intro⟩;generalize (upd (upd (upd (upd H d (.dK [])) l (.lst [])) p (.tup [V.int k,V.ref l])) d (.dK [(Sum.inl h,V.ref p)]))=H4 at S4 CA4 ⊢;have R4:=R.same S4;clear kd hd0 s1 s2 s3 GQ N4 E4 hl hp hd;refine ⟨_,rfl,_,_,_,_,rfl,rfl,bL.of R4.1,rfl,c,_,rfl,.inl (aZ.of R4.2.1),_,rfl,by rw [List.length_map];omega,by rw [List.length_map];omega, ?_⟩;have Ph:(((cs.map V.int).length:Nat):Int).toNat=cs.length:=by simp
  rw [Ph]
  refine qG (lo:=0) (n:=cs.length) (fun i σ H5=>∃(d:Addr) (C:Bw) (x1 x2:Option V),σ=[some (.ref t),some (.ref st),some (.ref d),x1,x2]/\Same H H5/\M_ H H5 d C/\Best ns h k i C /\ ∀c',j9 ns h k c'->i<c'.length)
   ⟨d,_,none,none,rfl,S4,CA4,XM ns h k,fun c' r=>List.length_pos_iff.mpr r.1⟩ ?_ ?_
  ·rintro i σ H5 hi ⟨d,C,x1,x2,rfl,S5,CA5,B5,no⟩
   refine ⟨_,rfl,_,rfl,t,c,a,d,cs,ns,C,H,rfl,S5,R.same S5,by omega,CA5,fun e he=>by rw [(B5.ch e he).2];omega,fun d' H6 hd' CA6 s6=> ?_⟩;have S6:=S5.trans s6;have Wv:=S6 _ _ hst;obtain ⟨kvs,Zk,cr6⟩:=id CA6;have B6:=Hw B5;refine ⟨_,rfl,d',rfl,.inl ⟨_,.inl Zk⟩,_,rfl,_,_,_,_,rfl,rfl,bL.of Wv,rfl,_,h_.k (k:=Sum.inl h) Zk, ?_⟩
   have go:(∀r,eX (Af ns C) h=some r -> ¬r.1<=k) -> ∃(d:Addr) (C:Bw) (x1 x2:Option V),[some (V.ref t),some (.ref st),some (.ref d'),some (.int (0+(i:Int))),some ((cD kvs (Sum.inl h)).getD .non)]=[some (.ref t),some (.ref st),some (.ref d),x1,x2]/\Same H H6/\M_ H H6 d C/\Best ns h k (i+1) C /\ ∀c',j9 ns h k c'->i+1<c'.length:=fun nr=>by
    refine ⟨d',_,_,_,rfl,S6,CA6,B6,fun c' r=> ?_⟩;have l1:=no c' r
    by_cases e:c'.length=i+1
    ·obtain ⟨ne,m,hc,le⟩:=r
     obtain ⟨q,hq,q1,q2⟩:=B6.le c' h m hc e;have:=ug B6.nd hq;rw [q1] at this;exact absurd (Int.le_trans q2 le) (nr _ this)
    ·omega
   refine ⟨_,rfl,rfl,_,rfl, ?_⟩;rcases cr6.val h with ⟨e1,e2⟩|⟨r,tc,lc,e1,e2,htc,hlc,fl⟩
   ·rw [e1] at go ⊢
    refine iM (fun q=>absurd q (by simp)) (fun _=> ?_);exact go fun r z=>by rw [e2] at z;cases z
   rw [e1] at go ⊢;refine iM (fun _=> ?_) (fun q=>absurd (by simp) q);refine ⟨_,rfl,_,_,_,_,rfl,rfl,bL.of htc,rfl,_,rfl,_,_,_,_,rfl,rfl,bL.of Wv,rfl,_,_,rfl,rfl,_,rfl, ?_⟩
   by_cases w:r.1<=k
   ·rw [decide_eq_true w]
    refine fX ?_;obtain ⟨rc,rl⟩:=B6.ch _ (jZ e2);refine ⟨_,rfl,_,_,_,_,rfl,rfl,bL.of htc,rfl, ?_⟩;refine kR lc r.2 H6 S6 fl hlc ⟨fun z=> ?_,r.1,rc,w⟩ (by rw [show r.2.length=i+1 from rl];omega) fun c2 r2=>by rw [show r.2.length=i+1 from rl];exact no c2 r2
    have rl2:r.2.length=i+1:=rl;rw [z] at rl2;cases rl2
   ·rw [decide_eq_false w]
    refine b_ ?_;exact go fun r' z=>by rw [e2] at z;cases z;exact w
  ·rintro σ H5 ⟨d,C,x1,x2,rfl,S5,CA5,B5,no⟩
   exact kN H5 S5 no
def qD (x:Nt):PyData:= .tuple [.tuple [.int x.1,.int x.2.1],.bool true]
def Lf (x:Nt):List Key:=[Sum.inl x.1,Sum.inl x.2.1]
def QW (x:Nt):List Key×V:=(Lf x,V.bl true)
theorem W4 {H:Hp} {t u:Addr} {x:Nt} (h:H t=some (.tup [.ref u,.bl true])) (hu:H u=some (.tup [.int x.1,.int x.2.1])):Dat H (.ref t) (qD x):=by
 simp only [qD,Dat];exact ⟨t,_,rfl,h,by simp only [aF,Dat,and_true];exact ⟨u,_,rfl,hu,by simp only [aF,Dat,and_self]⟩⟩
theorem Ii {H:Hp} {v:V} {x:Nt} (h:Dat H v (qD x)):∃t u,v = .ref t/\H t=some (.tup [.ref u,.bl true])/\H u=some (.tup [.int x.1,.int x.2.1]):=by
 simp only [qD,Dat] at h;obtain ⟨t,vs,e,q,d⟩:=h
 match vs,d with
 | [a,b],d=>
   simp only [aF,Dat,and_true] at d;obtain ⟨⟨u,ws,rfl,hu,dw⟩,rfl⟩:=d
   match ws,dw with
   | [a',b'],dw=>
     simp only [aF,Dat,and_true] at dw;obtain ⟨rfl,rfl⟩:=dw;exact ⟨t,u,e,q,hu⟩
   | [],dw=>simp only [aF] at dw
   | [_],dw=>simp only [aF,and_false] at dw
   | _::_::_::_,dw=>simp only [aF,and_false] at dw
 | [],d=>simp only [aF] at d
 | [_],d=>simp only [aF,and_false] at d
 | _::_::_::_,d=>simp only [aF,and_false] at d
theorem A_ {H:Hp}:∀{vs:List V} {ds:List PyData} {i:Nat} {v:V} {d:PyData},aF H vs ds->vs[i]? = some v->ds[i]? = some d->Dat H v d
 | [],[],_,_,_,_,h,_=>by simp at h
 | _::_,_::_,0,_,_,h,h1,h2=>by simp at h1 h2;subst h1;subst h2;simp only [aF] at h;exact h.1
 | _::_,_::_,i+1,_,_,h,h1,h2=>by simp only [aF] at h;exact A_ (i:=i) h.2 (by simpa using h1) (by simpa using h2)
 | [],_::_,_,_,_,h,_,_=>by simp only [aF] at h
 | _::_,[],_,_,_,h,_,_=>by simp only [aF] at h
theorem pairs_at {H:Hp}:∀{ws:List V} {ns:List Nt},aF H ws (ns.map qD)->sI H ws (ns.map QW):=fun {ws ns} d=>by
 refine ⟨by rw [d.length,List.length_map,List.length_map],fun i v p hv hp=> ?_⟩;rw [List.getElem?_map] at hp;cases e:ns[i]? with
 | none=>rw [e] at hp;cases hp
 | some x=>
   rw [e] at hp;cases hp;have:=A_ d hv (show (ns.map qD)[i]? = some (qD x) by rw [List.getElem?_map,e];rfl);obtain ⟨t,u,e1,e2,e3⟩:=Ii this;exact ⟨t,u,e1,e2,e3⟩
theorem G6 (l:List (List Key×V)) (k:List Key) (v:V) (z:List Key):z∈(putK l k v).map (·.1)↔z=k\/z∈l.map (·.1):=by
 unfold putK;split
 ·rename_i h
  obtain ⟨q,hq,e⟩:=List.any_eq_true.mp h;have e:=of_decide_eq_true e
  have em:(l.map fun kv=>if kv.1=k then (kv.1,v) else kv).map (·.1)=l.map (·.1):=by
   rw [List.map_map];refine List.map_congr_left fun y _=> ?_;show (if y.1=k then (y.1,v) else y).1=y.1;split<;>rfl
  rw [em];constructor
  ·exact .inr
  ·rintro (rfl|h)
   ·exact List.mem_map.mpr ⟨q,hq,e⟩
   ·exact h
 ·rw [List.map_append,List.mem_append]
  simp only [List.map_cons,List.map_nil,List.mem_singleton];exact ⟨fun h=>h.symm,fun h=>h.symm⟩
theorem wA (z:List Key):∀(ps l:List (List Key×V)),z∈(lu l ps).map (·.1)↔z∈l.map (·.1)\/z∈ps.map (·.1)
 | [],l=>by simp [lu]
 | p::ps,l=>by
   show z∈(lu (putK l p.1 p.2) ps).map (·.1)↔_;rw [wA z ps (putK l p.1 p.2),G6,List.map_cons,List.mem_cons];constructor
   ·rintro ((h|h)|h)
    ·exact .inr (.inl h)
    ·exact .inl h
    ·exact .inr (.inr h)
   ·rintro (h|h|h)
    ·exact .inl (.inr h)
    ·exact .inl (.inl h)
    ·exact .inr h
theorem Ck {ns:List Nt} {z:List Key}:z∈(lu [] (ns.map QW)).map (·.1) ↔ ∃x∈ns,z=Lf x:=by
 rw [wA,List.map_map];simp only [List.map_nil,List.not_mem_nil,false_or,List.mem_map,Function.comp];exact ⟨fun ⟨x,hx,e⟩=>⟨x,hx,e.symm⟩,fun ⟨x,hx,e⟩=>⟨x,hx,e.symm⟩⟩
def uY (B H:Hp) (cs:List Int) (ns:List Nt) (ks:List (List Key)) (sv:V):Prop:=
 (sv = .non /\ ∀h k,[Sum.inl h,Sum.inl k]∈ks -> ∀c',j9 ns h k c'->cs.length<c'.length) \/
 ∃p cc,sv = .ref p/\B p=none/\cJ H p cc/\BL ns cc/\cc.length<=cs.length /\ ∀h k,[Sum.inl h,Sum.inl k]∈ks -> ∀c',j9 ns h k c'->cc.length<=c'.length
def oH (K:PySem.W.Frag):Sp:=fun vs H Q _=>∃(t c a:Addr) (cs:List Int) (ns:List Nt),vs=[.ref t]/\RecAt H t c a cs ns/\dh cs ns /\
 ((∀ms,¬BL ns ms) -> ∀H',Same H H'->Q .non H') /\
 (∀(p:Addr) (cc:List Nt) (H':Hp),Same H H'->H p=none->cJ H' p cc->BL ns cc->cc.length<=cs.length->(∀ms,BL ns ms->cc.length<=ms.length)->Q (.ref p) H')
theorem Ks {f:Addr} {fd:FuncData} (F:jq K "ring" "ring" kY f fd) (bH:FnAt P w K mg base 4 "check_notes" ["record"] (gC K)) (Br:FnAt P w K mg base 2 "ring_from" ["record","start"] (nR K)) (Bt:nA mg):cH P w K mg base iZ 5 f fd ["record"] (oH K):=by
 refine F.ok m5 (fun vs H Q E h=> ?_) (fun cdv A outer s H vs Q E hr h=> ?_)
 ·obtain ⟨t,c,a,cs,ns,rfl,_⟩:=h
  rfl
 ·obtain ⟨t,c,a,cs,ns,rfl,R,ok,kN,kR⟩:=h
  have nl0:=ok.2.1;have hu:=lM hr;have cX:=hr.units
  refine ⟨_,(aB (cg (aN bH (hr.mono (by decide)) (by rfl) (aj (pv 0) aA)))
   (aB (aO (i:=1) m5.nd rfl (Or.inl rfl) iy)
   (aB (aO (i:=2) m5.nd rfl (Or.inl rfl) (fP (Bf (K:=K) rfl rfl hr.xJ) (by rfl) Bt.Uw Qj (aj (cU rfl (N:=["note"]) (own:=["note"]) (caps:=[]) (aQ.of (by kernel_rfl)) (bM (K:=K) rfl (aK (aG (K:=K) rfl) (pv 0) ao (fun _ _=>rfl))) (fun _ _ _ _=>(bh (i:=0) (show List.Nodup (["note"]:List Str) by decide +kernel) rfl (Or.inl rfl))) (fun _ _ _ _=>cZ) (fun _ _ _ _=>(jP (aj (cM (gj (K:=K) rfl) (pv 0) dO (dN ao)) (aj fU aA))))) aA)))
   (aB (J6 (gP PassesOwn.never rfl (Ka (pv 2)) (bh (i:=3) m5.nd rfl (Or.inl rfl))
   (aB (aO (i:=4) m5.nd rfl (Or.inl rfl) (aN Br (hr.mono (by decide)) (by rfl) (aj (pv 0) (aj (pv 3) aA))))
   (aC (cj (PW.pt (mz (bf o9 (pv 4) iy (aY _)) (jG (PW.pt (iJ (bf CQ (pv 1) iy (aY _)) (gO (bf pA (aV (aU (K:=K) rfl) (by rfl) Bt.fV dj (aj (pv 4) aA)) (aV (aU (K:=K) rfl) (by rfl) Bt.fV dj (aj (pv 1) aA)) (aY _)))))))) (aC (aO (i:=1) m5.nd rfl (Or.inl rfl) (pv 4))) bw)))))
   (aC (aP (pv 1))))))), ?_⟩
  refine ⟨_,rfl,t,c,a,cs,ns,rfl,R,ok,fun H1 s1=> ?_⟩;have R1:=R.same s1;obtain ⟨ht1,hc1,Q6,ha1,dn⟩:=id R1;have V6:Q6.length=ns.length:=by rw [dn.length,List.length_map]
  refine ⟨_,rfl,_,_,_,_,rfl,rfl,bL.of ht1,rfl,a,rfl,⟨_,aZ.of ha1⟩,fun D hD=> ?_⟩;refine wW (K:=K) (fun i=>(ns[i]?).map qD) (fun i d e=> ?_) hD (aZ.of ha1) (by omega) (fun i v H2 G F hi s2 kG kF=> ?_) (fun H2 ws s2 e2 d2=> ?_)
  ·cases ex:ns[i]? with
   | none=>rw [ex] at e;cases e
   | some x=>rw [ex] at e;cases e;rfl
  ·obtain ⟨x,q,ex,rfl,hx⟩:=eV dn hi
   have hx2:=s2 _ _ hx;refine ⟨_,rfl,_,rfl,_,_,rfl,bL.of hx2,qj _ rfl,fun p1 hp1=> ?_⟩;have c1:iQ (nV x) none (some 2)=[.int x.1,.int x.2.1]:=wQ ..;rw [c1];have u1:=aD (o:=HO.tup [V.int x.1,V.int x.2.1]) hp1;refine ⟨(by show 2<=sizeLine;decide),fun p2 hp2=> ?_⟩;have u2:=aD (o:=HO.tup [V.ref p1,V.bl true]) hp2;exact kF _ (qD x) _ (u1.trans u2) (by rw [ex];rfl) (W4 au (u2 _ _ au))
  rw [V6,sE] at d2;have S2:=s1.trans s2;refine ⟨D,ws,ns.map QW,rfl,aZ.of e2,pairs_at d2,fun q hq=> ?_⟩;have uq:(upd H2 q (.dT (lu [] (ns.map QW)))) q=some (.dT (lu [] (ns.map QW))):=au;have s3:=aD (o:=HO.dT (lu [] (ns.map QW))) hq;have hq0:H q=none:=S2.free hq;have hkeys:∀z,z∈(lu [] (ns.map QW)).map (·.1) ↔ ∃x∈ns,z=Lf x:=fun z=>Ck;generalize lu [] (ns.map QW)=kvs at uq s3 hkeys ⊢;refine ⟨_,rfl,q,_,rfl,uq,fun ob=> ?_⟩;have kq:Kp q (upd H2 q (.dT kvs)) (upd (upd H2 q (.dT kvs)) q (.iV ob (.dT kvs))):=Kp.set;have kfz:Same H2 (upd (upd H2 q (.dT kvs)) q (.iV ob (.dT kvs))):=fun b u e=>kq _ _ (s3 _ _ e) (aL e hq)
  refine Ui (fun i σ H5=>∃(sv:V) (x1 x2:Option V),σ=[some (.ref t),some sv,some (.ref q),x1,x2]/\Same H2 H5/\H5 q=some (.iV ob (.dT kvs))/\uY H H5 cs ns ((kvs.take i).map (·.1)) sv)
   ⟨.non,none,none,rfl,kfz,au,.inl ⟨rfl,fun h k z=>(by cases z)⟩⟩ (fun i σ H5 _ ⟨_,_,_,_,_,e,_⟩=>e) ?_ ?_
  ·rintro i kk vv b σ H5 hi hb ⟨sv,x1,x2,rfl,s5,uo,sh⟩
   have tk:(kvs.take (i+1)).map (·.1)=(kvs.take i).map (·.1)++[kk]:=by rw [List.take_add_one,hi,List.map_append];rfl
   obtain ⟨x,hx,rfl⟩:=(hkeys kk).mp (List.mem_map.mpr ⟨(kk,vv),List.mem_of_getElem? hi,rfl⟩);have S5:=S2.trans s5
   have key:∀{h k:Int},[Sum.inl h,Sum.inl k]∈(kvs.take (i+1)).map (·.1)->[Sum.inl h,Sum.inl k]∈(kvs.take i).map (·.1)\/(h=x.1/\k=x.2.1):=fun {h k} z=>by
    rw [tk] at z;rcases List.mem_append.mp z with z|z
    ·exact .inl z
    ·have:([Sum.inl h,Sum.inl k]:List Key)=Lf x:=by simpa using z
     unfold Lf at this;injection this with z1 z2
     injection z2 with z2 _
     exact .inr ⟨Sum.inl.inj z1,Sum.inl.inj z2⟩
   dsimp only;refine yd (fun σ H6=>∃fv:V,σ=[some (.ref t),some sv,some (.ref q),some (.ref b),some fv]/\Same H5 H6/\((fv = .non /\ ∀c',j9 ns x.1 x.2.1 c'->cs.length<c'.length) \/ ∃p cc,fv = .ref p/\H p=none/\cJ H6 p cc/\j9 ns x.1 x.2.1 cc/\cc.length<=cs.length /\ ∀c2,j9 ns x.1 x.2.1 c2->cc.length<=c2.length)) (fun D' hD' _=> ?_) ?_
   ·exact ⟨_,rfl,_,rfl,t,c,a,b,cs,ns,x.1,x.2.1,rfl,R.same S5,ok,hb,fun H6 s6 no=>hD' _ _ ⟨_,rfl,s6,.inl ⟨rfl,no⟩⟩,fun p cc H6 s6 fp N r1 r2 r3=>hD' _ _ ⟨_,rfl,s6,.inr ⟨p,cc,rfl,S5.free fp,N,r1,r2,r3⟩⟩⟩
   rintro σ H6 ⟨fv,rfl,s6,hfv⟩
   have sh6:uY H H6 cs ns ((kvs.take i).map (·.1)) sv:=by
    rcases sh with h|⟨p,cc,e1,e2,e3,e4⟩
    ·exact .inl h
    ·exact .inr ⟨p,cc,e1,e2,e3.same s6,e4⟩
   have fin:∀sv':V,uY H H6 cs ns ((kvs.take (i+1)).map (·.1)) sv' -> ∃(sv:V) (x1 x2:Option V),[some (V.ref t),some sv',some (.ref q),some (.ref b),some fv]=[some (.ref t),some sv,some (.ref q),x1,x2]/\Same H2 H6/\H6 q=some (.iV ob (.dT kvs))/\uY H H6 cs ns ((kvs.take (i+1)).map (·.1)) sv:=fun sv' h=>⟨sv',_,_,rfl,s5.trans s6,s6 _ _ uo,h⟩;refine ⟨_,rfl,rfl,_,rfl, ?_⟩;rcases hfv with ⟨rfl,no⟩|⟨p,cc,rfl,fp,N,r1,r2,r3⟩
   ·refine iM (fun z=>absurd z (by simp)) (fun _=> ?_)
    refine fin sv ?_;rcases sh6 with ⟨e1,e2⟩|⟨p,cc,e1,e2,e3,e4,e5,e6⟩
    ·refine .inl ⟨e1,fun h k z=> ?_⟩
     rcases key z with z|⟨rfl,rfl⟩
     ·exact e2 h k z
     ·exact no
    ·refine .inr ⟨p,cc,e1,e2,e3,e4,e5,fun h k z=> ?_⟩
     rcases key z with z|⟨rfl,rfl⟩
     ·exact e6 h k z
     ·intro c' rc
      have:=no c' rc;omega
   refine iM (fun _=> ?_) (fun z=>absurd (by simp) z)
   have new:(∀h k,[Sum.inl h,Sum.inl k]∈(kvs.take i).map (·.1) -> ∀c',j9 ns h k c'->cc.length<=c'.length)->uY H H6 cs ns ((kvs.take (i+1)).map (·.1)) (.ref p):=fun old=>by
    refine .inr ⟨p,cc,rfl,fp,N,G3 r1,r2,fun h k z=> ?_⟩;rcases key z with z|⟨rfl,rfl⟩
    ·exact old h k z
    ·exact r3
   refine ⟨_,rfl,rfl,_,rfl, ?_⟩;rcases sh6 with ⟨rfl,e2⟩|⟨p0,cc0,rfl,e2,e3,e4,e5,e6⟩
   ·refine iM (fun _=> ?_) (fun z=>absurd (by simp) z)
    exact ⟨_,rfl,fin _ (new fun h k z c' rc=>by have:=e2 h k z c' rc;omega)⟩
   refine iM (fun z=>absurd z (by simp)) (fun _=> ?_);obtain ⟨v1,hp1,dp1⟩:=id N;obtain ⟨v2,hp2,dp2⟩:=id e3;have l1:v1.length=cc.length:=by rw [dp1.length,List.length_map]
   have l2:v2.length=cc0.length:=by rw [dp2.length,List.length_map]
   refine ⟨_,rfl,p,_,rfl,.inl (aZ.of hp1),_,rfl,p0,_,rfl,.inl (aZ.of hp2),_,_,rfl,rfl,_,rfl, ?_⟩
   by_cases w:cc.length<cc0.length
   ·rw [decide_eq_true (show ((v1.length:Nat):Int)<(v2.length:Nat) by omega)]
    refine fX ?_;exact ⟨_,rfl,fin _ (new fun h k z c' rc=>by have:=e6 h k z c' rc;omega)⟩
   ·rw [decide_eq_false (show ¬((v1.length:Nat):Int)<(v2.length:Nat) by omega)]
    refine b_ ?_;refine fin _ (.inr ⟨p0,cc0,rfl,e2,e3,e4,e5,fun h k z=> ?_⟩);rcases key z with z|⟨rfl,rfl⟩
    ·exact e6 h k z
    ·intro c' rc
     have:=r3 c' rc;omega
  ·rintro σ H5 ⟨sv,x1,x2,rfl,s5,uo,sh⟩
   refine ⟨_,⟨q,_,ob,_,uq,uo,rfl⟩, ?_⟩;have kq2:Kp q H5 (upd H5 q (.dT kvs)):=Kp.set;have S6:Same H (upd H5 q (.dT kvs)):=fun b u e=>kq2 _ _ (s5 _ _ (S2 _ _ e)) (aL e hq0);rw [List.take_length] at sh;rcases sh with ⟨rfl,no⟩|⟨p,cc,rfl,e2,e3,e4,e5,e6⟩
   ·refine ⟨_,rfl,kN (fun ms r=> ?_) _ S6⟩
    obtain ⟨c',r1,l1,_⟩:=tK ok ms.length ms (Nat.le_refl _) r;obtain ⟨x,r',rfl,mem,_⟩:=id r1;have:=no x.1 x.2.1 ((hkeys _).mpr ⟨x,mem x (by simp),rfl⟩) _ (wz r1);omega
   ·have np:p≠q:=fun z=>by
     obtain ⟨vs,h1,_⟩:=e3;rw [z,uo] at h1;cases h1
    refine ⟨_,rfl,kR p cc _ S6 e2 (e3.kp (fun a xs h=>kq2 _ _ h (iK h uo (fun z=>nomatch z))) kq2 np) e4 e5 fun ms r=> ?_⟩;obtain ⟨x,r',rfl,mem,_⟩:=id r;exact e6 x.1 x.2.1 ((hkeys _).mpr ⟨x,mem x (by simp),rfl⟩) _ (wz r)
theorem uK {H:Hp}:∀{vs:List V} {ds:List PyData} (i:Nat),aF H vs ds->aF H (vs.eraseIdx i) (ds.eraseIdx i)
 | [],[],_,h=>by simpa using h
 | _::_,_::_,0,h=>by simp only [aF,List.eraseIdx_cons_zero] at h ⊢;exact h.2
 | _::_,_::_,i+1,h=>by simp only [aF,List.eraseIdx_cons_succ] at h ⊢;exact ⟨h.1,uK i h.2⟩
 | [],_::_,_,h=>by simp only [aF] at h
 | _::_,[],_,h=>by simp only [aF] at h
theorem nZ {α β:Type} (f:α->β):∀(l:List α) (m:Nat),(l.map f).eraseIdx m=(l.eraseIdx m).map f
 | [],_=>rfl
 | _::_,0=>rfl
 | x::l,m+1=>by simp only [List.map_cons,List.eraseIdx_cons_succ,nZ f l m]
def BJ (x y:Nt):Bool:=decide (x.2.2.1=y.1)&&decide (x.2.2.2<=y.2.1)
def Q5 (ns:List Nt) (x:Nt):Bool:= !decide (x.1=x.2.2.1)&&decide (x∈ns)
def JN (ms:List Nt):List Nt:=ms.drop 1++ms.take 1
def Gi (ns ms:List Nt):Prop:=ms≠[] /\ ∀j x y,ms[j]? = some x->ms[(j+1) % ms.length]? = some y->x∈ns/\BJ x y=true
theorem Ey (ms:List Nt) (j:Nat) (hj:j<ms.length):(JN ms)[j]? = ms[(j+1) % ms.length]? :=by
 unfold JN
 by_cases h:j+1<ms.length
 ·rw [Nat.mod_eq_of_lt h,List.getElem?_append_left (by rw [List.length_drop];omega),List.getElem?_drop,Nat.add_comm]
 ·have e:j+1=ms.length:=by omega
  rw [e,Nat.mod_self,List.getElem?_append_right (by rw [List.length_drop];omega),List.length_drop];have:j - (ms.length - 1)=0:=by omega
  rw [this,List.getElem?_take_of_lt (by omega)]
theorem Ew (ms:List Nt):(JN ms).length=ms.length:=by
 unfold JN;rw [List.length_append,List.length_drop,List.length_take];omega
theorem MP (ns:List Nt) (x:Nt):((ns.map nD).any fun e=>PyData.eqv e (nD x))=decide (x∈ns):=by
 rw [Bool.eq_iff_iff,List.any_eq_true,decide_eq_true_iff];constructor
 ·rintro ⟨e,he,q⟩
  obtain ⟨y,hy,rfl⟩:=List.mem_map.mp he;rw [mQ,decide_eq_true_iff] at q;exact q▸hy
 ·intro h
  exact ⟨nD x,List.mem_map.mpr ⟨x,h,rfl⟩,by rw [mQ,decide_eq_true_iff]⟩
theorem jt (x:Nt):SeqAt.shaped (nD x)=true:=rfl
theorem LC {α β γ:Type} (g:α->β->γ):∀(xs:List α) (ys:List β),xs.length=ys.length->(List.range xs.length).filterMap (fun i=>(xs[i]?).bind fun x=>(ys[i]?).map fun y=>g x y)=List.zipWith g xs ys
 | [],[],_=>rfl
 | [],_::_,h=>by simp at h
 | _::_,[],h=>by simp at h
 | x::xs,y::ys,h=>by
   have ih:=LC g xs ys (by simpa using h);rw [List.length_cons,List.range_succ_eq_map,List.filterMap_cons,List.filterMap_map];simp only [List.getElem?_cons_zero,Option.bind_some,Option.map_some,List.zipWith_cons_cons];rw [←ih];rfl
def xU (K:PySem.W.Frag):Sp:=fun vs H Q _=>∃(t u:Addr) (x y:Nt),vs=[.ref t,.ref u]/\H t=some (.tup (nV x))/\H u=some (.tup (nV y))/\Q (.bl (BJ x y)) H
theorem KC {f:Addr} {fd:FuncData} (F:jq K "leads_to" "leads_to" d9 f fd):cH P w K mg base iZ 1 f fd ["note","following"] (xU K):=by
 refine F.ok zK (fun vs H Q E h=> ?_) (fun cdv A outer s H vs Q E hr h=> ?_)
 ·obtain ⟨t,u,x,y,rfl,_⟩:=h
  rfl
 ·obtain ⟨t,u,x,y,rfl,ht,hu,q⟩:=h
  refine ⟨_,(aC (aP (nY (cI mH (aK (aG (K:=K) rfl) (pv 0) ao (fun _ _=>rfl)) (aK (aG (K:=K) rfl) (pv 1) ao (fun _ _=>rfl)) (aY _)) (jQ (cI tW (aK (aG (K:=K) rfl) (pv 0) ao (fun _ _=>rfl)) (aK (aG (K:=K) rfl) (pv 1) ao (fun _ _=>rfl)) (aY _)))))), ?_⟩;refine ⟨_,rfl,_,_,_,_,rfl,rfl,bL.of ht,rfl,_,rfl,_,_,_,_,rfl,rfl,bL.of hu,rfl,rfl,_,rfl, ?_⟩
  by_cases e:x.2.2.1=y.1
  ·refine iM (fun _=> ?_) (fun z=>absurd (decide_eq_true (by rw [e])) z)
   refine ⟨_,rfl,_,_,_,_,rfl,rfl,bL.of ht,rfl,_,rfl,_,_,_,_,rfl,rfl,bL.of hu,rfl,_,_,rfl,rfl, ?_⟩;have:BJ x y=decide (x.2.2.2<=y.2.1):=by simp [BJ,e]
   rw [this] at q;exact q
  ·refine iM (fun z=>absurd (of_decide_eq_true z) (fun w=>e (by injection w))) (fun _=> ?_)
   have:BJ x y=false:=by simp [BJ,e]
   rw [this] at q;exact q
def Cq (K:PySem.W.Frag):Sp:=fun vs H Q _=>∃(t c a p:Addr) (cs:List Int) (ns ms:List Nt),vs=[.ref t,.ref p]/\RecAt H t c a cs ns/\dh cs ns/\cJ H p ms/\ms.length<=200 /\ ∀(bl:Bool) (H':Hp),(bl=true↔Gi ns ms)->Same H H'->Q (.bl bl) H'
theorem GZ {cs:List Int} {ns ms:List Nt} (ok:dh cs ns) (ne:ms≠[]) (al:(ms.map (Q5 ns)).all id=true):(List.zipWith BJ ms (JN ms)).all id=true↔Gi ns ms:=by
 have al':∀x∈ms,x∈ns:=fun x hx=>by
  rw [List.all_map,List.all_eq_true] at al;have:=al x hx;simp only [Function.comp,id,Q5,Bool.and_eq_true,decide_eq_true_eq] at this;exact this.2
 rw [List.all_eq_true];constructor
 ·intro h
  refine ⟨ne,fun j x y ex ey=>⟨al' x (List.mem_of_getElem? ex), ?_⟩⟩;have hj:=(List.getElem?_eq_some_iff.mp ex).1;rw [←Ey ms j hj] at ey;refine h _ (List.mem_of_getElem? (i:=j) ?_);rw [List.getElem?_zipWith,ex,ey];rfl
 ·intro h b hb
  obtain ⟨j,hj⟩:=List.getElem?_of_mem hb;rw [List.getElem?_zipWith] at hj;cases ex:ms[j]? with
  | none=>rw [ex] at hj;simp at hj
  | some x=>
    cases ey:(JN ms)[j]? with
    | none=>rw [ex,ey] at hj;simp at hj
    | some y=>
      rw [ex,ey] at hj;simp at hj;have hjl:=(List.getElem?_eq_some_iff.mp ex).1;rw [Ey ms j hjl] at ey;rw [←hj];exact (h.2 j x y ex ey).2
theorem OJ {f:Addr} {fd:FuncData} (F:jq K "ring_shows" "ring_shows" cN f fd) (bH:FnAt P w K mg base 4 "check_notes" ["record"] (gC K)) (qO:FnAt P w K mg base 2 "is_note" ["value"] (oK K)) (Eb:FnAt P w K mg base 1 "leads_to" ["note","following"] (xU K)) (Bt:nA mg):cH P w K mg base iZ 5 f fd ["record","some"] (Cq K):=by
 refine F.ok vD (fun vs H Q E h=> ?_) (fun cdv A outer s H vs Q E hr h=> ?_)
 ·obtain ⟨t,c,a,p,cs,ns,ms,rfl,_⟩:=h
  rfl
 ·obtain ⟨t,c,a,p,cs,ns,ms,rfl,R,ok,N,ml,k⟩:=h
  refine ⟨_,(aB (cg (aN bH (hr.mono (by decide)) (by rfl) (aj (pv 0) aA)))
   (aB (cj (PW.pt (iJ (cW (m9 (K:=K) rfl (pv 1))) (gO (cW (cT (aV (bZ (K:=K) rfl rfl) (by rfl) Bt.rm mU (aj (cU rfl (N:=["note","record"]) (own:=["note"]) (caps:=[0]) (aQ.of (by kernel_rfl)) (bM (K:=K) rfl (pv 1)) (fun _ _ _ _=>(bh (i:=0) (show List.Nodup (["note","record"]:List Str) by decide +kernel) rfl (Or.inl rfl))) (fun _ _ _ _=>cZ) (fun _ _ _ _=>(nY (aN qO (hr.mono (by decide)) (by rfl) (aj (pv 0) aA)) (jQ (cI (Ow (K:=K) rfl hr.xJ) (pv 0) (aK (aG (K:=K) rfl) (pv 1) ao (fun _ _=>rfl)) (by with_unfolding_all rfl)))))) aA))))))) (aC (aP fU)) bw)
   (aC (aP (aV (bZ (K:=K) rfl rfl) (by rfl) Bt.rm mU (aj (cU rfl (N:=["note","following"]) (own:=["note","following"]) (caps:=[]) (aQ.of (by kernel_rfl)) (Fj (K:=K) rfl (by rfl) Bt.Rk (aj (pv 1) (aj (bG Ko (cM (oN (K:=K) rfl) (pv 1) (dN ao) dO) (cM (oN (K:=K) rfl) (pv 1) dO (dN ao))) aA))) (fun _ _ _ _=>(yq (K:=K) (n:=2) rfl rfl (jY (bh (i:=0) (show List.Nodup (["note","following"]:List Str) by decide +kernel) rfl (Or.inl rfl)) (jY (bh (i:=1) (show List.Nodup (["note","following"]:List Str) by decide +kernel) rfl (Or.inl rfl)) yp)))) (fun _ _ _ _=>cZ) (fun _ _ _ _=>(aN Eb (hr.mono (by decide)) (by rfl) (aj (pv 0) (aj (pv 1) aA))))) aA)))))), ?_⟩
  refine ⟨_,rfl,t,c,a,cs,ns,rfl,R,ok,fun H1 s1=> ?_⟩;obtain ⟨ht1,hc1,us,ha1,du1⟩:=id (R.same s1);obtain ⟨vs,hp1,dv1⟩:=id (N.same s1);have vl:vs.length=ms.length:=by rw [dv1.length,List.length_map]
  refine ⟨_,rfl, !vs.isEmpty,.inl ⟨vs,aZ.of hp1,rfl⟩, ?_⟩
  by_cases e0:ms=[]
  ·have:vs=[]:=List.length_eq_zero_iff.mp (by rw [vl,e0];rfl)
   rw [this];refine fX ?_;exact k false H1 ⟨fun z=>(by cases z),fun z=>absurd e0 z.1⟩ s1
  have:vs.isEmpty=false:=by
   cases vs with
   | nil=>exact absurd (List.length_eq_zero_iff.mp vl.symm) e0
   | cons _ _=>rfl
  rw [this];refine b_ ?_;refine ⟨_,rfl,p,rfl,⟨_,aZ.of hp1⟩,fun D hD=> ?_⟩;refine eN (K:=K) (fun i=>(ms[i]?).map fun x=>V.bl (Q5 ns x)) hD (aZ.of hp1) (by omega) (fun i v H2 G F hi s2 kG kF=> ?_) (fun H2 s2 e2=> ?_)
  ·obtain ⟨x,q,ex,rfl,hx⟩:=eV dv1 hi
   refine ⟨_,rfl,q,x,rfl,s2 _ _ hx,fun H3 s3=>⟨_,rfl, ?_⟩⟩
   by_cases w:x.1=x.2.2.1
   ·rw [show (!decide (x.1=x.2.2.1))=false by simp [w]]
    refine b_ ?_;exact kF _ H3 s3 (by rw [ex];simp [Q5,w])
   ·rw [show (!decide (x.1=x.2.2.1))=true by simp [w]]
    refine fX ?_;have qb:=s2.trans s3;refine ⟨_,rfl,_,rfl,_,_,_,_,rfl,rfl,bL.of (qb _ _ ht1),rfl,a,us,nD x,ns.map nD,rfl,aZ.of (qb _ _ ha1),aF.keep qb.tups _ (bx _ dI _) du1,oA (s3 _ _ (s2 _ _ hx)),jt x,fun e he=> ?_, ?_⟩
    ·obtain ⟨y,_,rfl⟩:=List.mem_map.mp he
     exact jt y
    ·rw [if_neg (by decide),MP]
     exact kF _ H3 s3 (by rw [ex];simp [Q5,w])
  rw [vl,sE] at e2;refine ⟨D,ms.map (Q5 ns),rfl,aZ.of (by rw [e2,List.map_map];rfl),_,rfl, ?_⟩
  by_cases al:(ms.map (Q5 ns)).all id=true
  rotate_left
  ·rw [Bool.eq_false_iff.mpr al]
   refine fX ?_;refine k false H2 ⟨fun z=>(by cases z),fun z=>absurd ?_ al⟩ (s1.trans s2);rw [List.all_map,List.all_eq_true];intro x hx;obtain ⟨j,hj⟩:=List.getElem?_of_mem hx;have hjl:=(List.getElem?_eq_some_iff.mp hj).1;have hl2:(j+1) % ms.length<ms.length:=Nat.mod_lt _ (by omega);have hm:=(z.2 j x ms[(j+1) % ms.length] hj (by simp [hl2])).1;have:=(ok.2.2 x hm).2.2.2.2;simp [Q5,this,hm]
  rw [al];refine b_ ?_;have hp2:=s2 _ _ hp1;refine ⟨_,rfl,_,rfl,_,rfl,p,vs,rfl,aZ.of hp2,fun p1 hq1=> ?_⟩;rw [show iQ vs (some 1) none=vs.drop 1 from Ba vs 1];have u1:=aD (o:=HO.lst (vs.drop 1)) hq1;refine ⟨_,rfl,_,rfl,p,vs,rfl,aZ.of (u1 _ _ hp2),fun p2 hq2=> ?_⟩;rw [show iQ vs none (some 1)=vs.take 1 from pO vs 1];have u2:=aD (o:=HO.lst (vs.take 1)) hq2;refine ⟨p1,p2,_,_,rfl,rfl,u2 _ _ au,au,by rw [sizeLine_eq,List.length_drop,List.length_take];omega,fun p3 hq3=> ?_⟩;have u3:=aD (o:=HO.lst (vs.drop 1++vs.take 1)) hq3;have Ng:=(u1.trans u2).trans u3;have GQ:=s2.trans Ng;have dv3:=aF.keep GQ.tups _ (bx _ dI _) dv1
  have dr3:aF (upd (upd (upd H2 p1 (HO.lst (vs.drop 1))) p2 (HO.lst (vs.take 1))) p3 (HO.lst (vs.drop 1++vs.take 1))) (vs.drop 1++vs.take 1) ((JN ms).map nD):=by
   unfold JN;rw [List.map_append,List.map_drop,List.map_take];exact aF.append (dv3.drop 1) (dv3.take 1)
  have rl:(vs.drop 1++vs.take 1).length=ms.length:=by rw [dr3.length,List.length_map,Ew]
  refine ⟨p,p3,_,_,rfl,aZ.of (Ng _ _ hp2),aZ.of au,fun D2 hD2=> ?_⟩;refine wU (K:=K) (n:=ms.length) vl rl (fun i=>(ms[i]?).bind fun x=>((JN ms)[i]?).map fun y=>V.bl (BJ x y)) hD2 (aZ.of (Ng _ _ hp2)) (aZ.of au) (by omega) (fun i v w H4 G F hi hj s4 kG kF=> ?_) (fun H4 s4 e4=> ?_)
  ·obtain ⟨x,q,ex,rfl,hx⟩:=eV dv3 hi
   obtain ⟨y,q',ey,rfl,hy⟩:=eV dr3 hj;exact ⟨_,rfl,_,rfl,q,q',x,y,rfl,s4 _ _ hx,s4 _ _ hy,kF _ H4 (Same.refl _) (by rw [ex,ey];rfl)⟩
  rw [LC (fun x y=>V.bl (BJ x y)) ms (JN ms) (Ew ms).symm] at e4;refine ⟨D2,List.zipWith BJ ms (JN ms),rfl,aZ.of (by rw [e4,List.map_zipWith]), ?_⟩;exact k _ H4 (GZ ok e0 al) ((s1.trans GQ).trans s4)
def gY (cs os:List Int):Prop:=inR cs os /\ ∀h:Int,0<=h->h<cs.length->(os.count h:Int)=gI cs h
def gZ (os:List Int) (h:Int) (k:Nat) (p:Nat):Prop:=os[p]? = some h/\(os.take p).count h=k
theorem jR (os:List Int) (h:Int) {p q:Nat} (l:p<=q):(os.take p).count h<=(os.take q).count h:=by
 have e:os.take p=(os.take q).take p:=by rw [List.take_take,Nat.min_eq_left l]
 rw [e];exact List.Sublist.count_le _ (List.take_sublist ..)
theorem wK {os:List Int} {h:Int} {k p:Nat} (a:gZ os h k p):(os.take (p+1)).count h=k+1:=by
 rw [List.take_add_one,a.1];simp [a.2]
theorem iG {os:List Int} {h:Int} {k p i:Nat} (a:gZ os h k p):k<(os.take i).count h↔p<i:=by
 constructor
 ·intro l
  by_cases e:p<i
  ·exact e
  ·have:=jR os h (show i<=p by omega)
   rw [a.2] at this;omega
 ·intro l
  have:=jR os h (show p+1<=i by omega);rw [wK a] at this;omega
theorem FN {os:List Int} {h:Int} {k:Nat} (l:k<os.count h):∃p,gZ os h k p:=by
 have key:∀n,n<=os.length->k<(os.take n).count h -> ∃p,gZ os h k p:=by
  intro n
  induction n with
  | zero=>intro _ h;simp at h
  | succ n ih=>
    intro hn hk
    by_cases e:k<(os.take n).count h
    ·exact ih (by omega) e
    ·have hn':n<os.length:=hn
     have en:os[n]? = some os[n]:=by simp [hn']
     rw [List.take_add_one,en] at hk;simp only [Option.toList_some,List.count_append,List.count_singleton] at hk
     by_cases eh:os[n]=h
     ·refine ⟨n,by rw [en,eh], ?_⟩
      simp [eh] at hk;omega
     ·simp [eh] at hk
      omega
 exact key os.length (Nat.le_refl _) (by rw [List.take_length];exact l)
theorem tH {cs:List Int} {ns:List Nt}:∀{os ds:List Int},runK cs ns os ds=true ↔ ∀i h,os[i]? = some h->isFree cs ns ((os.take i).foldl stp ds) h=true
 | [],ds=>by simp [runK]
 | x::os,ds=>by
   simp only [runK];constructor
   ·intro r
    by_cases f:isFree cs ns ds x=true
    ·rw [if_pos f] at r
     intro i h e;cases i with
     | zero=>simp at e;subst e;exact f
     | succ i=>
       have:=(tH (os:=os)).mp r i h (by simpa using e);simpa using this
    ·rw [if_neg f] at r
     cases r
   ·intro r
    have f:isFree cs ns ds x=true:=by simpa using r 0 x rfl
    rw [if_pos f];refine (tH (os:=os)).mpr fun i h e=> ?_;have:=r (i+1) h (by simpa using e);simpa using this
theorem ou {cs:List Int}:∀{os ds:List Int},inR cs os->ds.length=cs.length -> ∀h:Int,0<=h->h<cs.length->gI (os.foldl stp ds) h=gI ds h+(os.count h:Nat)
 | [],ds,_,_,h,_,_=>by simp
 | x::os,ds,ir,dl,h,h0,h1=>by
   obtain ⟨x0,x1⟩:=ir x (by simp);rw [List.foldl_cons,ou (fun z hz=>ir z (by simp [hz])) (by simp [stp,dl]) h h0 h1];unfold stp;rw [mL x0 (by omega) h0,List.count_cons]
   by_cases e:h=x
   ·subst e;simp;omega
   ·have:¬x=h:=fun z=>e z.symm
    simp [e,this]
theorem WQ (cs:List Int) (i:Int):gI (zs cs) i=0:=by unfold gI zs;rw [List.getElem?_replicate];split<;>rfl
theorem j4 {cs os:List Int} {ns:List Nt} (ok:dh cs ns) (oo:gY cs os):runK cs ns os (zs cs)=true ↔ ∀x∈ns,∀p q,gZ os x.1 x.2.1.toNat p->gZ os x.2.2.1 x.2.2.2.toNat q->p<q:=by
 have st:∀(i:Nat) (h:Int),0<=h->h<cs.length->gI ((os.take i).foldl stp (zs cs)) h=((os.take i).count h:Nat):=fun i h h0 h1=>by
  rw [ou (fun z hz=>oo.1 z (List.mem_of_mem_take hz)) (by simp [zs]) h h0 h1,WQ];omega
 rw [tH];constructor
 ·intro r x hx p q ap aq
  obtain ⟨⟨a0,a1⟩,⟨b0,b1⟩,⟨o0,o1⟩,⟨m0,m1⟩,_⟩:=ok.2.2 x hx;have f:=r q x.2.2.1 aq.1;unfold isFree at f;simp only [Bool.and_eq_true,List.all_eq_true,decide_eq_true_eq] at f;have:=f.2 (ft x) (List.mem_map.mpr ⟨x,List.mem_filter.mpr ⟨hx,by rw [st q _ o0 o1,aq.2];simp;omega⟩,rfl⟩);have:x.2.1<gI ((os.take q).foldl stp (zs cs)) x.1:=this;rw [st q _ a0 a1] at this;exact (iG ap).mp (by omega)
 ·intro r i h e
  obtain ⟨h0,h1⟩:=oo.1 h (List.mem_of_getElem? e);have il:=(List.getElem?_eq_some_iff.mp e).1;unfold isFree;rw [st i h h0 h1];simp only [Bool.and_eq_true,Bool.not_eq_true',decide_eq_false_iff_not,List.all_eq_true,decide_eq_true_eq];have ai:gZ os h ((os.take i).count h) i:=⟨e,rfl⟩;constructor
  ·have c:=oo.2 h h0 h1
   have:=wK ai;have:=jR os h (show i+1<=os.length by omega);rw [List.take_length] at this;omega
  ·intro q hq
   obtain ⟨x,hx,rfl⟩:=List.mem_map.mp hq;obtain ⟨xm,xc⟩:=List.mem_filter.mp hx;simp only [Bool.and_eq_true,decide_eq_true_eq] at xc;obtain ⟨⟨a0,a1⟩,⟨b0,b1⟩,⟨o0,o1⟩,⟨m0,m1⟩,_⟩:=ok.2.2 x xm;have ca:=oo.2 x.1 a0 a1;obtain ⟨p,ap⟩:=FN (os:=os) (h:=x.1) (k:=x.2.1.toNat) (by omega)
   have aq:gZ os x.2.2.1 x.2.2.2.toNat i:=by
    rw [xc.1];exact ⟨e,by omega⟩
   have:=(iG ap).mpr (r x xm p i ap aq);show x.2.1<gI _ x.1;rw [st i _ a0 a1];omega
theorem ux {cs:List Int} {ns:List Nt}:∀{os ds:List Int},Ig cs ns os ds->runK cs ns os ds=true/\os.foldl stp ds=cs
 | [],ds,h=>⟨rfl,h⟩
 | x::os,ds,h=>by
   obtain ⟨hh,hr⟩:=h;have f:=(qu.mp (List.mem_of_mem_head? (by rw [hh];rfl))).2.2;obtain ⟨a,b⟩:=ux hr;refine ⟨?_,b⟩;simp only [runK];rw [if_pos f];exact a
theorem Ie {cs:List Int} {ns:List Nt} {os:List Int} (ir:inR cs os) (ol:os.length<=2400) (h:Ig cs ns os (zs cs)):iI cs os:=by
 refine ⟨ir,ol,fun x x0 x1=> ?_⟩;have q:=ou (ds:=zs cs) ir (by simp [zs]) x x0 x1;rw [(ux h).2] at q;have:gI (zs cs) x=0:=by unfold gI zs;rw [List.getElem?_replicate];split<;>rfl
 omega
def Rh (ds:List Int) (x:Nt):Prop:=x.2.2.2=gI ds x.2.2.1/\gI ds x.1<=x.2.1
theorem FT {cs:List Int} {ns:List Nt} (ok:dh cs ns) {ds:List Int} (d:bQ cs ds) (fr:jL cs ns ds=[]) {h:Int} (h0:0<=h) (h1:h<cs.length) (lt:gI ds h<gI cs h):∃x∈ns,x.2.2.1=h/\Rh ds x:=by
 refine Classical.byContradiction fun no=> ?_
 have:h∈jL cs ns ds:=by
  refine qu.mpr ⟨h0,h1, ?_⟩;unfold isFree;simp only [Bool.and_eq_true,Bool.not_eq_true',decide_eq_false_iff_not,List.all_eq_true,decide_eq_true_eq];refine ⟨by omega,fun q hq=> ?_⟩;obtain ⟨x,hx,rfl⟩:=List.mem_map.mp hq;obtain ⟨xm,xc⟩:=List.mem_filter.mp hx;simp only [Bool.and_eq_true,decide_eq_true_eq] at xc;refine Classical.byContradiction fun w=>no ⟨x,xm,xc.1,by rw [xc.1];exact xc.2, ?_⟩;have w:¬x.2.1<gI ds x.1:=w;omega
 rw [fr] at this;cases this
theorem Pj {x:Nt} {r:List Nt} (h:Lk (x::r)):Lk r:=by
 cases r with
 | nil=>exact True.intro
 | cons y r=>exact h.2
theorem sU {cs:List Int} {ns:List Nt} (ok:dh cs ns) (st:Stuck cs ns):∃c,BL ns c:=by
 obtain ⟨ds,d,ne,fr⟩:=st
 have ex:∃h:Int,0<=h/\h<cs.length/\gI ds h<gI cs h:=by
  refine Classical.byContradiction fun no=>ne (lJ.eq d.1 rfl (fun i i0 i1=>(d.2 i i0 i1).2) fun i i0 i1=> ?_);refine Classical.byContradiction fun w=>no ⟨i,i0,i1,by omega⟩
 obtain ⟨h,h0,h1,lt⟩:=ex
 have all:∀k:Nat,∃D:List Nt,D.length=k+1/\Lk D /\ ∀x∈D,x∈ns/\Rh ds x:=fun k=>by
  induction k with
  | zero=>
    obtain ⟨x,hx,_,hh⟩:=FT ok d fr h0 h1 lt;exact ⟨[x],rfl,True.intro,fun y hy=>by rw [List.mem_singleton.mp hy];exact ⟨hx,hh⟩⟩
  | succ k ih=>
    obtain ⟨D,dl,lk,al⟩:=ih;cases D with
    | nil=>cases dl
    | cons x D=>
      obtain ⟨hx,hh⟩:=al x (by simp);obtain ⟨⟨a0,a1⟩,⟨b0,b1⟩,_⟩:=ok.2.2 x hx;obtain ⟨y,hy,e,hy'⟩:=FT ok d fr a0 a1 (by have:=hh.2;omega);refine ⟨y::x::D,by simp at dl ⊢;exact dl,⟨⟨e, ?_⟩,lk⟩,fun z hz=> ?_⟩
      ·rw [hy'.1,e];exact hh.2
      ·rcases List.mem_cons.mp hz with rfl|hz
       ·exact ⟨hy,hy'⟩
       ·exact al z hz
 obtain ⟨D,dl,lk,al⟩:=all cs.length
 have dup:=Ad (n:=cs.length) (l:=D.map (·.2.2.1)) (fun v hv=>by
  obtain ⟨x,hx,rfl⟩:=List.mem_map.mp hv;exact (ok.2.2 x (al x hx).1).2.2.1) (by rw [List.length_map];omega)
 obtain ⟨a,y,b,z,e,rfl,eq⟩:=qH (·.2.2.1) D dup;have hy:=(al y (by simp)).2;have hz:=(al z (by simp)).2
 have V_:∀x∈b++[z],x∈ns:=fun x hx=>(al x (by
  rcases List.mem_append.mp hx with hx|hx
  ·simp [hx]
  ·simp [List.mem_singleton.mp hx])).1
 have l1:Lk (y::(b++[z])):=by
  have:Lk (a++y::(b++z::e)):=by simpa using lk
  have:=((lC a).mp this).2;have:Lk ((y::b)++z::e):=this;exact ((lC (y::b)).mp this).1
 have zy:∀w,Q9 y w->Q9 z w:=fun w h=>by
  refine ⟨by rw [←eq];exact h.1, ?_⟩;rw [hz.1,←eq,←hy.1];exact h.2
 cases b with
 | nil=>exact ⟨[z],z,[],rfl,V_,zy z l1.1,True.intro⟩
 | cons w b=>
   refine ⟨w::b++[z],w,b++[z],rfl,V_, ?_⟩;have l2:Lk (w::b++[z]):=Pj l1;have:Lk ((w::b)++z::[w]):=(lC (w::b)).mpr ⟨l2,zy w l1.1,True.intro⟩;simpa using this
theorem wJ {os:List Int} {h:Int} {k p q:Nat} (a:gZ os h k p) (b:gZ os h k q):p=q:=by
 have h1:¬p<q:=fun l=>by
  have:=(iG a (i:=q)).mpr l;have:=b.2;omega
 have h2:¬q<p:=fun l=>by
  have:=(iG b (i:=p)).mpr l;have:=a.2;omega
 omega
theorem HN {os:List Int} {h:Int} {k l p q:Nat} (a:gZ os h k p) (b:gZ os h l q) (le:k<=l):p<=q:=by
 refine Nat.le_of_not_lt fun w=> ?_;have h1:=(iG b (i:=p)).mpr w;have h2:=a.2;omega
theorem pG {cs os:List Int} (oo:gY cs os) {h k:Int} (h0:0<=h) (h1:h<cs.length) (k0:0<=k) (k1:k<gI cs h):∃p,gZ os h k.toNat p:=FN (by have:=oo.2 h h0 h1;omega)
theorem qd {cs os:List Int} {ns:List Nt} (ok:dh cs ns) (oo:gY cs os) (r:runK cs ns os (zs cs)=true):∀c,¬BL ns c:=by
 have ks:=(j4 ok oo).mp r
 have up:∀(l:List Nt) (x z:Nt),(∀y∈x::l,y∈ns)->z∈ns->Lk (x::l++[z]) -> ∀p q,gZ os x.1 x.2.1.toNat p->gZ os z.1 z.2.1.toNat q->p<q:=fun l=>by
  have one:∀x y:Nt,x∈ns->y∈ns->Q9 x y -> ∀p q,gZ os x.1 x.2.1.toNat p->gZ os y.1 y.2.1.toNat q->p<q:=fun x y hx hy ld p q ap aq=>by
   obtain ⟨_,_,⟨o0,o1⟩,⟨m0,m1⟩,_⟩:=ok.2.2 x hx;obtain ⟨m,am⟩:=pG oo o0 o1 m0 m1;have h1:=ks x hx p m ap am;have aq':gZ os x.2.2.1 y.2.1.toNat q:=by rw [ld.1];exact aq
   have h2:=HN am aq' (by have:=ld.2;omega);omega
  induction l with
  | nil=>intro x z hx hz lk p q ap aq;exact one x z (hx x (by simp)) hz lk.1 p q ap aq
  | cons y l ih=>
    intro x z hx hz lk p q ap aq;have hy:=hx y (by simp);obtain ⟨⟨a0,a1⟩,⟨b0,b1⟩,_⟩:=ok.2.2 y hy;obtain ⟨m,am⟩:=pG oo a0 a1 b0 b1;have h1:=one x y (hx x (by simp)) hy lk.1 p m ap am;have h2:=ih y z (fun w hw=>hx w (by simp at hw ⊢;exact .inr hw)) hz lk.2 m q am aq;omega
 rintro c ⟨x,l,rfl,mem,lk⟩;obtain ⟨⟨a0,a1⟩,⟨b0,b1⟩,_⟩:=ok.2.2 x (mem x (by simp));obtain ⟨p,ap⟩:=pG oo a0 a1 b0 b1;have:=up l x x mem (mem x (by simp)) lk p p ap ap;omega
def Jd (n:Nat) (os:List Int) (a:Nat):List Int:=(List.range n).map fun h:Nat=>(((os.take a).count (h:Int):Nat):Int)
theorem Ou (n:Nat) (os:List Int) (a:Nat):(Jd n os a).length=n:=by unfold Jd;simp
theorem Ds {n:Nat} {os:List Int} {a:Nat} {h:Int} (h0:0<=h) (h1:h<n):gI (Jd n os a) h=((os.take a).count h:Nat):=by
 obtain ⟨m,rfl⟩:=Int.eq_ofNat_of_zero_le h0;exact mO (by unfold Jd;rw [List.getElem?_map,List.getElem?_range (by omega)];rfl)
theorem Kg {cs os:List Int} (oo:gY cs os) (a:Nat):bQ cs (Jd cs.length os a):=⟨Ou _ _ _,fun i i0 i1=>by
 rw [Ds i0 i1,←oo.2 i i0 i1];have:(os.take a).count i<=os.count i:=(List.take_sublist a os).count_le i;omega⟩
theorem tV {cs os:List Int} {ns:List Nt} (ok:dh cs ns) (oo:gY cs os) (r:runK cs ns os (zs cs)=true) (a:Nat):closed ns (Jd cs.length os a):=fun x hx lt=>by
 obtain ⟨⟨a0,a1⟩,⟨b0,b1⟩,⟨o0,o1⟩,⟨m0,m1⟩,_⟩:=ok.2.2 x hx;rw [Ds o0 o1] at lt;rw [Ds a0 a1];obtain ⟨p,ap⟩:=pG oo a0 a1 b0 b1;obtain ⟨q,aq⟩:=pG oo o0 o1 m0 m1;have pq:=(j4 ok oo).mp r x hx p q ap aq;have:=(iG aq (i:=a)).mp (by omega);have:=(iG ap (i:=a)).mpr (by omega);omega
theorem Dh {cs:List Int} {ns:List Nt} {ds L:List Int} (d:bQ cs ds) (c:closed ns ds) (A:Gj cs ns ds L):L=ds:=lJ.eq A.1.1 d.1 (A.2.2.2 ds d.1 (lJ.refl _ _) c) A.2.1
theorem Dq {cs:List Int} {ns:List Nt} {ds L:List Int} (d:bQ cs ds) (c:closed ns ds) (A:u6 cs ns ds L):L=ds:=lJ.eq A.1.1 d.1 A.2.1 (A.2.2.2 ds d.1 (lJ.refl _ _) c)
def v8 (ws:List d7):List Int:=ws.map (·.1)
theorem Dv (ws:List d7) (h:Int):cnt ws h=((v8 ws).count h:Nat):=by
 unfold cnt v8;rw [List.count_eq_countP,List.countP_map,List.countP_eq_length_filter];congr 2
theorem Jq (ws:List d7) (i:Nat):v8 (ws.take i)=(v8 ws).take i:=by unfold v8;rw [List.map_take]
theorem zx {ws:List d7} {hn:Nat} (ok:∀x∈ws,xr (hn:Int) x):gY (jT ws hn) (v8 ws):=by
 have l:(jT ws hn).length=hn:=by unfold jT;simp
 refine ⟨fun h hh=> ?_,fun h h0 h1=> ?_⟩
 ·obtain ⟨x,hx,rfl⟩:=List.mem_map.mp hh
  rw [l];exact (ok x hx).1
 ·rw [l] at h1
  obtain ⟨m,rfl⟩:=Int.eq_ofNat_of_zero_le h0;rw [←Dv];exact (mO (by unfold jT;rw [List.getElem?_map,List.getElem?_range (by omega)];rfl)).symm
theorem B_ {ws:List d7} {i:Nat} (h:i<ws.length):gZ (v8 ws) (hnd ws i) (cnt (ws.take i) (hnd ws i)).toNat i:=by
 have e:ws[i]? = some ws[i]:=List.getElem?_eq_getElem h;have eh:hnd ws i=ws[i].1:=by unfold hnd;rw [e]
 refine ⟨by unfold v8;rw [List.getElem?_map,e,eh];rfl, ?_⟩;rw [Dv,Jq,Int.toNat_natCast]
theorem xq {ws:List d7} {x:Nt} (h:x∈qN ws ws.length):∃e j,e<j/\j<ws.length/\x=qp ws e j /\ ¬hnd ws e=hnd ws j:=by
 unfold qN at h;obtain ⟨j,hj,hx⟩:=List.mem_flatMap.mp h;have hj:=List.mem_range.mp hj;unfold jk at hx;obtain ⟨e,he,rfl⟩:=List.mem_map.mp hx;obtain ⟨he,nh⟩:=List.mem_filter.mp he;unfold gA at he;obtain ⟨he,bb⟩:=List.mem_filter.mp he;obtain ⟨t,ht,e'⟩:=List.mem_map.mp he;have:=List.mem_range.mp ht;exact ⟨e,j,by omega,hj,rfl,of_decide_eq_true nh⟩
theorem JT {ws:List d7} {hn:Nat} {ns:List Nt} (ok:∀x∈ws,xr (hn:Int) x) (h8:hn<=8) (wl:ws.length<=300) (pm:ns.Perm (qN ws ws.length)):dh (jT ws hn) ns/\ns.length<=90000:=by
 have l:(jT ws hn).length=hn:=by unfold jT;simp
 have g:∀h:Int,0<=h->h<hn->gI (jT ws hn) h=cnt ws h:=fun h h0 h1=>by
  obtain ⟨m,rfl⟩:=Int.eq_ofNat_of_zero_le h0;exact mO (by unfold jT;rw [List.getElem?_map,List.getElem?_range (by omega)];rfl)
 have c3:∀h:Int,0<=cnt ws h/\cnt ws h<=300:=fun h=>by
  unfold cnt;have:=List.length_filter_le (fun x:d7=>decide (x.1=h)) ws;omega
 have nl:ns.length<=90000:=by
  rw [pm.length_eq];have:=uX ws ws.length;have:ws.length*ws.length<=300*300:=Nat.mul_le_mul wl wl;omega
 refine ⟨⟨⟨by omega,fun c hc=> ?_⟩,by omega,fun x hx=> ?_⟩,nl⟩
 ·unfold jT at hc
  obtain ⟨h,_,rfl⟩:=List.mem_map.mp hc;exact c3 _
 ·obtain ⟨e,j,ej,jl,rfl,ne⟩:=xq (pm.mem_iff.mp hx)
  have inh:∀i,i<ws.length->0<=hnd ws i/\hnd ws i<hn:=fun i hi=>by
   have e:ws[i]? = some ws[i]:=List.getElem?_eq_getElem hi;have eh:hnd ws i=ws[i].1:=by unfold hnd;rw [e]
   rw [eh];exact (ok ws[i] (by simp)).1
  have lt:∀i,i<ws.length->0<=cnt (ws.take i) (hnd ws i)/\cnt (ws.take i) (hnd ws i)<cnt ws (hnd ws i):=fun i hi=>by
   have a:=B_ hi;have:=(iG a (i:=(v8 ws).length)).mpr (by unfold v8;rw [List.length_map];exact hi);rw [List.take_length,←Int.ofNat_lt,←Dv] at this;have p:0<=cnt (ws.take i) (hnd ws i):=by unfold cnt;omega
   omega
  obtain ⟨a0,a1⟩:=inh e (by omega);obtain ⟨b0,b1⟩:=inh j jl;obtain ⟨c0,c1⟩:=lt e (by omega);obtain ⟨d0,d1⟩:=lt j jl;exact ⟨⟨a0,by rw [l];exact a1⟩,⟨c0,by show _<gI _ (hnd ws e);rw [g _ a0 a1];exact c1⟩,⟨b0,by rw [l];exact b1⟩,⟨d0,by show _<gI _ (hnd ws j);rw [g _ b0 b1];exact d1⟩,ne⟩
theorem Gq {ws:List d7} {hn:Nat} {ns:List Nt} (ok:∀x∈ws,xr (hn:Int) x) (Ez:dh (jT ws hn) ns) (pm:ns.Perm (qN ws ws.length)):runK (jT ws hn) ns (v8 ws) (zs (jT ws hn))=true:=by
 refine (j4 Ez (zx ok)).mpr fun x hx p q ap aq=> ?_;obtain ⟨e,j,ej,jl,rfl,_⟩:=xq (pm.mem_iff.mp hx);have h1:=wJ ap (B_ (show e<ws.length by omega));have h2:=wJ aq (B_ jl);omega
def NQ (K:PySem.W.Frag):Sp:=fun vs H Q _=>∃(a o:Addr) (cs os:List Int) (ns:List Nt),vs=[.ref a,.ref o]/\cJ H a ns/\dh cs ns/\H o=some (.lst (os.map V.int))/\os.length<=2400/\gY cs os /\ ∀H',Same H H'->Q (.bl (runK cs ns os (zs cs))) H'
theorem V3 {f:Addr} {fd:FuncData} (F:jq K "_law_keeps" "_law_keeps" gM f fd) (vf:FnAt P w K mg base 1 "_law_spots" ["order"] (rQ K)) (Bt:nA mg):cH P w K mg base iZ 2 f fd ["ties","order"] (NQ K):=by
 refine F.ok wu (fun vs H Q E h=> ?_) (fun cdv A outer s H vs Q E hr h=> ?_)
 ·obtain ⟨a,o,cs,os,ns,rfl,_⟩:=h
  rfl
 ·obtain ⟨a,o,cs,os,ns,rfl,N,ok,ho,ol,oo,k1⟩:=h
  have hu:=lM hr;have cX:=hr.units;have c8:=ok.1.1;have nl:=ok.2.1;obtain ⟨vs,ha,dv⟩:=id N;have vl:vs.length=ns.length:=by rw [dv.length,List.length_map]
  refine ⟨_,(aB (aO (i:=2) wu.nd rfl (Or.inr rfl) (aN vf (hr.mono (by decide)) (by rfl) (aj (pv 1) aA)))
   (aC (aP (cI (yt (K:=K) rfl cX) (cU rfl (N:=["tie","spots"]) (own:=["tie"]) (caps:=[2]) (aQ.of (by kernel_rfl)) (bM (K:=K) rfl (pv 0)) (fun _ _ _ _=>(bh (i:=0) (show List.Nodup (["tie","spots"]:List Str) by decide +kernel) rfl (Or.inl rfl))) (fun _ _ _ _=>(oY (bf Kl (jH hu (pv 1) (cM (gj (K:=K) rfl) (pv 0) dO (dN ao)) (fun _ _=>rfl)) (jH hu (pv 1) (cM (gj (K:=K) rfl) (pv 0) (dN ao) dO) (fun _ _=>rfl)) (aY _)))) (fun _ _ _ _=>(pv 0))) (dX aA) (aY _))))), ?_⟩
  refine ⟨_,rfl,o,os,rfl,ho,ol,fun d kvs H4 hd0 hd S GP=> ?_⟩;refine ⟨_,rfl,a,rfl,⟨_,aZ.of (GP _ _ ha)⟩,fun D2 hD2=> ?_⟩
  have spot:∀x∈ns,∃p q:Nat,cD kvs [Sum.inl x.1,Sum.inl x.2.1]=some (.int p)/\cD kvs [Sum.inl x.2.2.1,Sum.inl x.2.2.2]=some (.int q)/\gZ os x.1 x.2.1.toNat p/\gZ os x.2.2.1 x.2.2.2.toNat q:=fun x hx=>by
   obtain ⟨⟨a0,a1⟩,⟨b0,b1⟩,⟨o0,o1⟩,⟨m0,m1⟩,_⟩:=ok.2.2 x hx;have c1:=oo.2 x.1 a0 a1;have c2:=oo.2 x.2.2.1 o0 o1;obtain ⟨p,p1,p2,p3⟩:=S x.1 x.2.1.toNat (by omega);obtain ⟨q,q1,q2,q3⟩:=S x.2.2.1 x.2.2.2.toNat (by omega);rw [show ((x.2.1.toNat:Nat):Int)=x.2.1 by omega] at p1;rw [show ((x.2.2.2.toNat:Nat):Int)=x.2.2.2 by omega] at q1;exact ⟨p,q,p1,q1,⟨p2,p3⟩,⟨q2,q3⟩⟩
  have bad:∀x:Nt,Decidable (∃p q:Nat,gZ os x.1 x.2.1.toNat p/\gZ os x.2.2.1 x.2.2.2.toNat q/\q<p):=fun _=>Classical.propDecidable _
  let isBad:Nt->Bool:=fun x=> @decide (∃p q:Nat,gZ os x.1 x.2.1.toNat p/\gZ os x.2.2.1 x.2.2.2.toNat q/\q<p) (bad x)
  have uniq:∀{h:Int} {k p p':Nat},gZ os h k p->gZ os h k p'->p=p':=fun {h k p p'} a1 a2=>by
   have l1:=(iG (i:=p') a1);have l2:=(iG (i:=p) a2);rw [a2.2] at l1;rw [a1.2] at l2;have n1:¬p<p':=fun z=>Nat.lt_irrefl _ (l1.mpr z);have n2:¬p'<p:=fun z=>Nat.lt_irrefl _ (l2.mpr z);omega
  refine eN (K:=K) (fun i=>(ns[i]?).bind fun x=>if isBad x then vs[i]? else none) hD2 (aZ.of (GP _ _ ha)) (by omega) (fun j v H5 G F hj s5 kG kF=> ?_) (fun H5 s5 e5=> ?_)
  ·obtain ⟨x,w,ex,rfl,hx⟩:=eV dv hj
   have hx5:=s5 _ _ (GP _ _ hx);have hd5:=s5 _ _ hd;simp only [ex,Option.bind_some,hj] at kG kF;obtain ⟨p,q,vp,vq,ap,aq⟩:=spot x (List.mem_of_getElem? ex);refine ⟨_,rfl,_,rfl,_,rfl,_,_,rfl,bL.of hx5,qj _ rfl,fun p1 hp1=> ?_⟩;have c1:iQ (nV x) none (some 2)=[.int x.1,.int x.2.1]:=wQ ..;rw [c1];have Et:=aD (o:=HO.tup [V.int x.1,V.int x.2.1]) hp1;refine ⟨d,_,rfl,vp▸h_.t (k:=[Sum.inl x.1,Sum.inl x.2.1]) (Et _ _ hd5) au, ?_⟩;refine ⟨_,rfl,_,rfl,_,rfl,_,_,rfl,bL.of (Et _ _ hx5),qg _ rfl,fun p2 hp2=> ?_⟩;have c2:iQ (nV x) (some 2) none=[.int x.2.2.1,.int x.2.2.2]:=wO ..;rw [c2];have JL:=aD (o:=HO.tup [V.int x.2.2.1,V.int x.2.2.2]) hp2;refine ⟨d,_,rfl,vq▸h_.t (k:=[Sum.inl x.2.2.1,Sum.inl x.2.2.2]) (JL _ _ (Et _ _ hd5)) au,_,_,rfl,rfl,_,rfl, ?_⟩;have sp:=Et.trans JL;refine iM (fun w'=> ?_) (fun w'=> ?_)
   ·have w':(p:Int)>q:=of_decide_eq_true w'
    have bT:isBad x=true:=decide_eq_true (p:=_) ⟨p,q,ap,aq,by omega⟩;exact ⟨_,rfl,kF _ _ sp (by rw [bT];rfl)⟩
   ·have w':¬(p:Int)>q:=fun z=>w' (decide_eq_true z)
    have bF:isBad x=false:=decide_eq_false (p:=_) fun ⟨p',q',ap',aq',l⟩=>by
     rw [uniq ap' ap,uniq aq' aq] at l;omega
    exact kG _ sp (by rw [bF];rfl)
  have d5:=sG isBad (aF.keep (GP.trans s5).tups _ (bx _ dI ns) dv);refine ⟨(by show 0<=sizeLine;decide),fun q hq=> ?_⟩;have s6:=aD (o:=HO.lst []) hq;refine ⟨_,_,gR (ds:=(ns.filter isBad).map nD) (s6 _ _ e5) (aF.keep s6.tups _ (bx _ dI _) d5),gR (ds:=([]:List Nt).map nD) au (by simp only [List.map_nil,aF]),fj _,fj _, ?_⟩
  have aeR:(if false=true then !PyData.eqv (.list ((ns.filter isBad).map nD)) (.list (([]:List Nt).map nD)) else PyData.eqv (.list ((ns.filter isBad).map nD)) (.list (([]:List Nt).map nD)))=runK cs ns os (zs cs):=by
   rw [if_neg (by decide),gQ nD mQ,Bool.eq_iff_iff,decide_eq_true_iff,j4 ok oo,List.filter_eq_nil_iff];constructor
   ·intro h x hx p q ap aq
    have:=h x hx;have nb:¬ ∃p q:Nat,gZ os x.1 x.2.1.toNat p/\gZ os x.2.2.1 x.2.2.2.toNat q/\q<p:=fun z=>this (decide_eq_true (p:=_) z)
    have Yw:p≠q:=fun z=>by
     subst z;have e1:=ap.1;rw [aq.1] at e1;exact (ok.2.2 x hx).2.2.2.2 (Option.some.inj e1).symm
    have:¬q<p:=fun z=>nb ⟨p,q,ap,aq,z⟩;omega
   ·intro h x hx z
    obtain ⟨p,q,ap,aq,l⟩:=of_decide_eq_true (p:=_) z;have:=h x hx p q ap aq;omega
  rw [aeR];exact k1 _ ((GP.trans s5).trans s6)
def RZ (K:PySem.W.Frag):Sp:=fun vs H Q _=>∃(a d:Addr) (cs ds:List Int) (ns:List Nt),vs=[.ref a,.ref d]/\cJ H a ns/\dh cs ns/\H d=some (.lst (ds.map V.int))/\ds.length=cs.length /\ ∀H',Same H H'->Q (.bl (decide (brk ds ns=[]))) H'
theorem V4 {f:Addr} {fd:FuncData} (F:jq K "_law_closed" "_law_closed" fM f fd) (Bt:nA mg):cH P w K mg base iZ 1 f fd ["ties","some"] (RZ K):=by
 refine F.ok Cz (fun vs H Q E h=> ?_) (fun cdv A outer s H vs Q E hr h=> ?_)
 ·obtain ⟨a,d,cs,ds,ns,rfl,_⟩:=h
  rfl
 ·obtain ⟨a,d,cs,ds,ns,rfl,N,ok,hd,dl,k⟩:=h
  have cX:=hr.units;have nl:=ok.2.1;obtain ⟨vs,ha,dv⟩:=id N;have vl:vs.length=ns.length:=by rw [dv.length,List.length_map]
  refine ⟨_,(aC (aP (cI (yt (K:=K) rfl cX) (cU rfl (N:=["tie","some"]) (own:=["tie"]) (caps:=[1]) (aQ.of (by kernel_rfl)) (bM (K:=K) rfl (pv 0)) (fun _ _ _ _=>(bh (i:=0) (show List.Nodup (["tie","some"]:List Str) by decide +kernel) rfl (Or.inl rfl))) (fun _ _ _ _=>(oY (PW.pt (mz (bf pA (aK (aG (K:=K) rfl) (pv 0) ao (fun _ _=>rfl)) (aK (aM (K:=K) rfl) (pv 1) (aK (aG (K:=K) rfl) (pv 0) ao (fun _ _=>rfl)) (fun _ _=>rfl)) (aY _)) (jG (bf Q0 (aK (aG (K:=K) rfl) (pv 0) ao (fun _ _=>rfl)) (aK (aM (K:=K) rfl) (pv 1) (aK (aG (K:=K) rfl) (pv 0) ao (fun _ _=>rfl)) (fun _ _=>rfl)) (aY _))))))) (fun _ _ _ _=>(pv 0))) (dX aA) (aY _)))), ?_⟩;refine ⟨_,rfl,a,rfl,⟨_,aZ.of ha⟩,fun D hD=> ?_⟩;refine eN (K:=K) (fun i=>(ns[i]?).bind fun x=>if jJ ds x then vs[i]? else none) hD (aZ.of ha) (by omega) (fun i v H2 G F hi s2 kG kF=> ?_) (fun H2 s2 e2=> ?_)
  ·obtain ⟨x,q,ex,rfl,hx⟩:=eV dv hi
   obtain ⟨⟨h0,h1⟩,_,⟨o0,o1⟩,_,_⟩:=ok.2.2 x (List.mem_of_getElem? ex);have hx2:=s2 _ _ hx;have hd2:=s2 _ _ hd;simp only [ex,Option.bind_some,hi] at kG kF;refine ⟨_,rfl,_,_,_,_,rfl,rfl,bL.of hx2,rfl,_,rfl,_,rfl,_,_,_,_,rfl,rfl,bL.of hx2,rfl,_,_,_,_,rfl,rfl,aZ.of hd2,jU o0 (by omega),_,_,rfl,rfl,_,rfl, ?_⟩;refine iM (fun w=> ?_) (fun w=> ?_)
   ·refine ⟨_,rfl,_,_,_,_,rfl,rfl,bL.of hx2,rfl,_,rfl,_,rfl,_,_,_,_,rfl,rfl,bL.of hx2,rfl,_,_,_,_,rfl,rfl,aZ.of hd2,jU h0 (by omega),_,_,rfl,rfl,_,rfl, ?_⟩
    refine iM (fun w2=> ?_) (fun w2=> ?_)
    ·have w2:x.2.1≥gI ds x.1:=of_decide_eq_true w2
     exact ⟨_,rfl,kF _ _ (Same.refl _) (by simp [jJ,of_decide_eq_true w,show ¬x.2.1<gI ds x.1 by omega])⟩
    ·have w2:¬x.2.1≥gI ds x.1:=fun z=>w2 (decide_eq_true z)
     exact kG _ (Same.refl _) (by simp [jJ,show x.2.1<gI ds x.1 by omega])
   ·have w:¬x.2.2.2<gI ds x.2.2.1:=fun z=>w (decide_eq_true z)
    exact b_ (kG _ (Same.refl _) (by simp [jJ,w]))
  have d5:=sG (jJ ds) (aF.keep s2.tups _ (bx _ dI ns) dv);refine ⟨(by show 0<=sizeLine;decide),fun q hq=> ?_⟩;have s6:=aD (o:=HO.lst []) hq;refine ⟨_,_,gR (ds:=(brk ds ns).map nD) (s6 _ _ e2) (aF.keep s6.tups _ (bx _ dI _) d5),gR (ds:=([]:List Nt).map nD) au (by simp only [List.map_nil,aF]),fj _,fj _, ?_⟩;rw [if_neg Bool.false_ne_true,gQ nD mQ];exact k _ (s2.trans s6)
def R0 (K:PySem.W.Frag):Sp:=fun vs H Q _=>∃(a p:Addr) (ns ms:List Nt),vs=[.ref a,.ref p]/\cJ H a ns/\cJ H p ms/\ms.length<=200 /\ ∀(bl:Bool) (H':Hp),(bl=true↔Gi ns ms)->Same H H'->Q (.bl bl) H'
theorem V5 {f:Addr} {fd:FuncData} (F:jq K "_law_goes_round" "_law_goes_round" cC f fd) (Bt:nA mg):cH P w K mg base iZ 1 f fd ["ties","found"] (R0 K):=by
 refine F.ok jy (fun vs H Q E h=> ?_) (fun cdv A outer s H vs Q E hr h=> ?_)
 ·obtain ⟨a,p,ns,ms,rfl,_⟩:=h
  rfl
 ·obtain ⟨a,p,ns,ms,rfl,NA,N,ml,k⟩:=h
  have cX:=hr.units
  refine ⟨_,(aB (gP PassesOwn.never rfl (fO (by rfl) Bt.iH (aj (aV (aU (K:=K) rfl) (by rfl) Bt.fV dj (aj (pv 1) aA)) aA)) (bh (i:=2) jy.nd rfl (Or.inl rfl))
   (aB (aO (i:=3) jy.nd rfl (Or.inl rfl) (aK (aM (K:=K) rfl) (pv 1) (bG jC (bG dY (pv 2) ao) (aV (aU (K:=K) rfl) (by rfl) Bt.fV dj (aj (pv 1) aA))) (fun _ _=>rfl)))
   (aC (cj (PW.pt (iJ (bf (CP (K:=K) rfl hr.xJ) (aK (aM (K:=K) rfl) (pv 1) (pv 2) (fun _ _=>rfl)) (pv 0) (by with_unfolding_all rfl)) (iJ (bf o_ (aK (aG (K:=K) rfl) (aK (aM (K:=K) rfl) (pv 1) (pv 2) (fun _ _=>rfl)) ao (fun _ _=>rfl)) (aK (aG (K:=K) rfl) (pv 3) ao (fun _ _=>rfl)) (aY _)) (gO (bf Kl (aK (aG (K:=K) rfl) (aK (aM (K:=K) rfl) (pv 1) (pv 2) (fun _ _=>rfl)) ao (fun _ _=>rfl)) (aK (aG (K:=K) rfl) (pv 3) ao (fun _ _=>rfl)) (aY _)))))) (aC (aP fU)) bw))))
   (aC (aP (cI (m_ (K:=K) rfl cX) (pv 1) (dX aA) (aY _))))), ?_⟩
  obtain ⟨us,ha,du⟩:=id NA;obtain ⟨vs,hp,dv⟩:=id N;have vl:vs.length=ms.length:=by rw [dv.length,List.length_map]
  refine ⟨_,rfl,p,_,rfl,.inl (aZ.of hp),_,rfl,by omega,by omega, ?_⟩;rw [show ((vs.length:Int)).toNat=ms.length by omega]
  refine qG (lo:=0) (n:=ms.length) (fun i σ H2=>∃(x1 x2:Option V),σ=[some (.ref a),some (.ref p),x1,x2]/\H2=H /\ ∀j x y,j<i->ms[j]? = some x->ms[(j+1) % ms.length]? = some y->x∈ns/\BJ x y=true)
   ⟨none,none,rfl,rfl,fun j _ _ hj=>absurd hj (by omega)⟩ ?_ ?_
  ·rintro i σ H2 hi ⟨x1,x2,rfl,rfl,good⟩
   have hl2:(i+1) % ms.length<ms.length:=Nat.mod_lt _ (by omega);obtain ⟨x,ex⟩:∃x,ms[i]? = some x:=⟨ms[i],by simp [hi]⟩;obtain ⟨y,ey⟩:∃y,ms[(i+1) % ms.length]? = some y:=⟨ms[(i+1) % ms.length],by simp [hl2]⟩;obtain ⟨v,ev,dx⟩:=dv.getD (i:=i) (d:=nD x) (by rw [List.getElem?_map,ex];rfl);obtain ⟨w,ew,dy⟩:=dv.getD (i:=(i+1) % ms.length) (d:=nD y) (by rw [List.getElem?_map,ey];rfl);obtain ⟨q,rfl,hx⟩:=jE dx;obtain ⟨q',rfl,hy⟩:=jE dy;have i1:Bp vs (0+(i:Int))=some (V.ref q):=by rw [Int.zero_add];exact dR ev
   have i2:Bp vs ((0+(i:Int)+1) % (vs.length:Int))=some (V.ref q'):=by
    rw [Int.zero_add,vl,show ((i:Int)+1) % (ms.length:Int)=(((i+1) % ms.length:Nat):Int) by rw [Int.natCast_emod];rfl];exact dR ew
   refine ⟨_,rfl,_,rfl,_,_,rfl,rfl,_,rfl,p,_,rfl,.inl (aZ.of hp),_,_,rfl,rfl,by omega,_,_,_,_,rfl,rfl,aZ.of hp,i2, ?_⟩;have no:∀bl:Bool,bl=false -> ¬(x∈ns/\BJ x y=true)->Q (.bl bl) H2:=fun bl e z=>k bl H2 ⟨fun w=>absurd w (by rw [e];decide),fun w=>absurd (w.2 i x y ex ey) z⟩ (Same.refl _);refine ⟨_,rfl,_,rfl,_,_,_,_,rfl,rfl,aZ.of hp,i1,_,rfl,a,us,nD x,ns.map nD,rfl,aZ.of ha,du,oA hx,jt x,fun e he=> ?_,_,rfl, ?_⟩
   ·obtain ⟨y,_,rfl⟩:=List.mem_map.mp he
    exact jt y
   rw [if_pos rfl,MP]
   by_cases w1:x∈ns
   rotate_left
   ·rw [decide_eq_false w1]
    refine fX ?_;exact no false rfl fun z=>w1 z.1
   rw [decide_eq_true w1];refine b_ ?_;refine ⟨_,rfl,_,rfl,_,_,_,_,rfl,rfl,aZ.of hp,i1,_,_,_,_,rfl,rfl,bL.of hx,rfl,_,rfl,_,_,_,_,rfl,rfl,bL.of hy,rfl,rfl,_,rfl, ?_⟩
   by_cases w2:x.2.2.1=y.1
   rotate_left
   ·refine iM (fun _=>no false rfl fun z=> ?_) (fun z=>absurd (by simp [w2]) z)
    have:=z.2;simp [BJ,w2] at this
   refine iM (fun z=>absurd z (by simp [w2])) (fun _=> ?_);refine ⟨_,rfl,_,rfl,_,_,_,_,rfl,rfl,aZ.of hp,i1,_,_,_,_,rfl,rfl,bL.of hx,rfl,_,rfl,_,_,_,_,rfl,rfl,bL.of hy,rfl,_,_,rfl,rfl,_,rfl, ?_⟩;refine iM (fun z=>no false rfl fun z'=> ?_) (fun z=> ?_)
   ·have z:x.2.2.2>y.2.1:=of_decide_eq_true z
    have:=z'.2;simp only [BJ,Bool.and_eq_true,decide_eq_true_eq] at this;omega
   ·have z:¬x.2.2.2>y.2.1:=fun w=>z (decide_eq_true w)
    refine ⟨_,_,rfl,rfl,fun j x' y' hj ex' ey'=> ?_⟩
    by_cases e:j=i
    ·subst e
     rw [ex] at ex';rw [ey] at ey';cases ex';cases ey';exact ⟨w1,by simp [BJ,w2,show x.2.2.2<=y.2.1 by omega]⟩
    ·exact good j x' y' (by omega) ex' ey'
  ·rintro σ H2 ⟨x1,x2,rfl,rfl,good⟩
   refine ⟨_,rfl,(by show 0<=sizeLine;decide),fun q hq=> ?_⟩;have sq:=aD (o:=HO.lst []) hq;refine ⟨_,_,gR (ds:=ms.map nD) (sq _ _ hp) (aF.keep sq.tups _ (bx _ dI _) dv),gR (ds:=([]:List Nt).map nD) au (by simp only [List.map_nil,aF]),fj _,fj _, ?_⟩;rw [if_pos rfl,gQ nD mQ];refine k _ _ ?_ sq;constructor
   ·intro z
    have z:ms≠[]:=by simpa using z
    exact ⟨z,fun j x y ex ey=>good j x y (List.getElem?_eq_some_iff.mp ex).1 ex ey⟩
   ·intro z
    simpa using z.1
def JH (K:PySem.W.Frag):Sp:=fun vs H Q _=>∃(r b:Addr) (n:Nat) (hn:Int),vs=[.ref r,.int hn]/\dZ H r b n/\n<274877906944/\1<=hn/\hn<=8 /\
 ∀(a:Addr) (ws:List d7) (H':Hp),H a=none->mV H' a ws->(∀x∈ws,xr hn x)->ws.length<=300->20<=ws.length->dZ H' r b (n+1000)->Kp r H H'->Q (.ref a) H'
theorem Ti {f:Addr} {fd:FuncData} (F:jq K "_law_web" "_law_web" kZ f fd) (dH:FnAt P w K mg base 2 "_law_draw" ["bag","many"] (pY K)) (M8:FnAt P w K mg base 3 "_law_touch" ["bag","hands","cells","loads","apart"] (xM K)) (Bt:nA mg):cH P w K mg base iZ 4 f fd ["bag","hands"] (JH K):=by
 refine F.ok oU (fun vs H Q E h=> ?_) (fun cdv A outer s H vs Q E hr h=> ?_)
 ·obtain ⟨r,b,n,hn,rfl,_⟩:=h
  rfl
 ·obtain ⟨r,b,n,hn,rfl,B0,nn,hn0,hn1,k⟩:=h
  refine ⟨_,(aB (aO (i:=2) oU.nd rfl (Or.inl rfl) (bG dY ao (aN dH (hr.mono (by decide)) (by rfl) (aj (pv 0) (aj (aK (aM (K:=K) rfl) (dX (aj ao (aj ao aA))) (fP Iu (by rfl) Bt.Rn Mt (aj (cI mH (aN dH (hr.mono (by decide)) (by rfl) (aj (pv 0) (aj ao aA))) ao (aY _)) aA)) (fun _ _=>rfl)) aA)))))
   (aB (aO (i:=3) oU.nd rfl (Or.inr rfl) (aK (aM (K:=K) rfl) (dX (aj ao (aj ao (aj ao (aj ao aA))))) (aN dH (hr.mono (by decide)) (by rfl) (aj (pv 0) (aj ao aA))) (fun _ _=>rfl)))
   (aB (aO (i:=4) oU.nd rfl (Or.inr rfl) (aN dH (hr.mono (by decide)) (by rfl) (aj (pv 0) (aj ao aA))))
   (aB (aO (i:=5) oU.nd rfl (Or.inr rfl) (aN dH (hr.mono (by decide)) (by rfl) (aj (pv 0) (aj ao aA))))
   (aC (aP (cU rfl (N:=["step","bag","hands","cells","loads","apart"]) (own:=["step"]) (caps:=[0,1,3,4,5]) (aQ.of (by kernel_rfl)) (fO (by rfl) Bt.iH (aj (pv 2) aA)) (fun _ _ _ _=>(bh (i:=0) (show List.Nodup (["step","bag","hands","cells","loads","apart"]:List Str) by decide +kernel) rfl (Or.inl rfl))) (fun _ _ _ _=>cZ) (fun _ _ _ _=>(aN M8 (hr.mono (by decide)) (by rfl) (aj (pv 1) (aj (pv 2) (aj (pv 3) (aj (pv 4) (aj (pv 5) aA)))))))))))))), ?_⟩
  refine ⟨_,rfl,(by show 2<=sizeLine;decide),fun p2 hp2=> ?_⟩;have JL:=aD (o:=HO.lst [V.int 81,V.int 281]) hp2;have B1:=B0.keep JL;obtain ⟨ac1,_⟩:=B0.ne hp2;refine ⟨_,rfl,r,b,16,n,rfl,B1,by omega,by decide,by decide,fun sz H2 sz0 sz1 B2 k2=> ?_⟩;have aez:=k2 _ _ (au (H:=H) (a:=p2) (o:=HO.lst [V.int 81,V.int 281])) ac1;have hm:∀{b:Bool},Bp [V.int 81,V.int 281] (if b=true then 1 else 0)=some (V.int (if b=true then 281 else 81)):=fun {b}=>by cases b<;>rfl
  refine ⟨rfl,.inr ⟨_,rfl,_,_,_,_,rfl,rfl,aZ.of aez,hm,r,b,_,_,rfl,B2,by omega,by split<;>omega,by split<;>omega,fun m H3 m0 m1 B3 k3=> ?_⟩⟩;have m1:m<281:=by split at m1<;>omega
  have kk3:Kp r H H3:=((Kp.of_same JL).trans k2).trans k3;refine ⟨_,_,rfl,rfl, ?_⟩;refine ⟨(by show 4<=sizeLine;decide),fun p hp=> ?_⟩;have sp:=aD (o:=HO.lst [V.int 1,V.int 2,V.int 3,V.int 20]) hp;obtain ⟨npr,_⟩:=B3.ne hp;refine ⟨_,rfl,r,b,4,_,rfl,B3.keep sp,by omega,by decide,by decide,fun y H4 y0 y1 B4 k4=> ?_⟩;obtain ⟨cl,ec,c0,c1⟩:=Tz y y0 y1;refine ⟨_,_,_,_,rfl,rfl,aZ.of (k4 _ _ au npr),ec, ?_⟩;refine ⟨_,rfl,r,b,3,_,rfl,B4,by omega,by decide,by decide,fun ld H5 Hy Hx B5 k5=> ?_⟩;refine ⟨_,rfl,r,b,20,_,rfl,B5,by omega,by decide,by decide,fun ap Yd ap0 ap1 B6' k6'=> ?_⟩;have kk5:Kp r H Yd:=(((kk3.trans (.of_same sp)).trans k4).trans k5).trans k6';generalize hH5:Yd=H5' at B6' k6' kk5 ⊢;subst hH5;refine ⟨_,rfl,20+m,rfl,by omega,by omega,fun D hD=> ?_⟩;obtain ⟨ml,eml⟩:=Int.eq_ofNat_of_zero_le (show 0<=20+m by omega);rw [eml];rw [show ((ml:Int)).toNat=ml by omega];obtain ⟨nDr,nDb⟩:=B6'.ne hD;have mv:∀{H:Hp} {o:HO},Kp r Yd H->Kp r Yd (upd H D o):=fun k c u e m=>by rw [bA (aL e hD)];exact k c u e m
  refine uL (lo:=0) (n:=ml) (fun i σ H6=>(∃v,σ=[v,some (.ref r),some (.int hn),some (.int cl),some (.int ld),some (.int ap)]) /\ ∃ws:List d7,ws.length=i/\(∀x∈ws,xr hn x)/\mV H6 D ws/\Kp r Yd H6/\dZ H6 r b (n+1+1+1+1+1+3*i))
   ⟨⟨none,rfl⟩,[],rfl,fun _ z=>absurd z (by simp),⟨[],au,by simp [aF]⟩,.of_same (aD hD),B6'.keep (aD hD)⟩ ?_ ?_
  ·rintro i σ H6 hi ⟨⟨v,rfl⟩,ws,wl,wok,W,k6,B6⟩
   refine ⟨_,rfl,_,rfl,_,rfl,_,rfl,_,rfl,r,b,_,hn,cl,ld,ap,rfl,B6,by omega,hn0,hn1,c0,c1,Hy,Hx,fun t x H7 ht0 ht xok B7 k7=> ?_⟩;obtain ⟨vs,hv,dv⟩:=id W;have vl:vs.length=i:=by rw [dv.length,List.length_map,wl]
   have Wn:=k7 _ _ hv nDr;have k8:Kp D H7 (upd H7 D (.lst (vs++[V.ref t]))):=Kp.set;have t8:=k8.tups Wn;refine ⟨vs,Wn,by rw [sizeLine_eq];omega,⟨_,rfl⟩,ws++[x],by simp [wl],fun y hy=> ?_,⟨_,au, ?_⟩,mv (k6.trans k7),(B7.mono (by omega)).kp k8 nDr.symm nDb.symm⟩
   ·rcases List.mem_append.mp hy with hy|hy
    ·exact wok y hy
    ·have:y=x:=by simpa using hy
     subst this;exact xok
   ·rw [List.map_append]
    refine aF.append (aF.keep (fun a xs h=>t8 _ _ (B6.tups k7 _ _ h)) _ (bx _ Lp _) dv) (Az (Qc (t8 _ _ ht)))
  ·rintro σ H6 ⟨⟨v,rfl⟩,ws,wl,wok,W,k6,B6⟩
   exact k D ws H6 (Kp.new kk5 hD B6'.at) W wok (by omega) (by omega) (B6.mono (by omega)) (kk5.trans k6)
theorem K7:∀{l:List Nt},Lk l -> ∀(i:Nat) a b,l[i]? = some a->l[i+1]? = some b->Q9 a b
 | [],_,i,a,b,h,_=>by cases h
 | [_],_,i,a,b,_,h=>by simp at h
 | x::y::r,lk,0,a,b,h1,h2=>by
   have e1:x=a:=by simpa using h1
   have e2:y=b:=by simpa using h2
   subst e1 e2;exact lk.1
 | x::y::r,lk,i+1,a,b,h1,h2=>K7 (l:=y::r) lk.2 i a b (by simpa using h1) (by simpa using h2)
theorem GR {ns c:List Nt} (h:BL ns c):Gi ns c:=by
 obtain ⟨x,r,rfl,mem,lk⟩:=h;refine ⟨by simp,fun j a b ea eb=> ?_⟩;have jl:=(List.getElem?_eq_some_iff.mp ea).1
 have ld:Q9 a b:=by
  refine K7 lk j a b (by rw [List.getElem?_append_left jl];exact ea) ?_
  by_cases q:j+1<(x::r).length
  ·rw [Nat.mod_eq_of_lt q] at eb
   rw [List.getElem?_append_left q];exact eb
  ·have e:j+1=(x::r).length:=by omega
   rw [e,Nat.mod_self] at eb;have:x=b:=by simpa using eb
   rw [e,this];simp
 exact ⟨mem a (List.mem_of_getElem? ea),by simp [BJ,ld.1,ld.2]⟩
theorem Ib {cs os os':List Int} (a:gY cs os) (b:gY cs os'):os.Perm os':=by
 rw [List.perm_iff_count];intro h
 by_cases q:0<=h/\h<cs.length
 ·have h1:=a.2 h q.1 q.2
  have h2:=b.2 h q.1 q.2;omega
 ·rw [List.count_eq_zero.mpr fun z=>q (a.1 h z),List.count_eq_zero.mpr fun z=>q (b.1 h z)]
theorem j5 {cs os:List Int} (h:iI cs os):gY cs os:=⟨h.1,h.2.2⟩
def Eo (K:PySem.W.Frag):Sp:=fun vs H Q _=>∃(t c a o:Addr) (cs os:List Int) (ns:List Nt),vs=[.ref t,.ref o]/\RecAt H t c a cs ns/\dh cs ns/\H o=some (.lst (os.map V.int))/\gY cs os/\os.length<=2400 /\
 (Stuck cs ns -> ∀H',Same H H'->Q (.bl false) H') /\ ∀os',iI cs os'->runK cs ns os' (zs cs)=true -> ∀H',Same H H'->Q (.bl true) H'
theorem Tj {f:Addr} {fd:FuncData} (F:jq K "_law_order_or_ring" "_law_order_or_ring" bJ f fd) (vY:FnAt P w K mg base 5 "first_order" ["record"] (xZ K)) (u_:FnAt P w K mg base 5 "ring" ["record"] (oH K)) (v7:FnAt P w K mg base 1 "_law_goes_round" ["ties","found"] (R0 K)) (yV:FnAt P w K mg base 5 "ring_shows" ["record","some"] (Cq K)) (vg:FnAt P w K mg base 2 "_law_keeps" ["ties","order"] (NQ K)) (pU:FnAt P w K mg base 5 "keeps" ["record","order"] (oJ K)) (Bt:nA mg):cH P w K mg base iZ 6 f fd ["record","size"] (Eo K):=by
 refine F.ok gG (fun vs H Q E h=> ?_) (fun cdv A outer s H vs Q E hr h=> ?_)
 ·obtain ⟨t,c,a,o,cs,os,ns,rfl,_⟩:=h
  rfl
 ·obtain ⟨t,c,a,o,cs,os,ns,rfl,R,ok,ho,oo,ol,kS,kW⟩:=h
  have cX:=hr.units;have c8:=ok.1.1
  refine ⟨_,(aB (aO (i:=2) gG.nd rfl (Or.inl rfl) (aN vY (hr.mono (by decide)) (by rfl) (aj (pv 0) aA)))
   (aB (cj (bf CQ (pv 2) iy (aY _)) (aB (aO (i:=3) gG.nd rfl (Or.inl rfl) (aN u_ (hr.mono (by decide)) (by rfl) (aj (pv 0) aA)))
   (aB (cj (PW.pt (iJ (bf CQ (pv 3) iy (aY _)) (iJ (cW (cT (aN v7 (hr.mono (by decide)) (by rfl) (aj (aK (aG (K:=K) rfl) (pv 0) ao (fun _ _=>rfl)) (aj (pv 3) aA))))) (gO (bf yr (aN yV (hr.mono (by decide)) (by rfl) (aj (pv 0) (aj (pv 3) aA))) fU (aY _)))))) (aC (aP iy)) bw)
   (aC (aP fU)))) bw)
   (aB (cj (PW.pt (iJ (bf (m_ (K:=K) rfl cX) (aV (q_ (K:=K) rfl) (by rfl) Bt.uW qK (aj (pv 2) aA)) (aV (q_ (K:=K) rfl) (by rfl) Bt.uW qK (aj (pv 1) aA)) (aY _)) (gO (cW (cT (aN vg (hr.mono (by decide)) (by rfl) (aj (aK (aG (K:=K) rfl) (pv 0) ao (fun _ _=>rfl)) (aj (pv 2) aA)))))))) (aC (aP iy)) bw)
   (aC (aP (aN pU (hr.mono (by decide)) (by rfl) (aj (pv 0) (aj (pv 2) aA)))))))), ?_⟩
  refine ⟨_,rfl,t,c,a,cs,ns,rfl,R,ok,fun H1 st s1=> ?_,fun p os' H1 hp e1 fr ir ol' s1=> ?_⟩
  ·refine ⟨_,rfl,rfl,_,rfl,fX ?_⟩
   have R1:=R.same s1;refine ⟨_,rfl,t,c,a,cs,ns,rfl,R1,ok,fun no H2 s2=> ?_,fun p cc H2 s2 hp N rg le sh=> ?_⟩
   ·obtain ⟨c',rg⟩:=sU ok st
    exact absurd rg (no c')
   have R2:=R1.same s2;have rp:=GR rg;refine ⟨_,rfl,rfl,_,rfl,b_ ?_⟩;refine ⟨_,rfl,_,_,_,_,rfl,rfl,bL.of R2.1,rfl,_,rfl,a,p,ns,cc,rfl,R2.2.2,N,by omega,fun bl H3 hb s3=> ?_⟩;rw [hb.mpr rp];refine ⟨_,rfl,b_ ?_⟩;refine ⟨_,rfl,_,rfl,t,c,a,p,cs,ns,cc,rfl,R2.same s3,ok,N.same s3,by omega,fun bl H4 hb s4=> ?_⟩;rw [hb.mpr rp];refine ⟨_,_,rfl,rfl,_,rfl,b_ ?_⟩;exact kS st _ (((s1.trans s2).trans s3).trans s4)
  ·refine ⟨_,rfl,rfl,_,rfl,b_ ?_⟩
   dsimp only [lH];have ff:=Ie ir ol' fr;have rk:=(ux fr).1;have gf:=j5 ff;refine ⟨_,rfl,p,os',rfl,aZ.of e1,fun l1 m1 hl1 pm1 so1=> ?_⟩;have s2:=aD (o:=HO.lst (m1.map V.int)) hl1;have S2:=s1.trans s2;refine ⟨_,rfl,o,os,rfl,aZ.of (S2 _ _ ho),fun l2 m2 hl2 pm2 so2=> ?_⟩;have s3:=aD (o:=HO.lst (m2.map V.int)) hl2;have S3:=S2.trans s3;have em:m1=m2:=PySem.W.ksm_same ((pm1.trans (Ib gf oo)).trans pm2.symm) so1 so2;refine ⟨_,_,fZ (s3 _ _ au),fZ (ns:=m2) au,shaped_ints _,shaped_ints _,_,rfl, ?_⟩;rw [if_pos rfl,gQ PyData.int pK,decide_eq_true em];refine b_ ?_;have e3:=s3 _ _ (s2 _ _ e1);have R3:=R.same S3;refine ⟨_,rfl,_,_,_,_,rfl,rfl,bL.of R3.1,rfl,_,rfl,a,p,cs,os',ns,rfl,R3.2.2,ok,e3,ol',gf,fun H4 s4=> ?_⟩;rw [rk];refine ⟨_,rfl,b_ ?_⟩;dsimp only [lH];have S4:=S3.trans s4;refine ⟨_,rfl,_,rfl,t,c,a,p,cs,os',ns,rfl,R.same S4,ok,s4 _ _ e3,ff,fun H5 s5=> ?_⟩;rw [rk];exact kW os' ff rk _ (S4.trans s5)
def Nh (os:List Int) (q p:Nat) (h:Int):List Int:=(os.eraseIdx q).take p++h::(os.eraseIdx q).drop p
theorem Pb {os:List Int} {q p:Nat} (h:q<os.length):(Nh os q p os[q]).Perm os:=by
 have er:∀(l:List Int) (m:Nat) (h:m<l.length),(l[m]::l.eraseIdx m).Perm l:=fun l=>by
  induction l with
  | nil=>intro m h;cases h
  | cons x l ih=>
    intro m h;cases m with
    | zero=>exact List.Perm.refl _
    | succ m=>
      simp only [List.getElem_cons_succ,List.eraseIdx_cons_succ];exact (List.Perm.swap x _ _).trans ((ih m (by simpa using h)).cons x)
 refine List.Perm.trans ?_ (er os q h);unfold Nh;refine List.perm_middle.trans ?_;rw [List.take_append_drop]
theorem Hf {cs a b:List Int} (p:a.Perm b) (f:iI cs b):iI cs a:=⟨fun h hh=>f.1 h (p.mem_iff.mp hh),by rw [p.length_eq];exact f.2.1,fun h h0 h1=>by rw [p.count_eq];exact f.2.2 h h0 h1⟩
theorem uE:∀(l:List Int) (i:Nat),(l.map V.int).eraseIdx i=(l.eraseIdx i).map V.int
 | [],_=>rfl
 | _::_,0=>rfl
 | x::l,i+1=>by rw [List.map_cons,List.eraseIdx_cons_succ,List.eraseIdx_cons_succ,List.map_cons,uE l i]
def Cr (K:PySem.W.Frag):Sp:=fun vs H Q _=>∃(t c a o tt:Addr) (cs os:List Int) (ns:List Nt) (x:Nt),vs=[.ref t,.ref o,.ref tt]/\RecAt H t c a cs ns/\dh cs ns/\H o=some (.lst (os.map V.int))/\iI cs os/\runK cs ns os (zs cs)=true/\H tt=some (.tup (nV x))/\x∈ns /\ ∀H',Same H H'->Q (.bl true) H'
theorem O2 {f:Addr} {fd:FuncData} (F:jq K "_law_bent" "_law_bent" ji f fd) (vf:FnAt P w K mg base 1 "_law_spots" ["order"] (rQ K)) (pU:FnAt P w K mg base 5 "keeps" ["record","order"] (oJ K)) (vg:FnAt P w K mg base 2 "_law_keeps" ["ties","order"] (NQ K)) (Bv:FnAt P w K mg base 5 "is_cut" ["record","cut"] (xW K)) (Jb:FnAt P w K mg base 1 "_law_closed" ["ties","some"] (RZ K)) (Bt:nA mg):cH P w K mg base iZ 6 f fd ["record","order","tie"] (Cr K):=by
 refine F.ok oV (fun vs H Q E h=> ?_) (fun cdv A outer s H vs Q E hr h=> ?_)
 ·obtain ⟨t,c,a,o,tt,cs,os,ns,x,rfl,_⟩:=h
  rfl
 ·obtain ⟨t,c,a,o,tt,cs,os,ns,x,rfl,R,ok,ho,fo,rk,htt,hx,k⟩:=h
  have hu:=lM hr;have cX:=hr.units;have c8:=ok.1.1;have oo:=j5 fo;obtain ⟨⟨a0,a1⟩,⟨b0,b1⟩,⟨o0,o1⟩,⟨m0,m1⟩,hne⟩:=ok.2.2 x hx
  refine ⟨_,(aB (aO (i:=3) oV.nd rfl (Or.inr rfl) (aN vf (hr.mono (by decide)) (by rfl) (aj (pv 1) aA)))
   (aB (aO (i:=4) oV.nd rfl (Or.inl rfl) (fP (dJ (K:=K) rfl) (by rfl) Bt.lG jm (aj (pv 1) aA)))
   (aB (cg (lA (K:=K) rfl PySem.F.plainAttrs_list PySem.F.slot_list_insert PySem.F.type_list_insert wF (pv 4) (aj (jH hu (pv 3) (cM (gj (K:=K) rfl) (pv 2) dO (dN ao)) (fun _ _=>rfl)) (aj (lA (K:=K) rfl PySem.F.plainAttrs_list PySem.F.slot_list_pop PySem.F.type_list_pop K1 (pv 4) (aj (jH hu (pv 3) (cM (gj (K:=K) rfl) (pv 2) (dN ao) dO) (fun _ _=>rfl)) aA)) aA))))
   (aB (cj (bf o_ (aN pU (hr.mono (by decide)) (by rfl) (aj (pv 0) (aj (pv 4) aA))) (aN vg (hr.mono (by decide)) (by rfl) (aj (aK (aG (K:=K) rfl) (pv 0) ao (fun _ _=>rfl)) (aj (pv 4) aA))) (aY _)) (aC (aP fU)) bw)
   (aB (rT (i:=5) rfl oV.nd rfl (Or.inl rfl) (N:=["hand","order","spots","tie"]) (own:=["hand"]) (caps:=[1,3,2]) (aQ.of (by kernel_rfl)) (fO (by rfl) Bt.iH (aj (aV (aU (K:=K) rfl) (by rfl) Bt.fV dj (aj (aK (aG (K:=K) rfl) (pv 0) ao (fun _ _=>rfl)) aA)) aA)) (fun _ _ _ _=>(bh (i:=0) (show List.Nodup (["hand","order","spots","tie"]:List Str) by decide +kernel) rfl (Or.inl rfl))) (fun _ _ _ _=>cZ) (fun _ _ _ _=>(lA (K:=K) rfl PySem.F.plainAttrs_list PySem.F.slot_list_count PySem.F.type_list_count (ni (K:=K) rfl) (cM (oN (K:=K) rfl) (pv 1) dO (dN (bG dY (jH hu (pv 2) (cM (gj (K:=K) rfl) (pv 3) (dN ao) dO) (fun _ _=>rfl)) ao))) (aj (pv 0) aA))))
   (aB (cj (cW (cT (aN Bv (hr.mono (by decide)) (by rfl) (aj (pv 0) (aj (fP (dJ (K:=K) rfl) (by rfl) Bt.lG jm (aj (pv 5) aA)) aA))))) (aC (aP fU)) bw)
   (aB (nU (aK (aG (K:=K) rfl) (pv 2) ao (fun _ _=>rfl)) (nW (pv 5) (aK (aG (K:=K) rfl) (pv 2) ao (fun _ _=>rfl)) set_list))
   (aC (aP (cI mH (aN Bv (hr.mono (by decide)) (by rfl) (aj (pv 0) (aj (pv 5) aA))) (aN Jb (hr.mono (by decide)) (by rfl) (aj (aK (aG (K:=K) rfl) (pv 0) ao (fun _ _=>rfl)) (aj (pv 5) aA))) (aY _))))))))))), ?_⟩
  refine ⟨_,rfl,o,os,rfl,ho,fo.2.1,fun d kvs H1 hd0 hd S s1=> ?_⟩;obtain ⟨p,vp,p2,p3⟩:=S x.1 x.2.1.toNat (by have:=oo.2 x.1 a0 a1;omega);obtain ⟨q,vq,q2,q3⟩:=S x.2.2.1 x.2.2.2.toNat (by have:=oo.2 x.2.2.1 o0 o1;omega);rw [show ((x.2.1.toNat:Nat):Int)=x.2.1 by omega] at vp;rw [show ((x.2.2.2.toNat:Nat):Int)=x.2.2.2 by omega] at vq;have pq:p<q:=(j4 ok oo).mp rk x hx p q ⟨p2,p3⟩ ⟨q2,q3⟩;have ql:=(List.getElem?_eq_some_iff.mp q2).1;have ol:=fo.2.1;refine ⟨_,rfl,o,_,rfl,.inl (aZ.of (s1 _ _ ho)),fun u hu'=> ?_⟩;have s2:=aD (o:=HO.lst (os.map V.int)) hu';have hu2:(upd H1 u (.lst (os.map V.int))) u=some (.lst (os.map V.int)):=au;have S2:=s1.trans s2;have hd2:=s2 _ _ hd;have fu:H u=none:=s1.free hu';generalize upd H1 u (.lst (os.map V.int))=H2 at hu2 S2 hd2 ⊢;have Dm:=S2 _ _ htt;refine ⟨_,rfl,.inl ⟨rfl,_,aZ.of hu2⟩,_,rfl,_,rfl,_,rfl,_,_,rfl,bL.of Dm,qj _ rfl,fun p1 hp1=> ?_⟩;rw [show iQ (nV x) none (some 2)=[.int x.1,.int x.2.1] from wQ ..];have u1:=aD (o:=HO.tup [V.int x.1,V.int x.2.1]) hp1;refine ⟨d,_,rfl,vp▸h_.t (k:=[Sum.inl x.1,Sum.inl x.2.1]) (u1 _ _ hd2) au, ?_⟩;refine ⟨_,rfl,.inl ⟨rfl,_,aZ.of (u1 _ _ hu2)⟩,_,rfl,_,rfl,_,rfl,_,_,rfl,bL.of (u1 _ _ Dm),qg _ rfl,fun p4 Zh=> ?_⟩;rw [show iQ (nV x) (some 2) none=[.int x.2.2.1,.int x.2.2.2] from wO ..];have u2:=aD (o:=HO.tup [V.int x.2.2.1,V.int x.2.2.2]) Zh;refine ⟨d,_,rfl,vq▸h_.t (k:=[Sum.inl x.2.2.1,Sum.inl x.2.2.2]) (u2 _ _ (u1 _ _ hd2)) au, ?_⟩;have Yh:=u1.trans u2;have Zf:=Yh _ _ hu2;have S3:=S2.trans Yh;have U8:=Yh _ _ hd2;generalize upd (upd H2 p1 (.tup [V.int x.1,V.int x.2.1])) p4 (.tup [V.int x.2.2.1,V.int x.2.2.2])=H3 at Zf S3 U8 ⊢;have si:seqIndex? (q:Int) (os.map V.int).length=some q:=by rw [List.length_map,seqIndex_of (by omega) (by omega),Int.toNat_natCast]
  refine ⟨u,_,(q:Int),q,V.int os[q],rfl,rfl,Zf,by omega,by omega,si,by rw [List.getElem?_map,List.getElem?_eq_getElem ql];rfl, ?_⟩;rw [uE];have el:(os.eraseIdx q).length=os.length - 1:=by rw [List.length_eraseIdx,if_pos ql]
  refine ⟨u,_,(p:Int),V.int os[q],rfl,rfl,au,by omega,by rw [List.length_map,el];omega,by rw [List.length_map,el,sizeLine_eq];omega, ?_⟩;rw [Ei,Int.toNat_natCast]
  have eu:((os.eraseIdx q).map V.int).take p++V.int os[q]::((os.eraseIdx q).map V.int).drop p=(Nh os q p os[q]).map V.int:=by
   unfold Nh;rw [List.map_append,List.map_cons,List.map_take,List.map_drop]
  rw [eu];have ku:Kp u H3 (upd H3 u (.lst ((Nh os q p os[q]).map V.int))):=Kp.set;have S4:Same H (upd H3 u (.lst ((Nh os q p os[q]).map V.int))):=fun b w e=>ku _ _ (S3 _ _ e) (aL e fu);have Wr:(upd H3 u (.lst ((Nh os q p os[q]).map V.int))) u=some (.lst ((Nh os q p os[q]).map V.int)):=au;have PK:=ku _ _ U8 (iK U8 Zf (fun z=>nomatch z));generalize upd H3 u (.lst ((Nh os q p os[q]).map V.int))=H4 at S4 Wr PK ⊢;clear ku S3 U8 Zf Yh u1 u2 hp1 Zh Dm hd2 hu2 S2 s2 hu';have fm:=Hf (Pb (p:=p) ql) fo;generalize Nh os q p os[q]=ms at fm Wr eu ⊢;have R4:=R.same S4;refine ⟨_,rfl,_,rfl,t,c,a,u,cs,ms,ns,rfl,R4,ok,Wr,fm,fun H5 s5=> ?_⟩;have S5:=S4.trans s5;have R5:=R.same S5;refine ⟨_,rfl,_,_,_,_,rfl,rfl,bL.of R5.1,rfl,_,rfl,a,u,cs,ms,ns,rfl,R5.2.2,ok,s5 _ _ Wr,fm.2.1,j5 fm,fun H6 s6=> ?_⟩;refine ⟨rfl,_,rfl, ?_⟩;rw [decide_eq_true rfl];refine b_ ?_;dsimp only [lH];have S6:=S5.trans s6;have Zk:=s6 _ _ (s5 _ _ PK);clear PK Wr R4 R5;have R6:=R.same S6;refine ⟨_,rfl,_,_,_,_,rfl,rfl,bL.of R6.1,rfl,c,_,rfl,.inl (aZ.of R6.2.1),_,rfl,by rw [List.length_map];omega,by rw [List.length_map];omega,fun D hD=> ?_⟩;have Ph:(((cs.map V.int).length:Nat):Int).toNat=cs.length:=by simp
  rw [Ph];refine j7 (n:=cs.length) (fun i:Nat=>some (V.int (((os.take (q+1)).count (0+(i:Int)):Nat):Int))) hD (by omega) (fun i H7 G F hi s7 kG kF=> ?_) (fun H7 s7 e7=> ?_)
  ·have aeu:=s7 _ _ (S6 _ _ htt)
   have Zi:=s7 _ _ (S6 _ _ ho);refine ⟨_,rfl,_,rfl,_,rfl,_,rfl,_,_,rfl,bL.of aeu,qg _ rfl,fun p4 Zh=> ?_⟩;rw [show iQ (nV x) (some 2) none=[.int x.2.2.1,.int x.2.2.2] from wO ..];have u2:=aD (o:=HO.tup [V.int x.2.2.1,V.int x.2.2.2]) Zh;refine ⟨d,_,rfl,vq▸h_.t (k:=[Sum.inl x.2.2.1,Sum.inl x.2.2.2]) (u2 _ _ (s7 _ _ Zk)) au, ?_⟩;refine ⟨_,_,rfl,rfl,_,rfl,_,_,rfl,aZ.of (u2 _ _ Zi),fun q1 hq1=> ?_⟩;rw [show ((q:Nat):Int)+1=((q+1:Nat):Int) by omega,pO,←List.map_take];have u3:=aD (o:=HO.lst ((os.take (q+1)).map V.int)) hq1;exact ⟨.inl ⟨rfl,_,aZ.of au⟩,_,rfl,q1,os.take (q+1),0+(i:Int),rfl,rfl,aZ.of au,kF _ _ (u2.trans u3) rfl⟩
  have e7:H7 D=some (.lst ((Jd cs.length os (q+1)).map V.int)):=by
   rw [e7];unfold Jd;rw [List.map_map,←List.filterMap_eq_map];congr 2;refine j6 _ trivial fun i _=> ?_;simp
  have S7:=S6.trans s7;have Jc:=Kg oo (q+1);have U5:=tV ok oo rk (q+1);generalize Jd cs.length os (q+1)=ds at e7 Jc U5;refine ⟨_,rfl,_,rfl,D,_,rfl,.inl (aZ.of e7),fun l hl=> ?_⟩;have s8:=aD (o:=HO.lst (ds.map V.int)) hl;have S8:=S7.trans s8;refine ⟨t,c,a,l,cs,ds,ns,rfl,R.same S8,ok,au,Jc,fun H9 s9=> ?_⟩;rw [decide_eq_true (yO.mpr U5)];refine ⟨_,rfl,b_ ?_⟩;dsimp only [lH];have S9:=S8.trans s9;have e9:=s9 _ _ (s8 _ _ e7);have Ws:=S9 _ _ htt;have fD:H D=none:=S6.free hD;refine ⟨_,rfl,_,_,_,_,rfl,rfl,bL.of Ws,rfl,_,rfl,_,rfl,_,_,_,_,rfl,rfl,bL.of Ws,rfl,D,_,x.1,_,rfl,rfl,e9,pF a0 (by rw [List.length_map,Jc.1];exact a1), ?_⟩;have kD:Kp D H9 (upd H9 D (.lst ((ds.map V.int).set x.1.toNat (V.int x.2.1)))):=Kp.set;have Rq:Same H (upd H9 D (.lst ((ds.map V.int).set x.1.toNat (V.int x.2.1)))):=fun b w e=>kD _ _ (S9 _ _ e) (aL e fD);have e10:(upd H9 D (.lst ((ds.map V.int).set x.1.toNat (V.int x.2.1)))) D=some (.lst ((ds.set x.1.toNat x.2.1).map V.int)):=by rw [au,List.map_set]
  generalize upd H9 D (.lst ((ds.map V.int).set x.1.toNat (V.int x.2.1)))=H10 at Rq e10 ⊢
  have rH:bQ cs (ds.set x.1.toNat x.2.1):=⟨by rw [List.length_set];exact Jc.1,fun i i0 i1=>by
   rw [mL a0 (by rw [Jc.1];exact a1) i0];split
   ·rename_i z;subst z;omega
   ·exact Jc.2 i i0 i1⟩
  refine ⟨_,rfl,_,rfl,t,c,a,D,cs,_,ns,rfl,R.same Rq,ok,e10,rH,fun H11 Vw=> ?_⟩;have Rp:=Rq.trans Vw;have R11:=R.same Rp;refine ⟨_,rfl,_,_,_,_,rfl,rfl,bL.of R11.1,rfl,_,rfl,a,D,cs,_,ns,rfl,R11.2.2,ok,Vw _ _ e10,rH.1,fun H12 s12=> ?_⟩;refine ⟨rfl, ?_⟩;rw [decide_eq_true rfl];exact k _ (Rp.trans s12)
def Jz (x:Nt):Nt:=(x.2.2.1,x.2.2.2,x.1,x.2.1)
theorem Vg {cs:List Int} {x:Nt} (n:Qx cs x):Qx cs (Jz x):=⟨n.2.2.1,n.2.2.2.1,n.1,n.2.1,fun z=>n.2.2.2.2 z.symm⟩
theorem Ju {ns:List Nt} {x:Nt} (a:x∈ns) (b:Jz x∈ns):BL ns [x,Jz x]:=by
 refine ⟨x,[Jz x],rfl,fun y hy=> ?_,⟨rfl,Int.le_refl _⟩,⟨rfl,Int.le_refl _⟩,True.intro⟩;rcases List.mem_cons.mp hy with rfl|hy
 ·exact a
 ·rw [List.mem_singleton.mp hy];exact b
theorem JQ {cs:List Int} {ns c:List Nt} (ok:dh cs ns) (h:BL ns c):2<=c.length:=by
 obtain ⟨x,r,rfl,mem,lk⟩:=h;cases r with
 | nil=>exact absurd lk.1.1.symm (ok.2.2 x (mem x (by simp))).2.2.2.2
 | cons y r=>simp
theorem z6 {H:Hp}:∀{vs:List V} {ns:List Nt},aF H vs (ns.map nD) -> ∃as:List Addr,vs=as.map V.ref
 | [],_,_=>⟨[],rfl⟩
 | v::vs,[],h=>absurd h (by simp [aF])
 | v::vs,x::ns,h=>by
   simp only [List.map_cons,aF] at h;obtain ⟨t,rfl,_⟩:=jE h.1;obtain ⟨as,rfl⟩:=z6 h.2;exact ⟨t::as,rfl⟩
theorem Aw {x:Nt}:∀{ns:List Nt},x∈ns -> ∃j:Nat,ns[j]? = some x /\ ∀m y,m<j->ns[m]? = some y->y≠x
 | [],h=>by cases h
 | y::ns,h=>by
   by_cases e:y=x
   ·exact ⟨0,by rw [e];rfl,fun m z l _=>absurd l (Nat.not_lt_zero _)⟩
   ·obtain ⟨j,e1,e2⟩:=Aw (ns:=ns) (by
     rcases List.mem_cons.mp h with z|z
     ·exact absurd z.symm e
     ·exact z)
    refine ⟨j+1,by simpa using e1,fun m z l ez=> ?_⟩;cases m with
    | zero=>
      have:y=z:=by simpa using ez
      rw [←this];exact e
    | succ m=>exact e2 m z (by omega) (by simpa using ez)
theorem O6 {H:Hp} {vs:List V} {ns:List Nt} {v:V} {x:Nt} (i:Nat) (d:aF H vs (ns.map nD)) (dv:Dat H v (nD x)):aF H (vs.take i++v::vs.drop i) ((ns.take i++x::ns.drop i).map nD):=by
 rw [List.map_append,List.map_cons,List.map_take,List.map_drop];exact aF.append (d.take i) (by simp only [aF];exact ⟨dv,d.drop i⟩)
theorem yx {ns:List Nt} {x y:Nt} {i:Nat}:y∈ns.take i++x::ns.drop i↔y=x\/y∈ns:=by
 have e:(ns.take i++x::ns.drop i).Perm (x::ns):=by
  have:=(List.perm_middle (a:=x) (l₁:=ns.take i) (l₂:=ns.drop i));rwa [List.take_append_drop] at this
 rw [e.mem_iff,List.mem_cons]
theorem Pk (ns:List Nt) (x:Nt) (i:Nat):(ns.take i++x::ns.drop i).length=ns.length+1:=by
 have:=(List.perm_middle (a:=x) (l₁:=ns.take i) (l₂:=ns.drop i)).length_eq;rw [List.take_append_drop] at this;simpa using this
def sV (K:PySem.W.Frag):Sp:=fun vs H Q _=>∃(r b:Addr) (n:Nat) (t c a o tt:Addr) (cs os:List Int) (ns:List Nt) (x:Nt),vs=[.ref r,.ref t,.ref o,.ref tt]/\dZ H r b n/\n<137438953472/\RecAt H t c a cs ns/\c≠r/\o≠r/\dh cs ns/\ns.length<=90000/\H o=some (.lst (os.map V.int))/\iI cs os/\H tt=some (.tup (nV x))/\x∈ns /\ ∀H',Q (.bl true) H'
theorem Hi {f:Addr} {fd:FuncData} (F:jq K "_law_turned" "_law_turned" fL f fd) (dH:FnAt P w K mg base 2 "_law_draw" ["bag","many"] (pY K)) (iz:FnAt P w K mg base 6 "_law_order_or_ring" ["record","size"] (Eo K)) (u_:FnAt P w K mg base 5 "ring" ["record"] (oH K)) (Bt:nA mg):cH P w K mg base iZ 7 f fd ["bag","record","order","tie"] (sV K):=by
 refine F.ok jx (fun vs H Q E h=> ?_) (fun cdv A outer s H vs Q E hr h=> ?_)
 ·obtain ⟨r,b,n,t,c,a,o,tt,cs,os,ns,x,rfl,_⟩:=h
  rfl
 ·obtain ⟨r,b,n,t,c,a,o,tt,cs,os,ns,x,rfl,B0,hn,R,U7,nor,ok,n9,ho,fo,htt,hx,k⟩:=h
  have cX:=hr.units;have c8:=ok.1.1;have nx:=ok.2.2 x hx
  refine ⟨_,(aB (aO (i:=4) jx.nd rfl (Or.inl rfl) (fP (dJ (K:=K) rfl) (by rfl) Bt.lG jm (aj (aK (aG (K:=K) rfl) (pv 1) ao (fun _ _=>rfl)) aA)))
   (aB (aO (i:=5) jx.nd rfl (Or.inl rfl) (cI mH (aN dH (hr.mono (by decide)) (by rfl) (aj (pv 0) (aj ao aA))) ao (aY _)))
   (aB (cj (cW (cT (pv 5))) (aC (cg (lA (K:=K) rfl PySem.F.plainAttrs_list PySem.F.slot_list_remove PySem.F.type_list_remove (Dd hr.xJ) (pv 4) (aj (pv 3) aA)))) bw)
   (aB (cg (lA (K:=K) rfl PySem.F.plainAttrs_list PySem.F.slot_list_insert PySem.F.type_list_insert wF (pv 4) (aj (aN dH (hr.mono (by decide)) (by rfl) (aj (pv 0) (aj (bG dY (aV (aU (K:=K) rfl) (by rfl) Bt.fV dj (aj (pv 4) aA)) ao) aA))) (aj (bG (zV (K:=K) rfl) (cM (gj (K:=K) rfl) (pv 3) (dN ao) dO) (cM (gj (K:=K) rfl) (pv 3) dO (dN ao))) aA))))
   (aB (aO (i:=6) jx.nd rfl (Or.inl rfl) (jP (aj (fP (dJ (K:=K) rfl) (by rfl) Bt.lG jm (aj (aK (aG (K:=K) rfl) (pv 1) ao (fun _ _=>rfl)) aA)) (aj (pv 4) aA))))
   (aB (aO (i:=7) jx.nd rfl (Or.inl rfl) (aN iz (hr.mono (by decide)) (by rfl) (aj (pv 6) (aj (pv 2) aA))))
   (aB (cj (cT (pv 5)) (aC (aP (nY (cI Tf (pv 7) fU (aY _)) (jQ (cI mH (aV (aU (K:=K) rfl) (by rfl) Bt.fV dj (aj (aN u_ (hr.mono (by decide)) (by rfl) (aj (pv 6) aA)) aA)) ao (aY _)))))) bw)
   (aC (aP (cI o9 (pv 7) iy (aY _))))))))))), ?_⟩
  obtain ⟨ht,hc,vs,ha,dv⟩:=id R;have vl:vs.length=ns.length:=by rw [dv.length,List.length_map]
  refine ⟨_,rfl,_,_,_,_,rfl,rfl,bL.of ht,rfl,a,vs,rfl,.inl (aZ.of ha),fun T hT=> ?_⟩;have s1:=aD (o:=HO.lst vs) hT;have hT1:(upd H T (.lst vs)) T=some (.lst vs):=au;obtain ⟨nTr,nTb⟩:=B0.ne hT;have nTc:c≠T:=aL hc hT;have nTo:o≠T:=aL ho hT;have B1:=B0.keep s1;have d1:aF (upd H T (.lst vs)) vs (ns.map nD):=aF.keep s1.tups _ (bx _ dI ns) dv;have ht1:=s1 _ _ ht;have hc1:=s1 _ _ hc;have ho1:=s1 _ _ ho;have Uc:=s1 _ _ htt;generalize upd H T (.lst vs)=H1 at hT1 B1 d1 ht1 hc1 ho1 Uc ⊢;refine ⟨_,rfl,r,b,2,n,rfl,B1,by omega,by decide,by decide,fun z H2 z0 z1 B2 k2=>⟨rfl, ?_⟩⟩;have Yj:=B1.tups k2;have hT2:=k2 _ _ hT1 nTr;have d2:=aF.keep Yj _ (bx _ dI ns) d1;have HX:=Yj _ _ ht1;have Dm:=Yj _ _ Uc;have hc2:=k2 _ _ hc1 U7;have ho2:=k2 _ _ ho1 nor;clear hT1 d1 ht1 hc1 ho1 Uc Yj k2;dsimp only [mK];refine yd (fun σ H3=>∃(ms:List Nt) (ws:List V),σ=[some (.ref r),some (.ref t),some (.ref o),some (.ref tt),some (.ref T),some (.bl (decide (V.int z=V.int 1))),none,none]/\H3 T=some (.lst ws)/\aF H3 ws (ms.map nD)/\(∀y∈ms,y∈ns)/\ms.length<=90000/\(z=1->ms=ns)/\dZ H3 r b (n+1)/\H3 t=some (.tup [.ref c,.ref a])/\H3 tt=some (.tup (nV x))/\H3 c=some (.lst (cs.map V.int))/\H3 o=some (.lst (os.map V.int))) (fun D' hD' _=> ?_) ?_
  ·refine ⟨_,rfl,_,rfl, ?_⟩
   by_cases q:z=1
   ·rw [decide_eq_true (show V.int z=V.int 1 by rw [q])]
    refine b_ ?_;exact hD' _ _ ⟨ns,vs,by rw [decide_eq_true (show V.int z=V.int 1 by rw [q])];rfl,hT2,d2,fun y h=>h,n9,fun _=>rfl,B2,HX,Dm,hc2,ho2⟩
   ·rw [decide_eq_false (show ¬V.int z=V.int 1 from fun w=>q (by injection w))]
    refine fX ?_;obtain ⟨as,rfl⟩:=z6 d2;obtain ⟨j,ej,ej'⟩:=Aw hx;refine ⟨_,rfl,.inl ⟨rfl,_,aZ.of hT2⟩,_,rfl,T,as,_,nD x,ns.map nD,j,nD x,rfl,rfl,hT2,d2,oA Dm,jt x,fun e he=> ?_,by rw [List.getElem?_map,ej];rfl,by rw [mQ];simp,fun m e' l ee=> ?_, ?_⟩
    ·obtain ⟨y,_,rfl⟩:=List.mem_map.mp he
     exact jt y
    ·rw [List.getElem?_map] at ee
     cases ey:ns[m]? with
     | none=>rw [ey] at ee;cases ee
     | some y=>
       rw [ey] at ee;cases ee;rw [mQ];exact decide_eq_false (ej' m y l ey)
    have kT:Kp T H2 (upd H2 T (.lst ((as.map V.ref).eraseIdx j))):=Kp.set;have Ry:=kT.tups hT2;refine hD' _ _ ⟨ns.eraseIdx j,_,by rw [decide_eq_false (show ¬V.int z=V.int 1 from fun w=>q (by injection w))];rfl,au, ?_,fun y hy=>List.mem_of_mem_eraseIdx hy, ?_,fun w=>absurd w q,B2.kp kT nTr.symm nTb.symm,Ry _ _ HX,Ry _ _ Dm,kT _ _ hc2 nTc,kT _ _ ho2 nTo⟩
    ·rw [←nZ]
     refine aF.keep Ry _ ?_ (uK j d2);rw [nZ];exact bx _ dI _
    ·have:=List.length_eraseIdx_le ns j
     omega
  rintro σ H3 ⟨ms,ws,rfl,hT3,d3,sub,ml,eqn,B3,ht3,aev,hc3,Zj⟩;have wl:ws.length=ms.length:=by rw [d3.length,List.length_map]
  refine ⟨_,rfl,.inl ⟨rfl,_,aZ.of hT3⟩,_,rfl,_,rfl,T,_,rfl,.inl (aZ.of hT3),_,_,rfl,rfl,r,b,_,_,rfl,B3,by omega,by omega,by omega,fun i H4 i0 i1 B4 k4=> ?_⟩;have tp4:=B3.tups k4;have hT4:=k4 _ _ hT3 nTr;have d4:=aF.keep tp4 _ (bx _ dI ms) d3;have ht4:=tp4 _ _ ht3;have Wt:=tp4 _ _ aev;have hc4:=k4 _ _ hc3 U7;have ho4:=k4 _ _ Zj nor;refine ⟨_,rfl,_,rfl,_,_,rfl,bL.of Wt,qg _ rfl,fun p1 hp1=> ?_⟩;rw [show iQ (nV x) (some 2) none=[.int x.2.2.1,.int x.2.2.2] from wO ..];have u1:=aD (o:=HO.tup [V.int x.2.2.1,V.int x.2.2.2]) hp1;refine ⟨_,rfl,_,rfl,_,_,rfl,bL.of (u1 _ _ Wt),qj _ rfl,fun p2 hp2=> ?_⟩;rw [show iQ (nV x) none (some 2)=[.int x.1,.int x.2.1] from wQ ..];have u2:=aD (o:=HO.tup [V.int x.1,V.int x.2.1]) hp2;refine ⟨p1,p2,_,_,rfl,rfl,bL.of (u2 _ _ au),bL.of au,by simp,(by show 2+2<=sizeLine;decide),fun e=>(by cases e),fun _ p3 hp3=> ?_⟩;have u3:=aD (o:=HO.tup ([V.int x.2.2.1,V.int x.2.2.2]++[V.int x.1,V.int x.2.1])) hp3;have U:=(u1.trans u2).trans u3;have e5:(upd (upd (upd H4 p1 (.tup [V.int x.2.2.1,V.int x.2.2.2])) p2 (.tup [V.int x.1,V.int x.2.1])) p3 (.tup ([V.int x.2.2.1,V.int x.2.2.2]++[V.int x.1,V.int x.2.1]))) p3=some (.tup (nV (Jz x))):=au;have hT5:=U _ _ hT4;have d5:=aF.keep U.tups _ (bx _ dI ms) d4;have ht5:=U _ _ ht4;have hc5:=U _ _ hc4;have ho5:=U _ _ ho4;generalize (upd (upd (upd H4 p1 (.tup [V.int x.2.2.1,V.int x.2.2.2])) p2 (.tup [V.int x.1,V.int x.2.1])) p3 (.tup ([V.int x.2.2.1,V.int x.2.2.2]++[V.int x.1,V.int x.2.1])))=H5 at e5 hT5 d5 ht5 hc5 ho5 ⊢;refine ⟨T,ws,i,.ref p3,rfl,rfl,hT5,i0,by omega,by rw [sizeLine_eq];omega, ?_⟩;have kT:Kp T H5 (upd H5 T (.lst (ws.take i.toNat++V.ref p3::ws.drop i.toNat))):=Kp.set;have Ry:=kT.tups hT5;have N6:cJ (upd H5 T (.lst (ws.take i.toNat++V.ref p3::ws.drop i.toNat))) T (ms.take i.toNat++Jz x::ms.drop i.toNat):=⟨_,au,O6 _ (aF.keep Ry _ (bx _ dI ms) d5) (oA (Ry _ _ e5))⟩;have ht6:=Ry _ _ ht5;have hc6:=kT _ _ hc5 nTc;have ho6:=kT _ _ ho5 nTo;generalize upd H5 T (.lst (ws.take i.toNat++V.ref p3::ws.drop i.toNat))=H6 at N6 ht6 hc6 ho6 ⊢
  have ok':dh cs (ms.take i.toNat++Jz x::ms.drop i.toNat):=⟨ok.1,by rw [Pk];omega,fun y hy=>by
   rcases yx.mp hy with rfl|hy
   ·exact Vg nx
   ·exact ok.2.2 y (sub y hy)⟩
  have two:z=1->BL (ms.take i.toNat++Jz x::ms.drop i.toNat) [x,Jz x]:=fun q=>Ju (yx.mpr (.inr (by rw [eqn q];exact hx))) (yx.mpr (.inl rfl));generalize ms.take i.toNat++Jz x::ms.drop i.toNat=ls at N6 ok' two;refine ⟨_,rfl,_,_,_,_,rfl,rfl,bL.of ht6,rfl,c,_,rfl,.inl (aZ.of hc6),fun c' hc'=> ?_⟩;have s7:=aD (o:=HO.lst (cs.map V.int)) hc';refine ⟨_,rfl,(by show 2<=sizeLine;decide),fun t' ht'=> ?_⟩;have s8:=aD (o:=HO.tup [V.ref c',V.ref T]) ht';have R8:RecAt (upd (upd H6 c' (.lst (cs.map V.int))) t' (.tup [V.ref c',V.ref T])) t' c' T cs ls:=⟨au,s8 _ _ au,(N6.same s7).same s8⟩;have ho8:=s8 _ _ (s7 _ _ ho6);generalize upd (upd H6 c' (.lst (cs.map V.int))) t' (.tup [V.ref c',V.ref T])=H8 at R8 ho8 ⊢;refine ⟨_,rfl,_,rfl,t',c',T,o,cs,os,ls,rfl,R8,ok',ho8,j5 fo,fo.2.1,fun st H9 s9=> ?_,fun os' ff rk H9 s9=> ?_⟩
  ·refine ⟨_,rfl,_,rfl, ?_⟩
   by_cases q:z=1
   ·rw [decide_eq_true (show V.int z=V.int 1 by rw [q])]
    refine fX ?_;refine ⟨_,rfl,_,_,rfl,rfl,_,rfl,fX ?_⟩;refine ⟨_,rfl,t',c',T,cs,ls,rfl,R8.same s9,ok',fun no H10 _=>absurd (two q) (no _),fun p cc H10 s10 hp N rg le sh=> ?_⟩;obtain ⟨cv,hcv,dcv⟩:=id N;have cl:cv.length=cc.length:=by rw [dcv.length,List.length_map]
    refine ⟨p,_,rfl,.inl (aZ.of hcv),rfl, ?_⟩;have h1:=sh _ (two q);have h2:=JQ ok' rg
    have e2:cv.length=2:=by
     have:[x,Jz x].length=2:=rfl;omega
    rw [e2];exact k _
   ·rw [decide_eq_false (show ¬V.int z=V.int 1 from fun w=>q (by injection w))]
    refine b_ ?_;dsimp only [lH];exact ⟨_,rfl,rfl,k _⟩
  ·refine ⟨_,rfl,_,rfl, ?_⟩
   by_cases q:z=1
   ·exact absurd (two q) (qd ok' (j5 ff) rk _)
   ·rw [decide_eq_false (show ¬V.int z=V.int 1 from fun w=>q (by injection w))]
    refine b_ ?_;dsimp only [lH];exact ⟨_,rfl,rfl,k _⟩
def Ep (K:PySem.W.Frag):Sp:=fun vs H Q _=>∃(a:Addr) (ns:List Int),vs=[.ref a]/\aZ K H a (ns.map V.int)/\ns.length<=63 /\ ∀H',Q (.bl true) H'
theorem Tn {f:Addr} {fd:FuncData} (F:jq K "law" "law" oW f fd) (UL:FnAt P w K mg base 1 "_law_bag" ["script"] (JK K)) (dH:FnAt P w K mg base 2 "_law_draw" ["bag","many"] (pY K)) (UJ:FnAt P w K mg base 4 "_law_web" ["bag","hands"] (JH K)) (Bs:FnAt P w K mg base 5 "record_of" ["hands","web"] (xO K)) (pU:FnAt P w K mg base 5 "keeps" ["record","order"] (oJ K)) (iz:FnAt P w K mg base 6 "_law_order_or_ring" ["record","size"] (Eo K)) (Bu:FnAt P w K mg base 5 "least_cut" ["record","some"] (xR K)) (vd:FnAt P w K mg base 5 "greatest_cut" ["record","some"] (nT K)) (u_:FnAt P w K mg base 5 "ring" ["record"] (oH K)) (QF:FnAt P w K mg base 6 "_law_bent" ["record","order","tie"] (Cr K)) (Ja:FnAt P w K mg base 7 "_law_turned" ["bag","record","order","tie"] (sV K)) (Bt:nA mg):cH P w K mg base iZ 8 f fd ["script"] (Ep K):=by
 refine F.ok jN (fun vs H Q E h=> ?_) (fun cdv A outer s H vs Q E hr h=> ?_)
 ·obtain ⟨a,ns,rfl,_⟩:=h
  rfl
 ·obtain ⟨sa,sns,rfl,hS,hlen,k⟩:=h
  have cX:=hr.units
  refine ⟨_,(aB (aO (i:=1) jN.nd rfl (Or.inl rfl) (aN UL (hr.mono (by decide)) (by rfl) (aj (pv 0) aA)))
   (aB (aO (i:=2) jN.nd rfl (Or.inl rfl) (cI mH (aN dH (hr.mono (by decide)) (by rfl) (aj (pv 1) (aj ao aA))) ao (aY _)))
   (aB (aO (i:=3) jN.nd rfl (Or.inl rfl) (bG dY ao (aN dH (hr.mono (by decide)) (by rfl) (aj (pv 1) (aj ao aA)))))
   (aB (aO (i:=4) jN.nd rfl (Or.inl rfl) (aN UJ (hr.mono (by decide)) (by rfl) (aj (pv 1) (aj (pv 3) aA))))
   (aB (aO (i:=5) jN.nd rfl (Or.inl rfl) (aN Bs (hr.mono (by decide)) (by rfl) (aj (pv 3) (aj (pv 4) aA))))
   (aB (aO (i:=6) jN.nd rfl (Or.inr rfl) (cU rfl (N:=["one"]) (own:=["one"]) (caps:=[]) (aQ.of (by kernel_rfl)) (bM (K:=K) rfl (pv 4)) (fun _ _ _ _=>(bh (i:=0) (show List.Nodup (["one"]:List Str) by decide +kernel) rfl (Or.inl rfl))) (fun _ _ _ _=>cZ) (fun _ _ _ _=>(aK (aG (K:=K) rfl) (pv 0) ao (fun _ _=>rfl)))))
   (aB (aO (i:=7) jN.nd rfl (Or.inr rfl) (aN dH (hr.mono (by decide)) (by rfl) (aj (pv 1) (aj (bG dY (aV (aU (K:=K) rfl) (by rfl) Bt.fV dj (aj (pv 4) aA)) ao) aA))))
   (aB (rT (i:=8) rfl jN.nd rfl (Or.inl rfl) (N:=["hand","order","at"]) (own:=["hand"]) (caps:=[6,7]) (aQ.of (by kernel_rfl)) (fO (by rfl) Bt.iH (aj (pv 3) aA)) (fun _ _ _ _=>(bh (i:=0) (show List.Nodup (["hand","order","at"]:List Str) by decide +kernel) rfl (Or.inl rfl))) (fun _ _ _ _=>cZ) (fun _ _ _ _=>(lA (K:=K) rfl PySem.F.plainAttrs_list PySem.F.slot_list_count PySem.F.type_list_count (ni (K:=K) rfl) (cM (oN (K:=K) rfl) (pv 1) dO (dN (pv 2))) (aj (pv 0) aA))))
   (aB (cj (PW.pt (iJ (bf yr (aN pU (hr.mono (by decide)) (by rfl) (aj (pv 5) (aj (pv 6) aA))) fU (aY _)) (gO (bf yr (aN iz (hr.mono (by decide)) (by rfl) (aj (pv 5) (aj (pv 6) aA))) fU (aY _))))) (aC (aP fU)) bw)
   (aB (cj (PW.pt (iJ (bf (m_ (K:=K) rfl cX) (aN Bu (hr.mono (by decide)) (by rfl) (aj (pv 5) (aj (pv 8) aA))) (pv 8) (aY _)) (gO (bf (m_ (K:=K) rfl cX) (aN vd (hr.mono (by decide)) (by rfl) (aj (pv 5) (aj (pv 8) aA))) (pv 8) (aY _))))) (aC (aP fU)) bw)
   (aB (cj (PW.pt (mz (bf tW (aV (aU (K:=K) rfl) (by rfl) Bt.fV dj (aj (pv 4) aA)) ao (aY _)) (jG (bf o9 (aN u_ (hr.mono (by decide)) (by rfl) (aj (pv 5) aA)) iy (aY _))))) (aC (aP fU)) bw)
   (aB (cj (bf (yt (K:=K) rfl cX) (aK (aG (K:=K) rfl) (pv 5) ao (fun _ _=>rfl)) (dX aA) (aY _)) (aC (aP fU)) bw)
   (aB (aO (i:=9) jN.nd rfl (Or.inl rfl) (aK (aM (K:=K) rfl) (aK (aG (K:=K) rfl) (pv 5) ao (fun _ _=>rfl)) (aN dH (hr.mono (by decide)) (by rfl) (aj (pv 1) (aj (aV (aU (K:=K) rfl) (by rfl) Bt.fV dj (aj (aK (aG (K:=K) rfl) (pv 5) ao (fun _ _=>rfl)) aA)) aA))) (fun _ _=>rfl)))
   (aB (cj (cW (cT (aN QF (hr.mono (by decide)) (by rfl) (aj (pv 5) (aj (pv 6) (aj (pv 9) aA)))))) (aC (aP fU)) bw)
   (aC (aP (Fl (Kc (pv 2)) (Fl (cI Kl (aV (aU (K:=K) rfl) (by rfl) Bt.fV dj (aj (pv 4) aA)) ao (aY _)) (jQ (aN Ja (hr.mono (by decide)) (by rfl) (aj (pv 1) (aj (pv 5) (aj (pv 6) (aj (pv 9) aA)))))))))))))))))))))))), ?_⟩
  refine ⟨_,rfl,sa,sns,rfl,hS,hlen,fun r b H1 hr1 hb1 B1 s1=> ?_⟩;refine ⟨_,rfl,r,b,2,0,rfl,B1,by decide,by decide,by decide,fun z H2 z0 z1 B2 k2=>⟨rfl, ?_⟩⟩;refine ⟨_,rfl,r,b,7,1,rfl,B2,by decide,by decide,by decide,fun y H3 y0 y1 B3 k3=>⟨_,_,rfl,rfl, ?_⟩⟩;obtain ⟨hn,ehn⟩:=Int.eq_ofNat_of_zero_le (show 0<=2+y by omega);show mK 3 (V.int (2+y)) _ _ _;rw [ehn];refine ⟨_,rfl,_,rfl,r,b,_,(hn:Int),rfl,B3,by decide,by omega,by omega,fun w ws H4 hw0 W V2 wl w20 B4 k4=> ?_⟩;obtain ⟨nwr,_⟩:=B3.ne hw0;refine ⟨_,rfl,_,rfl,(hn:Int),w,ws,rfl,W,wl,fun x hx=> ?_,⟨⟨by omega,by omega⟩,fun x hx=>(V2 x hx).1.2⟩,fun t c a ns H5 ht0 hc0 ha0 nca ht hc N pm srt s5=> ?_⟩
  ·have:=(V2 x hx).1
   omega
  rw [Int.toNat_natCast] at hc;obtain ⟨Ez,n9⟩:=JT V2 (by omega) wl pm;have og:=zx V2;have rk:=Gq V2 Ez pm;have csl:(jT ws hn).length=hn:=by unfold jT;simp
  have R5:RecAt H5 t c a (jT ws hn) ns:=⟨ht,hc,N⟩;have wol:(v8 ws).length=ws.length:=by unfold v8;rw [List.length_map]
  have fo:iI (jT ws hn) (v8 ws):=⟨og.1,by omega,og.2⟩;generalize hcs:jT ws hn=cs at *;have B5:=B4.keep s5;obtain ⟨U7,_⟩:=B4.ne hc0;obtain ⟨nar,_⟩:=B4.ne ha0;have W5:=W.same s5;obtain ⟨vs,hv,dv⟩:=id W5;have vl:vs.length=ws.length:=by rw [dv.length,List.length_map]
  refine ⟨_,rfl,w,rfl,⟨_,aZ.of hv⟩,fun o ho0=> ?_⟩;refine eN (K:=K) (fun i=>(ws[i]?).map fun x=>V.int x.1) ho0 (aZ.of hv) (by omega) (fun i v H6 G F hi s6 kG kF=> ?_) (fun H6 s6 e6=> ?_)
  ·obtain ⟨dd,ed,dy⟩:=dv.get hi
   rw [List.getElem?_map] at ed;cases ex:ws[i]? with
   | none=>rw [ex] at ed;cases ed
   | some x=>
     rw [ex] at ed;cases ed;obtain ⟨q,rfl,hq⟩:=jM dy;exact ⟨_,rfl,_,_,_,_,rfl,rfl,bL.of (s6 _ _ hq),rfl,kF _ H6 (Same.refl _) (by rw [ex];rfl)⟩
  have e6:H6 o=some (.lst ((v8 ws).map V.int)):=by
   rw [e6,vl,Du];unfold v8;rw [List.map_map];rfl
  have B6:=B5.keep s6;obtain ⟨nor,_⟩:=B5.ne ho0;have R6:=R5.same s6;have hv6:=s6 _ _ hv;refine ⟨_,rfl,_,rfl,w,_,rfl,.inl (aZ.of hv6),_,_,rfl,rfl,r,b,_,_,rfl,B6,by omega,by omega,by omega,fun at' H7 at0 at1 B7 k7=> ?_⟩;obtain ⟨m,rfl⟩:=Int.eq_ofNat_of_zero_le at0;obtain ⟨yl6,hl6⟩:=B6.lst;have R7:=R6.kp hl6 k7 U7 nar;have e7:=k7 _ _ e6 nor;have Wn:=k7 _ _ hv6 nwr;refine ⟨_,rfl,(hn:Int),rfl,by omega,by omega,fun D hD=> ?_⟩;rw [Int.toNat_natCast];refine j7 (n:=hn) (fun i:Nat=>some (V.int ((((v8 ws).take m).count (0+(i:Int)):Nat):Int))) hD (by omega) (fun i H8 G F hi s8 kG kF=> ?_) (fun H8 s8 e8=> ?_)
  ·refine ⟨_,rfl,_,rfl,_,rfl,_,_,rfl,aZ.of (s8 _ _ e7),fun q1 hq1=> ?_⟩
   rw [pO,←List.map_take];exact ⟨.inl ⟨rfl,_,aZ.of au⟩,_,rfl,q1,(v8 ws).take m,0+(i:Int),rfl,rfl,aZ.of au,kF _ _ (aD hq1) rfl⟩
  have e8:H8 D=some (.lst ((Jd cs.length (v8 ws) m).map V.int)):=by
   rw [e8,csl];unfold Jd;rw [List.map_map,←List.filterMap_eq_map];congr 2;refine j6 _ trivial fun i _=> ?_;simp
  have Jc:=Kg og m;have U5:=tV Ez og rk m;generalize Jd cs.length (v8 ws) m=ds at e8 Jc U5;have R8:=R7.same s8;have B8:=B7.keep s8;have Z6:=s8 _ _ e7;have hv8:=s8 _ _ Wn;clear R7 R6 R5 B7 B6 B5 e7 e6 Wn hv6 k7 W5 W;refine ⟨_,rfl,_,rfl,t,c,a,o,cs,_,ns,rfl,R8,Ez,Z6,fo,fun H9 s9=> ?_⟩;rw [rk];refine ⟨_,_,rfl,rfl,_,rfl,b_ ?_⟩;refine ⟨_,rfl,_,rfl,t,c,a,o,cs,_,ns,rfl,R8.same s9,Ez,s9 _ _ Z6,og,fo.2.1,fun st H10 _=> ?_,fun os' ff rk' H10 s10=> ?_⟩
  ·obtain ⟨c',rg⟩:=sU Ez st
   exact absurd rg (qd Ez og rk c')
  refine ⟨_,_,rfl,rfl,_,rfl,b_ ?_⟩;dsimp only [lH];have Rq:=s9.trans s10;refine ⟨_,rfl,_,rfl,t,c,a,D,cs,ds,ns,rfl,R8.same Rq,Ez,Rq _ _ e8,Jc,fun n1 L1 H11 hn1 hL LL Vw=> ?_⟩;have Rp:=Rq.trans Vw;refine ⟨_,rfl,_,_,fZ hL,fZ (Rp _ _ e8),shaped_ints _,shaped_ints _,_,rfl, ?_⟩;rw [if_pos rfl,gQ PyData.int pK,decide_eq_true (Dh Jc U5 LL)];refine b_ ?_;refine ⟨_,rfl,_,rfl,t,c,a,D,cs,ds,ns,rfl,R8.same Rp,Ez,Rp _ _ e8,Jc,fun n2 L2 H12 hn2 hG GG s12=> ?_⟩;have Vc:=Rp.trans s12;refine ⟨_,rfl,_,_,fZ hG,fZ (Vc _ _ e8),shaped_ints _,shaped_ints _,_,rfl, ?_⟩;rw [if_pos rfl,gQ PyData.int pK,decide_eq_true (Dq Jc U5 GG)];refine b_ ?_;dsimp only [lH];have R12:=R8.same Vc;have B12:=B8.keep Vc;have aeQ:=Vc _ _ Z6;have Wq:=Vc _ _ hv8;clear Vc Rp Rq s12 Vw s10 s9 hL hG e8 R8 B8 Z6 hv8;refine yd (fun σ Ye=>σ=[some (.ref sa),some (.ref r),some (.bl (decide (V.int z=V.int 1))),some (.int (hn:Int)),some (.ref w),some (.ref t),some (.ref o),some (.int (m:Int)),some (.ref D),none]/\Same H12 Ye) (fun D' hD' _=> ?_) ?_
  ·refine ⟨_,rfl,w,_,rfl,.inl (aZ.of Wq),_,_,rfl,rfl,_,rfl,iM (fun _=> ?_) (fun _=>b_ (hD' _ _ ⟨rfl,Same.refl _⟩))⟩
   refine ⟨_,rfl,t,c,a,cs,ns,rfl,R12,Ez,fun _ Ye qb=> ?_,fun p cc Ye _ _ _ rg _ _=>absurd rg (qd Ez og rk cc)⟩;exact ⟨rfl,_,rfl,b_ (hD' _ _ ⟨rfl,qb⟩)⟩
  rintro σ Ye ⟨rfl,qb⟩;have R13:=R12.same qb;obtain ⟨aew,aj6,us,aeH,du⟩:=id R13;have ul:us.length=ns.length:=by rw [du.length,List.length_map]
  refine ⟨_,rfl,_,_,_,_,rfl,rfl,bL.of aew,rfl,(by show 0<=sizeLine;decide),fun q hq=> ?_⟩;have sq:=aD (o:=HO.lst []) hq;refine ⟨_,_,gR (sq _ _ aeH) (aF.keep sq.tups _ (bx _ dI ns) du),gR (ds:=([]:List Nt).map nD) au (by simp only [List.map_nil,aF]),fj ns,fj [],_,rfl, ?_⟩;rw [if_neg Bool.false_ne_true,gQ nD mQ]
  by_cases e0:ns=[]
  ·rw [decide_eq_true e0]
   exact fX (k _)
  rw [decide_eq_false e0];refine b_ ?_;dsimp only [lH];have npos:0<ns.length:=List.length_pos_iff.mpr e0;have Z8:=qb.trans sq;have R14:=R12.same Z8;have B14:=B12.keep Z8;have WX:=Z8 _ _ aeQ;have Wo:=Z8 _ _ Wq;generalize upd Ye q (.lst [])=H14 at R14 B14 WX Wo ⊢;obtain ⟨Wu,aj5,us4,aeG,du4⟩:=id R14;have ul4:us4.length=ns.length:=by rw [du4.length,List.length_map]
  refine ⟨_,rfl,_,_,_,_,rfl,rfl,bL.of Wu,rfl,_,rfl,_,rfl,_,_,_,_,rfl,rfl,bL.of Wu,rfl,a,_,rfl,.inl (aZ.of aeG),r,b,_,_,rfl,B14,by omega,by omega,by omega,fun i H15 i0 i1 B15 Q_=> ?_⟩;obtain ⟨air,aeD⟩:=B14.lst;have R15:=R14.kp aeD Q_ U7 nar;have WW:=Q_ _ _ WX nor;have aer:=Q_ _ _ Wo nwr;obtain ⟨ajS,aj4,us5,aeF,du5⟩:=id R15;have ul5:us5.length=ns.length:=by rw [du5.length,List.length_map]
  obtain ⟨im,rfl⟩:=Int.eq_ofNat_of_zero_le i0;have iml:im<us5.length:=by omega
  obtain ⟨x,tt,ex,ev,htt⟩:=eV du5 (i:=im) (v:=us5[im]) (by simp [iml]);have Rc:=List.mem_of_getElem? ex;refine ⟨_,_,_,_,rfl,rfl,aZ.of aeF,dR (v:=V.ref tt) (by rw [←ev];simp [iml]), ?_⟩;refine ⟨_,rfl,_,rfl,_,rfl,t,c,a,o,tt,cs,_,ns,x,rfl,R15,Ez,WW,fo,rk,htt,Rc,fun H16 Vv=>⟨_,rfl,b_ ?_⟩⟩;dsimp only [lH];refine ⟨_,rfl,_,rfl,_,rfl, ?_⟩;refine iM (fun _=>k _) (fun _=> ?_);refine ⟨_,rfl,w,_,rfl,.inl (aZ.of (Vv _ _ aer)),_,_,rfl,rfl,_,rfl,iM (fun _=> ?_) (fun _=> ?_)⟩
  ·exact k _
  ·exact ⟨_,rfl,_,rfl,_,rfl,_,rfl,r,b,_,t,c,a,o,tt,cs,_,ns,x,rfl,B15.keep Vv,by omega,R15.same Vv,U7,nor,Ez,n9,Vv _ _ WW,fo,Vv _ _ htt,Rc,fun H17=>k H17⟩
end
theorem len0 {us:List Value} (h:us.length=0):us=[]:=List.eq_nil_of_length_eq_zero h
theorem bB {us:List Value} {n:Nat} (h:us.length=n+1):∃a vs,us=a::vs/\vs.length=n:=by
 cases us with
 | nil=>cases h
 | cons a t=>exact ⟨a,t,rfl,Nat.succ.inj h⟩
theorem Qn (kV doc pm:Value) (an:Option Addr) (cdv ct:Value) (us:List Value) (hl:us.length=(["script"]:List Str).length):bindArgs (PySem.W.fnOf "_law_bag" "_law_bag" (aJ k_) (aH k_) (ak k_) .none kV doc pm an cdv ct) ⟨us,[]⟩=pure ((["script"]:List Str).zip us):=by obtain ⟨_,_,rfl,h1⟩:=bB hl;cases len0 h1;rfl
theorem Mz (kV doc pm:Value) (an:Option Addr) (cdv ct:Value) (us:List Value) (hl:us.length=(["number","place"]:List Str).length):bindArgs (PySem.W.fnOf "_law_stir" "_law_stir" (aJ jg) (aH jg) (ak jg) .none kV doc pm an cdv ct) ⟨us,[]⟩=pure ((["number","place"]:List Str).zip us):=by obtain ⟨_,_,rfl,h1⟩:=bB hl;obtain ⟨_,_,rfl,h2⟩:=bB h1;cases len0 h2;rfl
theorem MF (kV doc pm:Value) (an:Option Addr) (cdv ct:Value) (us:List Value) (hl:us.length=(["bag","many"]:List Str).length):bindArgs (PySem.W.fnOf "_law_draw" "_law_draw" (aJ jh) (aH jh) (ak jh) .none kV doc pm an cdv ct) ⟨us,[]⟩=pure ((["bag","many"]:List Str).zip us):=by obtain ⟨_,_,rfl,h1⟩:=bB hl;obtain ⟨_,_,rfl,h2⟩:=bB h1;cases len0 h2;rfl
theorem Iw (kV doc pm:Value) (an:Option Addr) (cdv ct:Value) (us:List Value) (hl:us.length=(["bag","hands","cells","loads","apart"]:List Str).length):bindArgs (PySem.W.fnOf "_law_touch" "_law_touch" (aJ gJ) (aH gJ) (ak gJ) .none kV doc pm an cdv ct) ⟨us,[]⟩=pure ((["bag","hands","cells","loads","apart"]:List Str).zip us):=by obtain ⟨_,_,rfl,h1⟩:=bB hl;obtain ⟨_,_,rfl,h2⟩:=bB h1;obtain ⟨_,_,rfl,h3⟩:=bB h2;obtain ⟨_,_,rfl,h4⟩:=bB h3;obtain ⟨_,_,rfl,h5⟩:=bB h4;cases len0 h5;rfl
theorem Qm (kV doc pm:Value) (an:Option Addr) (cdv ct:Value) (us:List Value) (hl:us.length=(["bag","hands"]:List Str).length):bindArgs (PySem.W.fnOf "_law_web" "_law_web" (aJ kZ) (aH kZ) (ak kZ) .none kV doc pm an cdv ct) ⟨us,[]⟩=pure ((["bag","hands"]:List Str).zip us):=by obtain ⟨_,_,rfl,h1⟩:=bB hl;obtain ⟨_,_,rfl,h2⟩:=bB h1;cases len0 h2;rfl
theorem rJ (kV doc pm:Value) (an:Option Addr) (cdv ct:Value) (us:List Value) (hl:us.length=(["one","other"]:List Str).length):bindArgs (PySem.W.fnOf "touches_meet" "touches_meet" (aJ bR) (aH bR) (ak bR) .none kV doc pm an cdv ct) ⟨us,[]⟩=pure ((["one","other"]:List Str).zip us):=by obtain ⟨_,_,rfl,h1⟩:=bB hl;obtain ⟨_,_,rfl,h2⟩:=bB h1;cases len0 h2;rfl
theorem DK (kV doc pm:Value) (an:Option Addr) (cdv ct:Value) (us:List Value) (hl:us.length=(["web","place","later"]:List Str).length):bindArgs (PySem.W.fnOf "is_step" "is_step" (aJ fH) (aH fH) (ak fH) .none kV doc pm an cdv ct) ⟨us,[]⟩=pure ((["web","place","later"]:List Str).zip us):=by obtain ⟨_,_,rfl,h1⟩:=bB hl;obtain ⟨_,_,rfl,h2⟩:=bB h1;obtain ⟨_,_,rfl,h3⟩:=bB h2;cases len0 h3;rfl
theorem Bk (kV doc pm:Value) (an:Option Addr) (cdv ct:Value) (us:List Value) (hl:us.length=(["name","known"]:List Str).length):bindArgs (PySem.W.fnOf "is_known" "is_known" (aJ eE) (aH eE) (ak eE) .none kV doc pm an cdv ct) ⟨us,[]⟩=pure ((["name","known"]:List Str).zip us):=by obtain ⟨_,_,rfl,h1⟩:=bB hl;obtain ⟨_,_,rfl,h2⟩:=bB h1;cases len0 h2;rfl
theorem Mw (kV doc pm:Value) (an:Option Addr) (cdv ct:Value) (us:List Value) (hl:us.length=(["known","more"]:List Str).length):bindArgs (PySem.W.fnOf "learn" "learn" (aJ je) (aH je) (ak je) .none kV doc pm an cdv ct) ⟨us,[]⟩=pure ((["known","more"]:List Str).zip us):=by obtain ⟨_,_,rfl,h1⟩:=bB hl;obtain ⟨_,_,rfl,h2⟩:=bB h1;cases len0 h2;rfl
theorem vX (kV doc pm:Value) (an:Option Addr) (cdv ct:Value) (us:List Value) (hl:us.length=(["web","named","knowns","place"]:List Str).length):bindArgs (PySem.W.fnOf "bare_steps" "bare_steps" (aJ cR) (aH cR) (ak cR) .none kV doc pm an cdv ct) ⟨us,[]⟩=pure ((["web","named","knowns","place"]:List Str).zip us):=by obtain ⟨_,_,rfl,h1⟩:=bB hl;obtain ⟨_,_,rfl,h2⟩:=bB h1;obtain ⟨_,_,rfl,h3⟩:=bB h2;obtain ⟨_,_,rfl,h4⟩:=bB h3;cases len0 h4;rfl
theorem Bg (kV doc pm:Value) (an:Option Addr) (cdv ct:Value) (us:List Value) (hl:us.length=(["named","bare","name"]:List Str).length):bindArgs (PySem.W.fnOf "notes_to" "notes_to" (aJ d8) (aH d8) (ak d8) .none kV doc pm an cdv ct) ⟨us,[]⟩=pure ((["named","bare","name"]:List Str).zip us):=by obtain ⟨_,_,rfl,h1⟩:=bB hl;obtain ⟨_,_,rfl,h2⟩:=bB h1;obtain ⟨_,_,rfl,h3⟩:=bB h2;cases len0 h3;rfl
theorem Mv (kV doc pm:Value) (an:Option Addr) (cdv ct:Value) (us:List Value) (hl:us.length=(["web"]:List Str).length):bindArgs (PySem.W.fnOf "names" "names" (aJ jd) (aH jd) (ak jd) .none kV doc pm an cdv ct) ⟨us,[]⟩=pure ((["web"]:List Str).zip us):=by obtain ⟨_,_,rfl,h1⟩:=bB hl;cases len0 h1;rfl
theorem Mu (kV doc pm:Value) (an:Option Addr) (cdv ct:Value) (us:List Value) (hl:us.length=(["web"]:List Str).length):bindArgs (PySem.W.fnOf "notes" "notes" (aJ jc) (aH jc) (ak jc) .none kV doc pm an cdv ct) ⟨us,[]⟩=pure ((["web"]:List Str).zip us):=by obtain ⟨_,_,rfl,h1⟩:=bB hl;cases len0 h1;rfl
theorem Bj (kV doc pm:Value) (an:Option Addr) (cdv ct:Value) (us:List Value) (hl:us.length=(["value"]:List Str).length):bindArgs (PySem.W.fnOf "is_whole" "is_whole" (aJ d_) (aH d_) (ak d_) .none kV doc pm an cdv ct) ⟨us,[]⟩=pure ((["value"]:List Str).zip us):=by obtain ⟨_,_,rfl,h1⟩:=bB hl;cases len0 h1;rfl
theorem Bl (kV doc pm:Value) (an:Option Addr) (cdv ct:Value) (us:List Value) (hl:us.length=(["value","count"]:List Str).length):bindArgs (PySem.W.fnOf "is_below" "is_below" (aJ eF) (aH eF) (ak eF) .none kV doc pm an cdv ct) ⟨us,[]⟩=pure ((["value","count"]:List Str).zip us):=by obtain ⟨_,_,rfl,h1⟩:=bB hl;obtain ⟨_,_,rfl,h2⟩:=bB h1;cases len0 h2;rfl
theorem DN (kV doc pm:Value) (an:Option Addr) (cdv ct:Value) (us:List Value) (hl:us.length=(["value"]:List Str).length):bindArgs (PySem.W.fnOf "is_note" "is_note" (aJ fJ) (aH fJ) (ak fJ) .none kV doc pm an cdv ct) ⟨us,[]⟩=pure ((["value"]:List Str).zip us):=by obtain ⟨_,_,rfl,h1⟩:=bB hl;cases len0 h1;rfl
theorem vU (kV doc pm:Value) (an:Option Addr) (cdv ct:Value) (us:List Value) (hl:us.length=(["counts","note"]:List Str).length):bindArgs (PySem.W.fnOf "is_between" "is_between" (aJ cO) (aH cO) (ak cO) .none kV doc pm an cdv ct) ⟨us,[]⟩=pure ((["counts","note"]:List Str).zip us):=by obtain ⟨_,_,rfl,h1⟩:=bB hl;obtain ⟨_,_,rfl,h2⟩:=bB h1;cases len0 h2;rfl
theorem uU (kV doc pm:Value) (an:Option Addr) (cdv ct:Value) (us:List Value) (hl:us.length=(["record"]:List Str).length):bindArgs (PySem.W.fnOf "check_notes" "check_notes" (aJ cB) (aH cB) (ak cB) .none kV doc pm an cdv ct) ⟨us,[]⟩=pure ((["record"]:List Str).zip us):=by obtain ⟨_,_,rfl,h1⟩:=bB hl;cases len0 h1;rfl
theorem vW (kV doc pm:Value) (an:Option Addr) (cdv ct:Value) (us:List Value) (hl:us.length=(["record","done"]:List Str).length):bindArgs (PySem.W.fnOf "check_done" "check_done" (aJ cQ) (aH cQ) (ak cQ) .none kV doc pm an cdv ct) ⟨us,[]⟩=pure ((["record","done"]:List Str).zip us):=by obtain ⟨_,_,rfl,h1⟩:=bB hl;obtain ⟨_,_,rfl,h2⟩:=bB h1;cases len0 h2;rfl
theorem uT (kV doc pm:Value) (an:Option Addr) (cdv ct:Value) (us:List Value) (hl:us.length=(["record","order"]:List Str).length):bindArgs (PySem.W.fnOf "check_order" "check_order" (aJ cA) (aH cA) (ak cA) .none kV doc pm an cdv ct) ⟨us,[]⟩=pure ((["record","order"]:List Str).zip us):=by obtain ⟨_,_,rfl,h1⟩:=bB hl;obtain ⟨_,_,rfl,h2⟩:=bB h1;cases len0 h2;rfl
theorem Uv (kV doc pm:Value) (an:Option Addr) (cdv ct:Value) (us:List Value) (hl:us.length=(["done","touch"]:List Str).length):bindArgs (PySem.W.fnOf "has" "has" (aJ oX) (aH oX) (ak oX) .none kV doc pm an cdv ct) ⟨us,[]⟩=pure ((["done","touch"]:List Str).zip us):=by obtain ⟨_,_,rfl,h1⟩:=bB hl;obtain ⟨_,_,rfl,h2⟩:=bB h1;cases len0 h2;rfl
theorem rM (kV doc pm:Value) (an:Option Addr) (cdv ct:Value) (us:List Value) (hl:us.length=(["record","done"]:List Str).length):bindArgs (PySem.W.fnOf "broken_notes" "broken_notes" (aJ bV) (aH bV) (ak bV) .none kV doc pm an cdv ct) ⟨us,[]⟩=pure ((["record","done"]:List Str).zip us):=by obtain ⟨_,_,rfl,h1⟩:=bB hl;obtain ⟨_,_,rfl,h2⟩:=bB h1;cases len0 h2;rfl
theorem Iv (kV doc pm:Value) (an:Option Addr) (cdv ct:Value) (us:List Value) (hl:us.length=(["record","cut"]:List Str).length):bindArgs (PySem.W.fnOf "is_cut" "is_cut" (aJ gH) (aH gH) (ak gH) .none kV doc pm an cdv ct) ⟨us,[]⟩=pure ((["record","cut"]:List Str).zip us):=by obtain ⟨_,_,rfl,h1⟩:=bB hl;obtain ⟨_,_,rfl,h2⟩:=bB h1;cases len0 h2;rfl
theorem yR (kV doc pm:Value) (an:Option Addr) (cdv ct:Value) (us:List Value) (hl:us.length=(["record","some"]:List Str).length):bindArgs (PySem.W.fnOf "least_cut" "least_cut" (aJ dD) (aH dD) (ak dD) .none kV doc pm an cdv ct) ⟨us,[]⟩=pure ((["record","some"]:List Str).zip us):=by obtain ⟨_,_,rfl,h1⟩:=bB hl;obtain ⟨_,_,rfl,h2⟩:=bB h1;cases len0 h2;rfl
theorem rK (kV doc pm:Value) (an:Option Addr) (cdv ct:Value) (us:List Value) (hl:us.length=(["record","some"]:List Str).length):bindArgs (PySem.W.fnOf "greatest_cut" "greatest_cut" (aJ bU) (aH bU) (ak bU) .none kV doc pm an cdv ct) ⟨us,[]⟩=pure ((["record","some"]:List Str).zip us):=by obtain ⟨_,_,rfl,h1⟩:=bB hl;obtain ⟨_,_,rfl,h2⟩:=bB h1;cases len0 h2;rfl
theorem yS (kV doc pm:Value) (an:Option Addr) (cdv ct:Value) (us:List Value) (hl:us.length=(["record"]:List Str).length):bindArgs (PySem.W.fnOf "firsts_of" "firsts_of" (aJ dF) (aH dF) (ak dF) .none kV doc pm an cdv ct) ⟨us,[]⟩=pure ((["record"]:List Str).zip us):=by obtain ⟨_,_,rfl,h1⟩:=bB hl;cases len0 h1;rfl
theorem DP (kV doc pm:Value) (an:Option Addr) (cdv ct:Value) (us:List Value) (hl:us.length=(["counts","firsts","done","hand"]:List Str).length):bindArgs (PySem.W.fnOf "is_free" "is_free" (aJ fK) (aH fK) (ak fK) .none kV doc pm an cdv ct) ⟨us,[]⟩=pure ((["counts","firsts","done","hand"]:List Str).zip us):=by obtain ⟨_,_,rfl,h1⟩:=bB hl;obtain ⟨_,_,rfl,h2⟩:=bB h1;obtain ⟨_,_,rfl,h3⟩:=bB h2;obtain ⟨_,_,rfl,h4⟩:=bB h3;cases len0 h4;rfl
theorem vV (kV doc pm:Value) (an:Option Addr) (cdv ct:Value) (us:List Value) (hl:us.length=(["counts","firsts","done"]:List Str).length):bindArgs (PySem.W.fnOf "free_hands" "free_hands" (aJ cP) (aH cP) (ak cP) .none kV doc pm an cdv ct) ⟨us,[]⟩=pure ((["counts","firsts","done"]:List Str).zip us):=by obtain ⟨_,_,rfl,h1⟩:=bB hl;obtain ⟨_,_,rfl,h2⟩:=bB h1;obtain ⟨_,_,rfl,h3⟩:=bB h2;cases len0 h3;rfl
theorem Mx (kV doc pm:Value) (an:Option Addr) (cdv ct:Value) (us:List Value) (hl:us.length=(["record","order"]:List Str).length):bindArgs (PySem.W.fnOf "keeps" "keeps" (aJ jf) (aH jf) (ak jf) .none kV doc pm an cdv ct) ⟨us,[]⟩=pure ((["record","order"]:List Str).zip us):=by obtain ⟨_,_,rfl,h1⟩:=bB hl;obtain ⟨_,_,rfl,h2⟩:=bB h1;cases len0 h2;rfl
theorem uR (kV doc pm:Value) (an:Option Addr) (cdv ct:Value) (us:List Value) (hl:us.length=(["record"]:List Str).length):bindArgs (PySem.W.fnOf "first_order" "first_order" (aJ cu) (aH cu) (ak cu) .none kV doc pm an cdv ct) ⟨us,[]⟩=pure ((["record"]:List Str).zip us):=by obtain ⟨_,_,rfl,h1⟩:=bB hl;cases len0 h1;rfl
theorem qL (kV doc pm:Value) (an:Option Addr) (cdv ct:Value) (us:List Value) (hl:us.length=(["record","chains"]:List Str).length):bindArgs (PySem.W.fnOf "longer_chains" "longer_chains" (aJ bN) (aH bN) (ak bN) .none kV doc pm an cdv ct) ⟨us,[]⟩=pure ((["record","chains"]:List Str).zip us):=by obtain ⟨_,_,rfl,h1⟩:=bB hl;obtain ⟨_,_,rfl,h2⟩:=bB h1;cases len0 h2;rfl
theorem yP (kV doc pm:Value) (an:Option Addr) (cdv ct:Value) (us:List Value) (hl:us.length=(["record","start"]:List Str).length):bindArgs (PySem.W.fnOf "ring_from" "ring_from" (aJ dz) (aH dz) (ak dz) .none kV doc pm an cdv ct) ⟨us,[]⟩=pure ((["record","start"]:List Str).zip us):=by obtain ⟨_,_,rfl,h1⟩:=bB hl;obtain ⟨_,_,rfl,h2⟩:=bB h1;cases len0 h2;rfl
theorem Ql (kV doc pm:Value) (an:Option Addr) (cdv ct:Value) (us:List Value) (hl:us.length=(["record"]:List Str).length):bindArgs (PySem.W.fnOf "ring" "ring" (aJ kY) (aH kY) (ak kY) .none kV doc pm an cdv ct) ⟨us,[]⟩=pure ((["record"]:List Str).zip us):=by obtain ⟨_,_,rfl,h1⟩:=bB hl;cases len0 h1;rfl
theorem Bh (kV doc pm:Value) (an:Option Addr) (cdv ct:Value) (us:List Value) (hl:us.length=(["note","following"]:List Str).length):bindArgs (PySem.W.fnOf "leads_to" "leads_to" (aJ d9) (aH d9) (ak d9) .none kV doc pm an cdv ct) ⟨us,[]⟩=pure ((["note","following"]:List Str).zip us):=by obtain ⟨_,_,rfl,h1⟩:=bB hl;obtain ⟨_,_,rfl,h2⟩:=bB h1;cases len0 h2;rfl
theorem vR (kV doc pm:Value) (an:Option Addr) (cdv ct:Value) (us:List Value) (hl:us.length=(["record","some"]:List Str).length):bindArgs (PySem.W.fnOf "ring_shows" "ring_shows" (aJ cN) (aH cN) (ak cN) .none kV doc pm an cdv ct) ⟨us,[]⟩=pure ((["record","some"]:List Str).zip us):=by obtain ⟨_,_,rfl,h1⟩:=bB hl;obtain ⟨_,_,rfl,h2⟩:=bB h1;cases len0 h2;rfl
theorem yQ (kV doc pm:Value) (an:Option Addr) (cdv ct:Value) (us:List Value) (hl:us.length=(["hands","web"]:List Str).length):bindArgs (PySem.W.fnOf "record_of" "record_of" (aJ dB) (aH dB) (ak dB) .none kV doc pm an cdv ct) ⟨us,[]⟩=pure ((["hands","web"]:List Str).zip us):=by obtain ⟨_,_,rfl,h1⟩:=bB hl;obtain ⟨_,_,rfl,h2⟩:=bB h1;cases len0 h2;rfl
theorem Iz (kV doc pm:Value) (an:Option Addr) (cdv ct:Value) (us:List Value) (hl:us.length=(["order"]:List Str).length):bindArgs (PySem.W.fnOf "_law_spots" "_law_spots" (aJ gK) (aH gK) (ak gK) .none kV doc pm an cdv ct) ⟨us,[]⟩=pure ((["order"]:List Str).zip us):=by obtain ⟨_,_,rfl,h1⟩:=bB hl;cases len0 h1;rfl
theorem IK (kV doc pm:Value) (an:Option Addr) (cdv ct:Value) (us:List Value) (hl:us.length=(["ties","order"]:List Str).length):bindArgs (PySem.W.fnOf "_law_keeps" "_law_keeps" (aJ gM) (aH gM) (ak gM) .none kV doc pm an cdv ct) ⟨us,[]⟩=pure ((["ties","order"]:List Str).zip us):=by obtain ⟨_,_,rfl,h1⟩:=bB hl;obtain ⟨_,_,rfl,h2⟩:=bB h1;cases len0 h2;rfl
theorem DR (kV doc pm:Value) (an:Option Addr) (cdv ct:Value) (us:List Value) (hl:us.length=(["ties","some"]:List Str).length):bindArgs (PySem.W.fnOf "_law_closed" "_law_closed" (aJ fM) (aH fM) (ak fM) .none kV doc pm an cdv ct) ⟨us,[]⟩=pure ((["ties","some"]:List Str).zip us):=by obtain ⟨_,_,rfl,h1⟩:=bB hl;obtain ⟨_,_,rfl,h2⟩:=bB h1;cases len0 h2;rfl
theorem uV (kV doc pm:Value) (an:Option Addr) (cdv ct:Value) (us:List Value) (hl:us.length=(["ties","found"]:List Str).length):bindArgs (PySem.W.fnOf "_law_goes_round" "_law_goes_round" (aJ cC) (aH cC) (ak cC) .none kV doc pm an cdv ct) ⟨us,[]⟩=pure ((["ties","found"]:List Str).zip us):=by obtain ⟨_,_,rfl,h1⟩:=bB hl;obtain ⟨_,_,rfl,h2⟩:=bB h1;cases len0 h2;rfl
theorem pQ (kV doc pm:Value) (an:Option Addr) (cdv ct:Value) (us:List Value) (hl:us.length=(["record","size"]:List Str).length):bindArgs (PySem.W.fnOf "_law_order_or_ring" "_law_order_or_ring" (aJ bJ) (aH bJ) (ak bJ) .none kV doc pm an cdv ct) ⟨us,[]⟩=pure ((["record","size"]:List Str).zip us):=by obtain ⟨_,_,rfl,h1⟩:=bB hl;obtain ⟨_,_,rfl,h2⟩:=bB h1;cases len0 h2;rfl
theorem MJ (kV doc pm:Value) (an:Option Addr) (cdv ct:Value) (us:List Value) (hl:us.length=(["record","order","tie"]:List Str).length):bindArgs (PySem.W.fnOf "_law_bent" "_law_bent" (aJ ji) (aH ji) (ak ji) .none kV doc pm an cdv ct) ⟨us,[]⟩=pure ((["record","order","tie"]:List Str).zip us):=by obtain ⟨_,_,rfl,h1⟩:=bB hl;obtain ⟨_,_,rfl,h2⟩:=bB h1;obtain ⟨_,_,rfl,h3⟩:=bB h2;cases len0 h3;rfl
theorem DQ (kV doc pm:Value) (an:Option Addr) (cdv ct:Value) (us:List Value) (hl:us.length=(["bag","record","order","tie"]:List Str).length):bindArgs (PySem.W.fnOf "_law_turned" "_law_turned" (aJ fL) (aH fL) (ak fL) .none kV doc pm an cdv ct) ⟨us,[]⟩=pure ((["bag","record","order","tie"]:List Str).zip us):=by obtain ⟨_,_,rfl,h1⟩:=bB hl;obtain ⟨_,_,rfl,h2⟩:=bB h1;obtain ⟨_,_,rfl,h3⟩:=bB h2;obtain ⟨_,_,rfl,h4⟩:=bB h3;cases len0 h4;rfl
theorem all_mk {l:PySem.W.OpenLaw} {w:World} {K:PySem.W.Frag} {h:Heap} {mg:Str->Option Value} {fa f0 f1 f2 f3 f4 f5 f6 f7 f8 f9 Z5 f11 Z4 Z2 Z1 Z0 ZX ZW ZV ZS ZR ZQ ZP ZM ZL ZK ZJ ZG ZF ZD ZC Zz f32 Zy Zx Zw Zv Zu Zt Zr Zq Zo Zn f43:Addr} (X:K.In h) (G:h.Ns mainGlobals mg) (hfa:mg "law" = some (.ref fa))
 {od0 an0 od1 an1 od2 an2 od3 an3 od4 an4 od5 an5 od6 an6 od7 an7 od8 an8 od9 an9 acn ag1 acj ag0 aci agZ ach agY acg agX acf agW ace agV acd agU ab' agT ab_ agS ab9 agR ab8 agQ ab7 agP ab6 agO ab5 agN ab4 agM ab3 agL ab2 agK ab1 agJ ab0 agI abZ agH abY agG abX agF abW agE abV agD abU agC abT agB abS agA abR agz abQ agy abP agx abO agw abN agv abM XR:Option Addr} {sl0 sl1 sl2 sl3 sl4 sl5 sl6 sl7 sl8 sl9 aa1 aa0 aaZ aaY aaX aaW aaV aaU aaT aaS aaR aaQ aaP aaO aaN aaM aaL aaK aaJ aaI aaH aaG aaF aaE aaD aaC aaB aaA aaz aay aax aaw aav aau:Array (Option Value)} {oc0 kV0 dc0 pm0 cd0 ct0 oc1 kV1 dc1 pm1 cd1 ct1 oc2 kV2 dc2 pm2 cd2 ct2 oc3 kV3 dc3 pm3 cd3 ct3 oc4 kV4 dc4 pm4 cd4 ct4 oc5 kV5 dc5 pm5 cd5 ct5 oc6 kV6 dc6 pm6 cd6 ct6 oc7 kV7 dc7 pm7 cd7 ct7 oc8 kV8 dc8 pm8 cd8 ct8 oc9 kV9 dc9 pm9 cd9 ct9 acX aei afq abI XJ afX acW aeh afp abH XH afW acV aeg afo abG XF afV acU aef afn abF XD afU acT aee afm abE XC afT acS aed afl abD Xz afS acR aec afk abC Xy afR acQ aeb afj abB Xx afQ acP aea afi abA Xw afP acO ad' afh abz Xv afO acN ad_ afg abx Xu afN acM ad9 afe abw Xr afM acL ad8 afd abv Xq afL acK ad7 afc abu Xp afK acJ ad6 afb abt Xo afJ acI ad5 afa abr Xn afI acH ad4 ae' abq Xm afH acG ad3 ae_ abp Xl afG acF ad2 ae9 abo Xk afF acE ad1 ae8 abn Xj afE acD ad0 ae7 abm Xi afD acC adZ ae6 abl Xh afC acB adY ae5 abk Xg afB acA adX ae4 abj Xf afA acz adW ae3 abh Xe afz acy adV ae2 abg Xd afy acw adU ae1 abf Xc afx acv adT ae0 abe Xb afw acu adS aeZ abd Xa afv acs adR aeY abb W_ afu acr adQ aeX aa' W9 aft acq adP aeW aa_ W8 afs acp adO aeV aa9 W7 afr aco Wb W2 VN Us W6:Value}
 (a0:PySem.W.nsIn K mainGlobals "_law_bag" = some (some (.ref f0))) (l0:K.lookup f0=some ⟨oc0,od0,.func (PySem.W.fnOf "_law_bag" "_law_bag" (aJ k_) (aH k_) (ak k_) .none kV0 dc0 pm0 an0 cd0 ct0),sl0⟩) (c0:PySem.W.codeIn K cd0 "_law_bag" = true) (k0:PySem.W.keepIn K (.ref f0)=true)
 (a1:PySem.W.nsIn K mainGlobals "_law_stir" = some (some (.ref f1))) (l1:K.lookup f1=some ⟨oc1,od1,.func (PySem.W.fnOf "_law_stir" "_law_stir" (aJ jg) (aH jg) (ak jg) .none kV1 dc1 pm1 an1 cd1 ct1),sl1⟩) (c1:PySem.W.codeIn K cd1 "_law_stir" = true) (k1:PySem.W.keepIn K (.ref f1)=true)
 (a2:PySem.W.nsIn K mainGlobals "_law_draw" = some (some (.ref f2))) (l2:K.lookup f2=some ⟨oc2,od2,.func (PySem.W.fnOf "_law_draw" "_law_draw" (aJ jh) (aH jh) (ak jh) .none kV2 dc2 pm2 an2 cd2 ct2),sl2⟩) (c2:PySem.W.codeIn K cd2 "_law_draw" = true) (k2:PySem.W.keepIn K (.ref f2)=true)
 (a3:PySem.W.nsIn K mainGlobals "_law_touch" = some (some (.ref f3))) (l3:K.lookup f3=some ⟨oc3,od3,.func (PySem.W.fnOf "_law_touch" "_law_touch" (aJ gJ) (aH gJ) (ak gJ) .none kV3 dc3 pm3 an3 cd3 ct3),sl3⟩) (c3:PySem.W.codeIn K cd3 "_law_touch" = true) (k3:PySem.W.keepIn K (.ref f3)=true)
 (a4:PySem.W.nsIn K mainGlobals "_law_web" = some (some (.ref f4))) (l4:K.lookup f4=some ⟨oc4,od4,.func (PySem.W.fnOf "_law_web" "_law_web" (aJ kZ) (aH kZ) (ak kZ) .none kV4 dc4 pm4 an4 cd4 ct4),sl4⟩) (c4:PySem.W.codeIn K cd4 "_law_web" = true) (k4:PySem.W.keepIn K (.ref f4)=true)
 (a5:PySem.W.nsIn K mainGlobals "touches_meet" = some (some (.ref f5))) (l5:K.lookup f5=some ⟨oc5,od5,.func (PySem.W.fnOf "touches_meet" "touches_meet" (aJ bR) (aH bR) (ak bR) .none kV5 dc5 pm5 an5 cd5 ct5),sl5⟩) (c5:PySem.W.codeIn K cd5 "touches_meet" = true) (k5:PySem.W.keepIn K (.ref f5)=true)
 (a6:PySem.W.nsIn K mainGlobals "is_step" = some (some (.ref f6))) (l6:K.lookup f6=some ⟨oc6,od6,.func (PySem.W.fnOf "is_step" "is_step" (aJ fH) (aH fH) (ak fH) .none kV6 dc6 pm6 an6 cd6 ct6),sl6⟩) (c6:PySem.W.codeIn K cd6 "is_step" = true) (k6:PySem.W.keepIn K (.ref f6)=true)
 (a7:PySem.W.nsIn K mainGlobals "is_known" = some (some (.ref f7))) (l7:K.lookup f7=some ⟨oc7,od7,.func (PySem.W.fnOf "is_known" "is_known" (aJ eE) (aH eE) (ak eE) .none kV7 dc7 pm7 an7 cd7 ct7),sl7⟩) (c7:PySem.W.codeIn K cd7 "is_known" = true) (k7:PySem.W.keepIn K (.ref f7)=true)
 (a8:PySem.W.nsIn K mainGlobals "learn" = some (some (.ref f8))) (l8:K.lookup f8=some ⟨oc8,od8,.func (PySem.W.fnOf "learn" "learn" (aJ je) (aH je) (ak je) .none kV8 dc8 pm8 an8 cd8 ct8),sl8⟩) (c8:PySem.W.codeIn K cd8 "learn" = true) (k8:PySem.W.keepIn K (.ref f8)=true)
 (a9:PySem.W.nsIn K mainGlobals "bare_steps" = some (some (.ref f9))) (l9:K.lookup f9=some ⟨oc9,od9,.func (PySem.W.fnOf "bare_steps" "bare_steps" (aJ cR) (aH cR) (ak cR) .none kV9 dc9 pm9 an9 cd9 ct9),sl9⟩) (c9:PySem.W.codeIn K cd9 "bare_steps" = true) (k9:PySem.W.keepIn K (.ref f9)=true)
 (a10:PySem.W.nsIn K mainGlobals "notes_to" = some (some (.ref Z5))) (l10:K.lookup Z5=some ⟨acX,acn,.func (PySem.W.fnOf "notes_to" "notes_to" (aJ d8) (aH d8) (ak d8) .none aei afq abI ag1 XJ afX),aa1⟩) (c10:PySem.W.codeIn K XJ "notes_to" = true) (k10:PySem.W.keepIn K (.ref Z5)=true)
 (a11:PySem.W.nsIn K mainGlobals "names" = some (some (.ref f11))) (l11:K.lookup f11=some ⟨acW,acj,.func (PySem.W.fnOf "names" "names" (aJ jd) (aH jd) (ak jd) .none aeh afp abH ag0 XH afW),aa0⟩) (c11:PySem.W.codeIn K XH "names" = true) (k11:PySem.W.keepIn K (.ref f11)=true)
 (a12:PySem.W.nsIn K mainGlobals "notes" = some (some (.ref Z4))) (l12:K.lookup Z4=some ⟨acV,aci,.func (PySem.W.fnOf "notes" "notes" (aJ jc) (aH jc) (ak jc) .none aeg afo abG agZ XF afV),aaZ⟩) (c12:PySem.W.codeIn K XF "notes" = true) (k12:PySem.W.keepIn K (.ref Z4)=true)
 (a13:PySem.W.nsIn K mainGlobals "is_whole" = some (some (.ref Z2))) (l13:K.lookup Z2=some ⟨acU,ach,.func (PySem.W.fnOf "is_whole" "is_whole" (aJ d_) (aH d_) (ak d_) .none aef afn abF agY XD afU),aaY⟩) (c13:PySem.W.codeIn K XD "is_whole" = true) (k13:PySem.W.keepIn K (.ref Z2)=true)
 (a14:PySem.W.nsIn K mainGlobals "is_below" = some (some (.ref Z1))) (l14:K.lookup Z1=some ⟨acT,acg,.func (PySem.W.fnOf "is_below" "is_below" (aJ eF) (aH eF) (ak eF) .none aee afm abE agX XC afT),aaX⟩) (c14:PySem.W.codeIn K XC "is_below" = true) (k14:PySem.W.keepIn K (.ref Z1)=true)
 (a15:PySem.W.nsIn K mainGlobals "is_note" = some (some (.ref Z0))) (l15:K.lookup Z0=some ⟨acS,acf,.func (PySem.W.fnOf "is_note" "is_note" (aJ fJ) (aH fJ) (ak fJ) .none aed afl abD agW Xz afS),aaW⟩) (c15:PySem.W.codeIn K Xz "is_note" = true) (Q_:PySem.W.keepIn K (.ref Z0)=true)
 (a16:PySem.W.nsIn K mainGlobals "is_between" = some (some (.ref ZX))) (l16:K.lookup ZX=some ⟨acR,ace,.func (PySem.W.fnOf "is_between" "is_between" (aJ cO) (aH cO) (ak cO) .none aec afk abC agV Xy afR),aaV⟩) (c16:PySem.W.codeIn K Xy "is_between" = true) (Ze:PySem.W.keepIn K (.ref ZX)=true)
 (a17:PySem.W.nsIn K mainGlobals "check_notes" = some (some (.ref ZW))) (l17:K.lookup ZW=some ⟨acQ,acd,.func (PySem.W.fnOf "check_notes" "check_notes" (aJ cB) (aH cB) (ak cB) .none aeb afj abB agU Xx afQ),aaU⟩) (c17:PySem.W.codeIn K Xx "check_notes" = true) (Zd:PySem.W.keepIn K (.ref ZW)=true)
 (a18:PySem.W.nsIn K mainGlobals "check_done" = some (some (.ref ZV))) (l18:K.lookup ZV=some ⟨acP,ab',.func (PySem.W.fnOf "check_done" "check_done" (aJ cQ) (aH cQ) (ak cQ) .none aea afi abA agT Xw afP),aaT⟩) (c18:PySem.W.codeIn K Xw "check_done" = true) (Zc:PySem.W.keepIn K (.ref ZV)=true)
 (a19:PySem.W.nsIn K mainGlobals "check_order" = some (some (.ref ZS))) (l19:K.lookup ZS=some ⟨acO,ab_,.func (PySem.W.fnOf "check_order" "check_order" (aJ cA) (aH cA) (ak cA) .none ad' afh abz agS Xv afO),aaS⟩) (c19:PySem.W.codeIn K Xv "check_order" = true) (Zb:PySem.W.keepIn K (.ref ZS)=true)
 (a20:PySem.W.nsIn K mainGlobals "has" = some (some (.ref ZR))) (l20:K.lookup ZR=some ⟨acN,ab9,.func (PySem.W.fnOf "has" "has" (aJ oX) (aH oX) (ak oX) .none ad_ afg abx agR Xu afN),aaR⟩) (c20:PySem.W.codeIn K Xu "has" = true) (Za:PySem.W.keepIn K (.ref ZR)=true)
 (a21:PySem.W.nsIn K mainGlobals "broken_notes" = some (some (.ref ZQ))) (l21:K.lookup ZQ=some ⟨acM,ab8,.func (PySem.W.fnOf "broken_notes" "broken_notes" (aJ bV) (aH bV) (ak bV) .none ad9 afe abw agQ Xr afM),aaQ⟩) (c21:PySem.W.codeIn K Xr "broken_notes" = true) (Y_:PySem.W.keepIn K (.ref ZQ)=true)
 (a22:PySem.W.nsIn K mainGlobals "is_cut" = some (some (.ref ZP))) (l22:K.lookup ZP=some ⟨acL,ab7,.func (PySem.W.fnOf "is_cut" "is_cut" (aJ gH) (aH gH) (ak gH) .none ad8 afd abv agP Xq afL),aaP⟩) (c22:PySem.W.codeIn K Xq "is_cut" = true) (Y9:PySem.W.keepIn K (.ref ZP)=true)
 (a23:PySem.W.nsIn K mainGlobals "least_cut" = some (some (.ref ZM))) (l23:K.lookup ZM=some ⟨acK,ab6,.func (PySem.W.fnOf "least_cut" "least_cut" (aJ dD) (aH dD) (ak dD) .none ad7 afc abu agO Xp afK),aaO⟩) (c23:PySem.W.codeIn K Xp "least_cut" = true) (Y8:PySem.W.keepIn K (.ref ZM)=true)
 (a24:PySem.W.nsIn K mainGlobals "greatest_cut" = some (some (.ref ZL))) (l24:K.lookup ZL=some ⟨acJ,ab5,.func (PySem.W.fnOf "greatest_cut" "greatest_cut" (aJ bU) (aH bU) (ak bU) .none ad6 afb abt agN Xo afJ),aaN⟩) (c24:PySem.W.codeIn K Xo "greatest_cut" = true) (Y7:PySem.W.keepIn K (.ref ZL)=true)
 (a25:PySem.W.nsIn K mainGlobals "firsts_of" = some (some (.ref ZK))) (l25:K.lookup ZK=some ⟨acI,ab4,.func (PySem.W.fnOf "firsts_of" "firsts_of" (aJ dF) (aH dF) (ak dF) .none ad5 afa abr agM Xn afI),aaM⟩) (c25:PySem.W.codeIn K Xn "firsts_of" = true) (Y6:PySem.W.keepIn K (.ref ZK)=true)
 (a26:PySem.W.nsIn K mainGlobals "is_free" = some (some (.ref ZJ))) (l26:K.lookup ZJ=some ⟨acH,ab3,.func (PySem.W.fnOf "is_free" "is_free" (aJ fK) (aH fK) (ak fK) .none ad4 ae' abq agL Xm afH),aaL⟩) (c26:PySem.W.codeIn K Xm "is_free" = true) (Y5:PySem.W.keepIn K (.ref ZJ)=true)
 (a27:PySem.W.nsIn K mainGlobals "free_hands" = some (some (.ref ZG))) (l27:K.lookup ZG=some ⟨acG,ab2,.func (PySem.W.fnOf "free_hands" "free_hands" (aJ cP) (aH cP) (ak cP) .none ad3 ae_ abp agK Xl afG),aaK⟩) (c27:PySem.W.codeIn K Xl "free_hands" = true) (Y4:PySem.W.keepIn K (.ref ZG)=true)
 (a28:PySem.W.nsIn K mainGlobals "keeps" = some (some (.ref ZF))) (l28:K.lookup ZF=some ⟨acF,ab1,.func (PySem.W.fnOf "keeps" "keeps" (aJ jf) (aH jf) (ak jf) .none ad2 ae9 abo agJ Xk afF),aaJ⟩) (c28:PySem.W.codeIn K Xk "keeps" = true) (Y0:PySem.W.keepIn K (.ref ZF)=true)
 (a29:PySem.W.nsIn K mainGlobals "first_order" = some (some (.ref ZD))) (l29:K.lookup ZD=some ⟨acE,ab0,.func (PySem.W.fnOf "first_order" "first_order" (aJ cu) (aH cu) (ak cu) .none ad1 ae8 abn agI Xj afE),aaI⟩) (c29:PySem.W.codeIn K Xj "first_order" = true) (YZ:PySem.W.keepIn K (.ref ZD)=true)
 (a30:PySem.W.nsIn K mainGlobals "longer_chains" = some (some (.ref ZC))) (l30:K.lookup ZC=some ⟨acD,abZ,.func (PySem.W.fnOf "longer_chains" "longer_chains" (aJ bN) (aH bN) (ak bN) .none ad0 ae7 abm agH Xi afD),aaH⟩) (c30:PySem.W.codeIn K Xi "longer_chains" = true) (YX:PySem.W.keepIn K (.ref ZC)=true)
 (a31:PySem.W.nsIn K mainGlobals "ring_from" = some (some (.ref Zz))) (l31:K.lookup Zz=some ⟨acC,abY,.func (PySem.W.fnOf "ring_from" "ring_from" (aJ dz) (aH dz) (ak dz) .none adZ ae6 abl agG Xh afC),aaG⟩) (c31:PySem.W.codeIn K Xh "ring_from" = true) (YW:PySem.W.keepIn K (.ref Zz)=true)
 (a32:PySem.W.nsIn K mainGlobals "ring" = some (some (.ref f32))) (l32:K.lookup f32=some ⟨acB,abX,.func (PySem.W.fnOf "ring" "ring" (aJ kY) (aH kY) (ak kY) .none adY ae5 abk agF Xg afB),aaF⟩) (c32:PySem.W.codeIn K Xg "ring" = true) (YT:PySem.W.keepIn K (.ref f32)=true)
 (a33:PySem.W.nsIn K mainGlobals "leads_to" = some (some (.ref Zy))) (l33:K.lookup Zy=some ⟨acA,abW,.func (PySem.W.fnOf "leads_to" "leads_to" (aJ d9) (aH d9) (ak d9) .none adX ae4 abj agE Xf afA),aaE⟩) (c33:PySem.W.codeIn K Xf "leads_to" = true) (YS:PySem.W.keepIn K (.ref Zy)=true)
 (a34:PySem.W.nsIn K mainGlobals "ring_shows" = some (some (.ref Zx))) (l34:K.lookup Zx=some ⟨acz,abV,.func (PySem.W.fnOf "ring_shows" "ring_shows" (aJ cN) (aH cN) (ak cN) .none adW ae3 abh agD Xe afz),aaD⟩) (c34:PySem.W.codeIn K Xe "ring_shows" = true) (YQ:PySem.W.keepIn K (.ref Zx)=true)
 (a35:PySem.W.nsIn K mainGlobals "record_of" = some (some (.ref Zw))) (l35:K.lookup Zw=some ⟨acy,abU,.func (PySem.W.fnOf "record_of" "record_of" (aJ dB) (aH dB) (ak dB) .none adV ae2 abg agC Xd afy),aaC⟩) (c35:PySem.W.codeIn K Xd "record_of" = true) (YM:PySem.W.keepIn K (.ref Zw)=true)
 (a36:PySem.W.nsIn K mainGlobals "_law_spots" = some (some (.ref Zv))) (l36:K.lookup Zv=some ⟨acw,abT,.func (PySem.W.fnOf "_law_spots" "_law_spots" (aJ gK) (aH gK) (ak gK) .none adU ae1 abf agB Xc afx),aaB⟩) (c36:PySem.W.codeIn K Xc "_law_spots" = true) (YL:PySem.W.keepIn K (.ref Zv)=true)
 (a37:PySem.W.nsIn K mainGlobals "_law_keeps" = some (some (.ref Zu))) (l37:K.lookup Zu=some ⟨acv,abS,.func (PySem.W.fnOf "_law_keeps" "_law_keeps" (aJ gM) (aH gM) (ak gM) .none adT ae0 abe agA Xb afw),aaA⟩) (c37:PySem.W.codeIn K Xb "_law_keeps" = true) (YK:PySem.W.keepIn K (.ref Zu)=true)
 (a38:PySem.W.nsIn K mainGlobals "_law_closed" = some (some (.ref Zt))) (l38:K.lookup Zt=some ⟨acu,abR,.func (PySem.W.fnOf "_law_closed" "_law_closed" (aJ fM) (aH fM) (ak fM) .none adS aeZ abd agz Xa afv),aaz⟩) (c38:PySem.W.codeIn K Xa "_law_closed" = true) (YJ:PySem.W.keepIn K (.ref Zt)=true)
 (a39:PySem.W.nsIn K mainGlobals "_law_goes_round" = some (some (.ref Zr))) (l39:K.lookup Zr=some ⟨acs,abQ,.func (PySem.W.fnOf "_law_goes_round" "_law_goes_round" (aJ cC) (aH cC) (ak cC) .none adR aeY abb agy W_ afu),aay⟩) (c39:PySem.W.codeIn K W_ "_law_goes_round" = true) (YH:PySem.W.keepIn K (.ref Zr)=true)
 (a40:PySem.W.nsIn K mainGlobals "_law_order_or_ring" = some (some (.ref Zq))) (l40:K.lookup Zq=some ⟨acr,abP,.func (PySem.W.fnOf "_law_order_or_ring" "_law_order_or_ring" (aJ bJ) (aH bJ) (ak bJ) .none adQ aeX aa' agx W9 aft),aax⟩) (c40:PySem.W.codeIn K W9 "_law_order_or_ring" = true) (YG:PySem.W.keepIn K (.ref Zq)=true)
 (a41:PySem.W.nsIn K mainGlobals "_law_bent" = some (some (.ref Zo))) (l41:K.lookup Zo=some ⟨acq,abO,.func (PySem.W.fnOf "_law_bent" "_law_bent" (aJ ji) (aH ji) (ak ji) .none adP aeW aa_ agw W8 afs),aaw⟩) (c41:PySem.W.codeIn K W8 "_law_bent" = true) (YF:PySem.W.keepIn K (.ref Zo)=true)
 (a42:PySem.W.nsIn K mainGlobals "_law_turned" = some (some (.ref Zn))) (l42:K.lookup Zn=some ⟨acp,abN,.func (PySem.W.fnOf "_law_turned" "_law_turned" (aJ fL) (aH fL) (ak fL) .none adO aeV aa9 agv W7 afr),aav⟩) (c42:PySem.W.codeIn K W7 "_law_turned" = true) (YD:PySem.W.keepIn K (.ref Zn)=true)
 (a43:PySem.W.nsIn K mainGlobals "law" = some (some (.ref f43))) (l43:K.lookup f43=some ⟨aco,abM,.func (PySem.W.fnOf "law" "law" (aJ oW) (aH oW) (ak oW) .none Wb W2 VN XR Us W6),aau⟩) (c43:PySem.W.codeIn K Us "law" = true) (k43:PySem.W.keepIn K (.ref f43)=true)
 {vP:Tok} (lE:PySem.W.nsIn K mainGlobals "MOST_HANDS" = some (some (.int 8 vP)))
 (kI:PySem.W.nsIn K mainGlobals "ValueError" = some none) (Jp:PySem.W.nsIn K mainGlobals "all" = some none) (BZ:PySem.W.nsIn K mainGlobals "bool" = some none) (BX:PySem.W.nsIn K mainGlobals "dict" = some none) (lU:PySem.W.nsIn K mainGlobals "enumerate" = some none) (Jo:PySem.W.nsIn K mainGlobals "int" = some none) (kE:PySem.W.nsIn K mainGlobals "isinstance" = some none) (Jm:PySem.W.nsIn K mainGlobals "len" = some none) (BW:PySem.W.nsIn K mainGlobals "list" = some none) (Jl:PySem.W.nsIn K mainGlobals "max" = some none) (Jk:PySem.W.nsIn K mainGlobals "min" = some none) (xG:PySem.W.nsIn K mainGlobals "range" = some none) (sJ:PySem.W.nsIn K mainGlobals "sorted" = some none) (Jj:PySem.W.nsIn K mainGlobals "sum" = some none) (xu:PySem.W.nsIn K mainGlobals "tuple" = some none) (Ji:PySem.W.nsIn K mainGlobals "zip" = some none):
 ∃fd:FuncData,(∀(s:Shared) (v:Value),BindsTo s fd ⟨[v],[]⟩ [("script",v)]) /\ ∀base:Heap,K.In base->base.Ns mainGlobals mg->cH l.prog w K mg base iZ 8 fa fd ["script"] (Ep K):=by
 have e:=hfa.symm.trans (PySem.W.mg_of X G a43);cases e;have Bt:nA mg:=⟨PySem.W.mg_none_of X G kI,PySem.W.mg_none_of X G Jp,PySem.W.mg_none_of X G BZ,PySem.W.mg_none_of X G BX,PySem.W.mg_none_of X G lU,PySem.W.mg_none_of X G Jo,PySem.W.mg_none_of X G kE,PySem.W.mg_none_of X G Jm,PySem.W.mg_none_of X G BW,PySem.W.mg_none_of X G Jl,PySem.W.mg_none_of X G Jk,PySem.W.mg_none_of X G xG,PySem.W.mg_none_of X G sJ,PySem.W.mg_none_of X G Jj,PySem.W.mg_none_of X G xu,PySem.W.mg_none_of X G Ji⟩;have jo:Gv mg "MOST_HANDS" (.int 8):=⟨_,PySem.W.mg_of X G lE,⟨_,rfl⟩⟩;have F0:=bC (st:=k_) l0 c0 k0;have F1:=bC (st:=jg) l1 c1 k1;have F2:=bC (st:=jh) l2 c2 k2;have F3:=bC (st:=gJ) l3 c3 k3;have F4:=bC (st:=kZ) l4 c4 k4;have F5:=bC (st:=bR) l5 c5 k5;have F6:=bC (st:=fH) l6 c6 k6;have F7:=bC (st:=eE) l7 c7 k7;have F8:=bC (st:=je) l8 c8 k8;have F9:=bC (st:=cR) l9 c9 k9;have F10:=bC (st:=d8) l10 c10 k10;have F11:=bC (st:=jd) l11 c11 k11;have F12:=bC (st:=jc) l12 c12 k12;have F13:=bC (st:=d_) l13 c13 k13;have F14:=bC (st:=eF) l14 c14 k14;have F15:=bC (st:=fJ) l15 c15 Q_;have F16:=bC (st:=cO) l16 c16 Ze;have F17:=bC (st:=cB) l17 c17 Zd;have F18:=bC (st:=cQ) l18 c18 Zc;have F19:=bC (st:=cA) l19 c19 Zb;have F20:=bC (st:=oX) l20 c20 Za;have F21:=bC (st:=bV) l21 c21 Y_;have F22:=bC (st:=gH) l22 c22 Y9;have F23:=bC (st:=dD) l23 c23 Y8;have F24:=bC (st:=bU) l24 c24 Y7;have F25:=bC (st:=dF) l25 c25 Y6;have F26:=bC (st:=fK) l26 c26 Y5;have F27:=bC (st:=cP) l27 c27 Y4;have F28:=bC (st:=jf) l28 c28 Y0;have F29:=bC (st:=cu) l29 c29 YZ;have F30:=bC (st:=bN) l30 c30 YX;have F31:=bC (st:=dz) l31 c31 YW;have F32:=bC (st:=kY) l32 c32 YT;have F33:=bC (st:=d9) l33 c33 YS;have F34:=bC (st:=cN) l34 c34 YQ;have F35:=bC (st:=dB) l35 c35 YM;have F36:=bC (st:=gK) l36 c36 YL;have F37:=bC (st:=gM) l37 c37 YK;have F38:=bC (st:=fM) l38 c38 YJ;have F39:=bC (st:=cC) l39 c39 YH;have F40:=bC (st:=bJ) l40 c40 YG;have F41:=bC (st:=ji) l41 c41 YF;have F42:=bC (st:=fL) l42 c42 YD;have F43:=bC (st:=oW) l43 c43 k43;refine ⟨PySem.W.fnOf "law" "law" (aJ oW) (aH oW) (ak oW) .none Wb W2 VN XR Us W6,fun s v=> .of_eq rfl,fun base _ _=> ?_⟩;have A0:FnAt l.prog w K mg base 1 "_law_bag" ["script"] (JK K):=⟨f0,_,Tq F0 Bt,PySem.W.mg_of X G a0,k0,F0.binds (ps:=["script"]) Qn⟩;have A1:FnAt l.prog w K mg base 1 "_law_stir" ["number","place"] (Cm K):=⟨f1,_,OD F1,PySem.W.mg_of X G a1,k1,F1.binds (ps:=["number","place"]) Mz⟩;have A2:FnAt l.prog w K mg base 2 "_law_draw" ["bag","many"] (pY K):=⟨f2,_,O1 F2 A1 Bt,PySem.W.mg_of X G a2,k2,F2.binds (ps:=["bag","many"]) MF⟩;have A3:FnAt l.prog w K mg base 3 "_law_touch" ["bag","hands","cells","loads","apart"] (xM K):=⟨f3,_,Kq F3 A2 Bt,PySem.W.mg_of X G a3,k3,F3.binds (ps:=["bag","hands","cells","loads","apart"]) Iw⟩;have A4:FnAt l.prog w K mg base 4 "_law_web" ["bag","hands"] (JH K):=⟨f4,_,Ti F4 A2 A3 Bt,PySem.W.mg_of X G a4,k4,F4.binds (ps:=["bag","hands"]) Qm⟩;have A5:FnAt l.prog w K mg base 1 "touches_meet" ["one","other"] (RX K):=⟨f5,_,rE F5,PySem.W.mg_of X G a5,k5,F5.binds (ps:=["one","other"]) rJ⟩;have A6:FnAt l.prog w K mg base 2 "is_step" ["web","place","later"] (Cp K):=⟨f6,_,CV F6 A5,PySem.W.mg_of X G a6,k6,F6.binds (ps:=["web","place","later"]) DK⟩;have A7:FnAt l.prog w K mg base 1 "is_known" ["name","known"] (xV K):=⟨f7,_,KD F7,PySem.W.mg_of X G a7,k7,F7.binds (ps:=["name","known"]) Bk⟩;have A8:FnAt l.prog w K mg base 1 "learn" ["known","more"] (xT K):=⟨f8,_,Kz F8 Bt,PySem.W.mg_of X G a8,k8,F8.binds (ps:=["known","more"]) Mw⟩;have A9:FnAt l.prog w K mg base 3 "bare_steps" ["web","named","knowns","place"] (Cu K):=⟨f9,_,O4 F9 A6 A7 A8 Bt,PySem.W.mg_of X G a9,k9,F9.binds (ps:=["web","named","knowns","place"]) vX⟩;have A10:FnAt l.prog w K mg base 1 "notes_to" ["named","bare","name"] (pX K):=⟨Z5,_,CT F10,PySem.W.mg_of X G a10,k10,F10.binds (ps:=["named","bare","name"]) Bg⟩;have A11:FnAt l.prog w K mg base 1 "names" ["web"] (xQ K):=⟨f11,_,Kw F11,PySem.W.mg_of X G a11,k11,F11.binds (ps:=["web"]) Mv⟩;have A12:FnAt l.prog w K mg base 4 "notes" ["web"] (xP K):=⟨Z4,_,Kv F12 A11 A9 A10 Bt,PySem.W.mg_of X G a12,k12,F12.binds (ps:=["web"]) Mu⟩;have A13:FnAt l.prog w K mg base 1 "is_whole" ["value"] (JG K):=⟨Z2,_,zX F13 Bt,PySem.W.mg_of X G a13,k13,F13.binds (ps:=["value"]) Bj⟩;have A14:FnAt l.prog w K mg base 2 "is_below" ["value","count"] (mZ K):=⟨Z1,_,zY F14 A13,PySem.W.mg_of X G a14,k14,F14.binds (ps:=["value","count"]) Bl⟩;have A15:FnAt l.prog w K mg base 2 "is_note" ["value"] (oK K):=⟨Z0,_,CW F15 A13 Bt,PySem.W.mg_of X G a15,Q_,F15.binds (ps:=["value"]) DN⟩;have A16:FnAt l.prog w K mg base 3 "is_between" ["counts","note"] (pZ K):=⟨ZX,_,vK F16 A14 A15 Bt,PySem.W.mg_of X G a16,Ze,F16.binds (ps:=["counts","note"]) vU⟩;have A17:FnAt l.prog w K mg base 4 "check_notes" ["record"] (gC K):=⟨ZW,_,tZ F17 A16 Bt,PySem.W.mg_of X G a17,Zd,F17.binds (ps:=["record"]) uU⟩;have A18:FnAt l.prog w K mg base 3 "check_done" ["record","done"] (lX K):=⟨ZV,_,vM F18 A14 Bt,PySem.W.mg_of X G a18,Zc,F18.binds (ps:=["record","done"]) vW⟩;have A19:FnAt l.prog w K mg base 3 "check_order" ["record","order"] (sX K):=⟨ZS,_,tY F19 A14 Bt,PySem.W.mg_of X G a19,Zb,F19.binds (ps:=["record","order"]) uT⟩;have A20:FnAt l.prog w K mg base 1 "has" ["done","touch"] (Es K):=⟨ZR,_,Tp F20,PySem.W.mg_of X G a20,Za,F20.binds (ps:=["done","touch"]) Uv⟩;have A21:FnAt l.prog w K mg base 2 "broken_notes" ["record","done"] (lY K):=⟨ZQ,_,Hq F21 A20 Bt,PySem.W.mg_of X G a21,Y_,F21.binds (ps:=["record","done"]) rM⟩;have A22:FnAt l.prog w K mg base 5 "is_cut" ["record","cut"] (xW K):=⟨ZP,_,Hl F22 A17 A18 A21 Bt,PySem.W.mg_of X G a22,Y9,F22.binds (ps:=["record","cut"]) Iv⟩;have A23:FnAt l.prog w K mg base 5 "least_cut" ["record","some"] (xR K):=⟨ZM,_,Ky F23 A17 A18 A21 Bt,PySem.W.mg_of X G a23,Y8,F23.binds (ps:=["record","some"]) yR⟩;have A24:FnAt l.prog w K mg base 5 "greatest_cut" ["record","some"] (nT K):=⟨ZL,_,zZ F24 A17 A18 A21 Bt,PySem.W.mg_of X G a24,Y7,F24.binds (ps:=["record","some"]) rK⟩;have A25:FnAt l.prog w K mg base 1 "firsts_of" ["record"] (oM K):=⟨ZK,_,Ho F25,PySem.W.mg_of X G a25,Y6,F25.binds (ps:=["record"]) yS⟩;have A26:FnAt l.prog w K mg base 2 "is_free" ["counts","firsts","done","hand"] (xY K):=⟨ZJ,_,CZ F26 A20 Bt,PySem.W.mg_of X G a26,Y5,F26.binds (ps:=["counts","firsts","done","hand"]) DP⟩;have A27:FnAt l.prog w K mg base 3 "free_hands" ["counts","firsts","done"] (xX K):=⟨ZG,_,vL F27 A26 Bt,PySem.W.mg_of X G a27,Y4,F27.binds (ps:=["counts","firsts","done"]) vV⟩;have A28:FnAt l.prog w K mg base 5 "keeps" ["record","order"] (oJ K):=⟨ZF,_,KH F28 A17 A19 A25 A26 Bt,PySem.W.mg_of X G a28,Y0,F28.binds (ps:=["record","order"]) Mx⟩;have A29:FnAt l.prog w K mg base 5 "first_order" ["record"] (xZ K):=⟨ZD,_,tX F29 A17 A25 A27 Bt,PySem.W.mg_of X G a29,YZ,F29.binds (ps:=["record"]) uR⟩;have A30:FnAt l.prog w K mg base 1 "longer_chains" ["record","chains"] (sW K):=⟨ZC,_,Hj F30,PySem.W.mg_of X G a30,YX,F30.binds (ps:=["record","chains"]) qL⟩;have A31:FnAt l.prog w K mg base 2 "ring_from" ["record","start"] (nR K):=⟨Zz,_,zW F31 A30 Bt,PySem.W.mg_of X G a31,YW,F31.binds (ps:=["record","start"]) yP⟩;have A32:FnAt l.prog w K mg base 5 "ring" ["record"] (oH K):=⟨f32,_,Ks F32 A17 A31 Bt,PySem.W.mg_of X G a32,YT,F32.binds (ps:=["record"]) Ql⟩;have A33:FnAt l.prog w K mg base 1 "leads_to" ["note","following"] (xU K):=⟨Zy,_,KC F33,PySem.W.mg_of X G a33,YS,F33.binds (ps:=["note","following"]) Bh⟩;have A34:FnAt l.prog w K mg base 5 "ring_shows" ["record","some"] (Cq K):=⟨Zx,_,OJ F34 A17 A15 A33 Bt,PySem.W.mg_of X G a34,YQ,F34.binds (ps:=["record","some"]) vR⟩;have A35:FnAt l.prog w K mg base 5 "record_of" ["hands","web"] (xO K):=⟨Zw,_,Ku F35 A13 A14 A12 jo Bt,PySem.W.mg_of X G a35,YM,F35.binds (ps:=["hands","web"]) yQ⟩;have A36:FnAt l.prog w K mg base 1 "_law_spots" ["order"] (rQ K):=⟨Zv,_,Kr F36 Bt,PySem.W.mg_of X G a36,YL,F36.binds (ps:=["order"]) Iz⟩;have A37:FnAt l.prog w K mg base 2 "_law_keeps" ["ties","order"] (NQ K):=⟨Zu,_,V3 F37 A36 Bt,PySem.W.mg_of X G a37,YK,F37.binds (ps:=["ties","order"]) IK⟩;have A38:FnAt l.prog w K mg base 1 "_law_closed" ["ties","some"] (RZ K):=⟨Zt,_,V4 F38 Bt,PySem.W.mg_of X G a38,YJ,F38.binds (ps:=["ties","some"]) DR⟩;have A39:FnAt l.prog w K mg base 1 "_law_goes_round" ["ties","found"] (R0 K):=⟨Zr,_,V5 F39 Bt,PySem.W.mg_of X G a39,YH,F39.binds (ps:=["ties","found"]) uV⟩;have A40:FnAt l.prog w K mg base 6 "_law_order_or_ring" ["record","size"] (Eo K):=⟨Zq,_,Tj F40 A29 A32 A39 A34 A37 A28 Bt,PySem.W.mg_of X G a40,YG,F40.binds (ps:=["record","size"]) pQ⟩;have A41:FnAt l.prog w K mg base 6 "_law_bent" ["record","order","tie"] (Cr K):=⟨Zo,_,O2 F41 A36 A28 A37 A22 A38 Bt,PySem.W.mg_of X G a41,YF,F41.binds (ps:=["record","order","tie"]) MJ⟩;have A42:FnAt l.prog w K mg base 7 "_law_turned" ["bag","record","order","tie"] (sV K):=⟨Zn,_,Hi F42 A2 A40 A32 Bt,PySem.W.mg_of X G a42,YD,F42.binds (ps:=["bag","record","order","tie"]) DQ⟩;exact Tn F43 A0 A2 A4 A35 A28 A40 A23 A24 A32 A41 A42 Bt
theorem walk {l:PySem.W.OpenLaw} {q:Program} {loose:List Str} {XP:(Str->Option Value)->Heap->Prop} {YP:World->Heap->Prop} {d:DefRec} {K:Params->PySem.W.Frag} (hn:l.most=some 63) (hdf:d.params.defaults=[])
 (hY:∀(w:World) (h:Heap),YP w h->(K w.params).In h)
 (F:∀(w:World) (mg:Str->Option Value) (fa:Addr) (h:Heap),(K w.params).In h->h.Ns mainGlobals mg->mg d.name=some (.ref fa) ->
   ∃fd:FuncData,(∀(s:Shared) (u:Value),BindsTo s fd ⟨[u],[]⟩ [("script",u)]) /\ ∀base:Heap,(K w.params).In base->base.Ns mainGlobals mg->cH l.prog w (K w.params) mg base iZ 8 fa fd ["script"] (Ep (K w.params))):
 PySem.W.WalkO q loose XP YP l.row.toRowW d [] (fun f vs=>PySem.call f vs):=
 L2.Np (n:=63) (k:=8) (x:= "script") (CX:=fun _=>iZ) (sp:=fun w=>Ep (K w.params)) hn (by decide) hdf ⟨rfl,by decide,by decide⟩ hY F (fun _ _ a ns hl _ hS=>⟨a,ns,rfl,hS,hl,fun _=>rfl⟩) fun _ _ _ _ _ z=>z
end Prf
namespace PySem.W.Fast
def tw1122325246315061321:=()
def tw9740461682917113182:=()
def tw7688782212657991695:=()
def tw14892959750329972837:=()
def tw16483116068909277086:=()
def tw3323261044061163680:=()
def tw17123361743537397563:=()
def tw3029255374576062493:=()
def tw6313865323758134230:=()
def tw11196522107683610365:=()
def tw13465123847520570557:=()
def tw3981571217648767733:=()
def tw17818909387767292584:=()
def tw12521177662389478425:=()
def tw12656502526155779089:=()
def tw6086843714600001962:=()
def tw16039075191027201015:=()
def tw4419829015665547579:=()
def tw18089796437209574365:=()
def tw10592753195718883471:=()
def tw13447686517253808930:=()
def tw8703024442680539429:=()
def tw8990013871876890225:=()
def tw15746155940513640471:=()
def tw5659829120287587148:=()
def tw270875676978458832:=()
def tw12050548265470659222:=()
def tw507984457471384004:=()
def tw12837426741169056687:=()
def tw15404126523169024192:=()
def tw5043226087325545806:=()
def tw10564920979366710686:=()
def tw3747080033710177664:=()
def tw13015845665193341576:=()
def tw779678666131178285:=()
def tw12382404831019265696:=()
def tw9331429917494440883:=()
def tw4742936162653130941:=()
def tw11537460715075434288:=()
def tw6997229135866801391:=()
def tw14750892442221001359:=()
def tw10913736798165536506:=()
def tw13333314708603980611:=()
def tw5691286918348872126:=()
def tw12329044871336418239:=()
def tw18387362986279203116:=()
def tw12863571986519506536:=()
def tw8410886898796139662:=()
def tw10283511025581626804:=()
def tw913394514629047335:=()
def tw7110590896378956044:=()
def tw4558102007421945898:=()
def tw15900817115188913861:=()
def tw8993383134339238435:=()
def tw2737716041956545500:=()
def tw17755416384789988716:=()
def tw16394630460272539491:=()
def tw6238499609954411826:=()
def tw12107555557051889939:=()
def tw684613586299683016:=()
def tw18358156853792587991:=()
def tw1758364529922773702:=()
def tw14007267919167500982:=()
def tw14221275274183564549:=()
def tw3511053463674274883:=()
def tw11545980511352198420:=()
def tw12431868606644792701:=()
def tw1210604842300917769:=()
def tw914117998836878205:=()
def tw8100949786793714057:=()
def tw3345956446829098124:=()
def tw1025729301990143350:=()
def tw16108314553895109324:=()
def tw13593492239325807275:=()
def tw12229693582153838933:=()
def tw4958843944851251816:=()
def tw18418110518326180900:=()
def tw2575948736717395940:=()
def tw9653311028684462904:=()
def tw17519656836708852477:=()
def tw14506718374308149267:=()
def tw9053838049021701983:=()
def tw6316850003884370086:=()
def tw4220993021594717350:=()
def tw9077405477677941014:=()
def tw22912324417138703:=()
def tw12667545766943598886:=()
def tw4134133057876368177:=()
def tw4716106635262458997:=()
def tw3424096988901755203:=()
def tw7807048456978456964:=()
def tw16411105978127920949:=()
def tw6910963044062334905:=()
def tw9260091183727113092:=()
def tw13544877281117791658:=()
def tw13619323595004418414:=()
def tw3658580641887089103:=()
def tw14281190878873109766:=()
def tw11005019397230191582:=()
def tw16122747049518359950:=()
def tw13180694098857439660:=()
def tw5055370393558091407:=()
def tw17147840573119118170:=()
def tw15632980205173730282:=()
def tw18199721640896646591:=()
def tw6185916488331238321:=()
def tw12532792198291703581:=()
def tw9790847238056550665:=()
def tw7433143418506446695:=()
def tw13064444622224341571:=()
def tw5679962949915244551:=()
def tw16739061683006660393:=()
def tw11142425052412523845:=()
def tw13093737984083909543:=()
def tw15884695298168978286:=()
def tw16373832613308798281:=()
def tw13772312239250567178:=()
def tw9627574448076987585:=()
def tw3102658088882884809:=()
def tw4042476316124387393:=()
def tw18172537999065078884:=()
def tw13279882922086465430:=()
def tw15035551985016289056:=()
def tw2462123325093379302:=()
def tw2987856358565590601:=()
def tw16950275829174876593:=()
def tw18079935874476558852:=()
def tw10527666483234501421:=()
def tw9638938405371952517:=()
def tw3478632008298762813:=()
def tw4019410662052547117:=()
def tw10453278089206827187:=()
def tw9150461783661849319:=()
def tw15261413601995852561:=()
def tw157894028908722668:=()
def tw8992464260572283638:=()
def tw12564954821390940379:=()
def tw14854140215013857607:=()
def tw15223805289223042331:=()
def tw5494530706613016911:=()
def tw7694004076980592694:=()
def tw17532476882309805186:=()
def tw1588129593192977038:=()
def tw2750320979578075098:=()
def tw12903525218110610767:=()
def tw6556688399237003015:=()
def tw17608470468207010383:=()
def tw13540405802098154113:=()
def tw11814637090720625879:=()
def tw15623015620813656067:=()
def tw5113955614315593507:=()
def tw11191696968661238367:=()
def tw6617385673130192666:=()
def tw12063548081511902501:=()
def tw10025577066014334335:=()
def tw8977458250770365682:=()
def tw7871458898701311486:=()
def tw7733010670712769926:=()
def tw12491835534799136854:=()
def tw15751045532779050894:=()
def tw4868848595195297716:=()
def tw4305979225603321792:=()
def tw2954023166973724676:=()
def tw2894641994105358374:=()
def tw7913359563626750327:=()
def tw3322844711531793283:=()
def tw11999651374977485700:=()
def tw5319820315006343599:=()
def tw17155469466032336898:=()
def tw15084716466373849049:=()
def tw841537608636791757:=()
def tw8938600737267616574:=()
def tw17179253048263681801:=()
def tw18369111876215092232:=()
def tw15364611289532681139:=()
def tw4717030921615422625:=()
def tw13912749936691315593:=()
def tw15174257279058914199:=()
def tw773117153403388026:=()
def tw9808298142452441184:=()
def tw9556629114421513848:=()
def tw15475917261146040567:=()
def tw14954219471298232586:=()
def tw13749902814993293671:=()
def tw1236415517003592786:=()
def tw6604644651057998375:=()
def tw5208174592688950682:=()
def tw9754631853376673348:=()
def tw12305345355763697394:=()
def tw10072708868667916268:=()
def tw8950342016391413695:=()
def tw842823739651043544:=()
def tw12093252640865595947:=()
def tw10589003666930721658:=()
def tw13418319725243260237:=()
def tw18201270208064961618:=()
def tw4814595186773029296:=()
def tw10889576401286098381:=()
def tw2194423196277041038:=()
def tw2293214572193792678:=()
def tw13735481900677573087:=()
def tw16836673470546925681:=()
def tw9655407468233651625:=()
def tw7631200243896384857:=()
def tw17663114470761158299:=()
def tw10738252276240600969:=()
def tw862621651818661308:=()
def tw4995220989492041420:=()
def tw11286712119587634227:=()
def tw9437503689444899121:=()
def tw15915213155892054440:=()
def tw5058022608662951394:=()
def tw7610430277876802487:=()
def tw5673052101370638137:=()
def tw13502154447636300578:=()
def tw3201587508729817095:=()
def tw15781284168359059326:=()
def tw9345046916930061792:=()
def tw9057063759302008910:=()
def tw14969639494061168436:=()
def tw1339226583704442653:=()
def tw12924755372301535708:=()
def tw1219655724939407169:=()
def tw6204035600767737697:=()
def tw4992929805218918457:=()
def tw7980442087682081615:=()
def tw14980956539483944218:=()
def tw12846469860512968521:=()
def tw383839434467203289:=()
def tw10767284152068045302:=()
def tw5183926407730989433:=()
def tw7273871183995177092:=()
def tw8271779894427636211:=()
def tw2704919242343441770:=()
def tw9139328753076062293:=()
def tw13577437593233263374:=()
def tw8945396592795386219:=()
def tw17934348684460417964:=()
def tw5540864851632897475:=()
def tw10807747445567307204:=()
def tw664111001823625919:=()
def tw4634741154545818869:=()
def tw17581015861601309098:=()
def tw17660953933484371880:=()
def tw5299980243370901905:=()
def tw17655505423385545161:=()
def tw56865973069840182:=()
def tw2459853584335029226:=()
def tw282214239452118288:=()
def tw7000631347294020664:=()
def tw3747540984957263868:=()
def tw4142688062802196771:=()
def tw17332105964201754398:=()
def tw4493672245446313577:=()
def tw13070399664525505178:=()
def tw14134436598052088259:=()
def tw15314856774315872045:=()
def tw11437988316058151307:=()
def tw15710828973229001357:=()
def tw95978274189272062:=()
def tw10292958995917681576:=()
def tw7595238311202850819:=()
def tw1988898942436981414:=()
def tw11602144781731390568:=()
def tw8075820360615755690:=()
def tw10678581476657274468:=()
def tw12058074271817056982:=()
def tw10574056472809644332:=()
def tw15019862250013210606:=()
def tw12000573220870545566:=()
def tw1305318662724075561:=()
def tw15714908490799262247:=()
def tw4272125871558597665:=()
def tw16620456306736261142:=()
def tw5879243027899478941:=()
def tw17731640500379030471:=()
def tw9026096711116166962:=()
def tw7916065914076127506:=()
def tw14864370804250760090:=()
def tw8878730094042442545:=()
def tw6358033561704257318:=()
def tw13093586269167869981:=()
def tw3321326475243932847:=()
def tw7399407209457334978:=()
def tw6398621580449033650:=()
def tw6699580551935778468:=()
def tw5477764906121575697:=()
def tw1964316191777883118:=()
def tw7862572931134277702:=()
def tw4242154953788415822:=()
def tw13351845839607941250:=()
def tw4076185442854690344:=()
def tw3254914864690657557:=()
def tw8919286766202210658:=()
def tw15253071924457444156:=()
def tw2339073972824287960:=()
def tw6897860619676783090:=()
def tw14311701190460185102:=()
def tw2746661241233200202:=()
def tw16344811668347499639:=()
def tw1925919233435623096:=()
def tw18121318503809625500:=()
def tw9584741375083768138:=()
def tw1614690278281707099:=()
def tw16037420710282898589:=()
def tw5291465127578562512:=()
def tw6281652698005138247:=()
def tw15148129517451221972:=()
def tw15896698184122952430:=()
def tw3249682574956764003:=()
def tw14869506706739545558:=()
def tw1746685617278068251:=()
def tw16820735114010902548:=()
def tw6069245404324652867:=()
def tw3663963122009446057:=()
def tw1675993692317448944:=()
def tw14277787242284197376:=()
def tw12583239697457181273:=()
def tw13585253557825887919:=()
def tw8602806021806334921:=()
def tw11719838468247861419:=()
def tw2285750653312879637:=()
def tw2336012026218968191:=()
def tw418298280837689972:=()
def tw7196547006868948155:=()
def tw2588978431412235715:=()
end PySem.W.Fast
open PySem PySem.W PyProof.Rows
set_option maxRecDepth 100000 in
set_option maxHeartbeats 0 in
theorem PySem.Challenge.cw_fewnotes_k98_whole_records_of_long_runs_holds : PySem.Challenge.rw_fewnotes_k98_whole_records_of_long_runs.Holds := by
 w_on;o_law;k_head;(case hw=>w_witness2)
 k_fill
 refine Prf.walk (l:=PySem.Challenge.rw_fewnotes_k98_whole_records_of_long_runs) rfl rfl (fun w h Y=>PySem.W.kIn_of Y) ?F
 case F=>
  intro w mg fa h KX G hmg
  replace hmg:mg (Str.ofString "law")=some (.ref fa):=hmg
  refine' Prf.all_mk KX G hmg ?a0 ?l0 ?c0 ?k0 ?a1 ?l1 ?c1 ?k1 ?a2 ?l2 ?c2 ?k2 ?a3 ?l3 ?c3 ?k3 ?a4 ?l4 ?c4 ?k4 ?a5 ?l5 ?c5 ?k5 ?a6 ?l6 ?c6 ?k6 ?a7 ?l7 ?c7 ?k7 ?a8 ?l8 ?c8 ?k8 ?a9 ?l9 ?c9 ?k9 ?a10 ?l10 ?c10 ?k10 ?a11 ?l11 ?c11 ?k11 ?a12 ?l12 ?c12 ?k12 ?a13 ?l13 ?c13 ?k13 ?a14 ?l14 ?c14 ?k14 ?a15 ?l15 ?c15 ?Q_ ?a16 ?l16 ?c16 ?Ze ?a17 ?l17 ?c17 ?Zd ?a18 ?l18 ?c18 ?Zc ?a19 ?l19 ?c19 ?Zb ?a20 ?l20 ?c20 ?Za ?a21 ?l21 ?c21 ?Y_ ?a22 ?l22 ?c22 ?Y9 ?a23 ?l23 ?c23 ?Y8 ?a24 ?l24 ?c24 ?Y7 ?a25 ?l25 ?c25 ?Y6 ?a26 ?l26 ?c26 ?Y5 ?a27 ?l27 ?c27 ?Y4 ?a28 ?l28 ?c28 ?Y0 ?a29 ?l29 ?c29 ?YZ ?a30 ?l30 ?c30 ?YX ?a31 ?l31 ?c31 ?YW ?a32 ?l32 ?c32 ?YT ?a33 ?l33 ?c33 ?YS ?a34 ?l34 ?c34 ?YQ ?a35 ?l35 ?c35 ?YM ?a36 ?l36 ?c36 ?YL ?a37 ?l37 ?c37 ?YK ?a38 ?l38 ?c38 ?YJ ?a39 ?l39 ?c39 ?YH ?a40 ?l40 ?c40 ?YG ?a41 ?l41 ?c41 ?YF ?a42 ?l42 ?c42 ?YD ?a43 ?l43 ?c43 ?k43 ?lE ?kI ?Jp ?BZ ?BX ?lU ?Jo ?kE ?Jm ?BW ?Jl ?Jk ?xG ?sJ ?Jj ?xu ?Ji
  (case lE=>k_is)
  (case a0=>k_is)
  (case l0=>k_is)
  (case c0=>k_is)
  (case k0=>k_is)
  (case a1=>k_is)
  (case l1=>k_is)
  (case c1=>k_is)
  (case k1=>k_is)
  (case a2=>k_is)
  (case l2=>k_is)
  (case c2=>k_is)
  (case k2=>k_is)
  (case a3=>k_is)
  (case l3=>k_is)
  (case c3=>k_is)
  (case k3=>k_is)
  (case a4=>k_is)
  (case l4=>k_is)
  (case c4=>k_is)
  (case k4=>k_is)
  (case a5=>k_is)
  (case l5=>k_is)
  (case c5=>k_is)
  (case k5=>k_is)
  (case a6=>k_is)
  (case l6=>k_is)
  (case c6=>k_is)
  (case k6=>k_is)
  (case a7=>k_is)
  (case l7=>k_is)
  (case c7=>k_is)
  (case k7=>k_is)
  (case a8=>k_is)
  (case l8=>k_is)
  (case c8=>k_is)
  (case k8=>k_is)
  (case a9=>k_is)
  (case l9=>k_is)
  (case c9=>k_is)
  (case k9=>k_is)
  (case a10=>k_is)
  (case l10=>k_is)
  (case c10=>k_is)
  (case k10=>k_is)
  (case a11=>k_is)
  (case l11=>k_is)
  (case c11=>k_is)
  (case k11=>k_is)
  (case a12=>k_is)
  (case l12=>k_is)
  (case c12=>k_is)
  (case k12=>k_is)
  (case a13=>k_is)
  (case l13=>k_is)
  (case c13=>k_is)
  (case k13=>k_is)
  (case a14=>k_is)
  (case l14=>k_is)
  (case c14=>k_is)
  (case k14=>k_is)
  (case a15=>k_is)
  (case l15=>k_is)
  (case c15=>k_is)
  (case Q_=>k_is)
  (case a16=>k_is)
  (case l16=>k_is)
  (case c16=>k_is)
  (case Ze=>k_is)
  (case a17=>k_is)
  (case l17=>k_is)
  (case c17=>k_is)
  (case Zd=>k_is)
  (case a18=>k_is)
  (case l18=>k_is)
  (case c18=>k_is)
  (case Zc=>k_is)
  (case a19=>k_is)
  (case l19=>k_is)
  (case c19=>k_is)
  (case Zb=>k_is)
  (case a20=>k_is)
  (case l20=>k_is)
  (case c20=>k_is)
  (case Za=>k_is)
  (case a21=>k_is)
  (case l21=>k_is)
  (case c21=>k_is)
  (case Y_=>k_is)
  (case a22=>k_is)
  (case l22=>k_is)
  (case c22=>k_is)
  (case Y9=>k_is)
  (case a23=>k_is)
  (case l23=>k_is)
  (case c23=>k_is)
  (case Y8=>k_is)
  (case a24=>k_is)
  (case l24=>k_is)
  (case c24=>k_is)
  (case Y7=>k_is)
  (case a25=>k_is)
  (case l25=>k_is)
  (case c25=>k_is)
  (case Y6=>k_is)
  (case a26=>k_is)
  (case l26=>k_is)
  (case c26=>k_is)
  (case Y5=>k_is)
  (case a27=>k_is)
  (case l27=>k_is)
  (case c27=>k_is)
  (case Y4=>k_is)
  (case a28=>k_is)
  (case l28=>k_is)
  (case c28=>k_is)
  (case Y0=>k_is)
  (case a29=>k_is)
  (case l29=>k_is)
  (case c29=>k_is)
  (case YZ=>k_is)
  (case a30=>k_is)
  (case l30=>k_is)
  (case c30=>k_is)
  (case YX=>k_is)
  (case a31=>k_is)
  (case l31=>k_is)
  (case c31=>k_is)
  (case YW=>k_is)
  (case a32=>k_is)
  (case l32=>k_is)
  (case c32=>k_is)
  (case YT=>k_is)
  (case a33=>k_is)
  (case l33=>k_is)
  (case c33=>k_is)
  (case YS=>k_is)
  (case a34=>k_is)
  (case l34=>k_is)
  (case c34=>k_is)
  (case YQ=>k_is)
  (case a35=>k_is)
  (case l35=>k_is)
  (case c35=>k_is)
  (case YM=>k_is)
  (case a36=>k_is)
  (case l36=>k_is)
  (case c36=>k_is)
  (case YL=>k_is)
  (case a37=>k_is)
  (case l37=>k_is)
  (case c37=>k_is)
  (case YK=>k_is)
  (case a38=>k_is)
  (case l38=>k_is)
  (case c38=>k_is)
  (case YJ=>k_is)
  (case a39=>k_is)
  (case l39=>k_is)
  (case c39=>k_is)
  (case YH=>k_is)
  (case a40=>k_is)
  (case l40=>k_is)
  (case c40=>k_is)
  (case YG=>k_is)
  (case a41=>k_is)
  (case l41=>k_is)
  (case c41=>k_is)
  (case YF=>k_is)
  (case a42=>k_is)
  (case l42=>k_is)
  (case c42=>k_is)
  (case YD=>k_is)
  (case a43=>k_is)
  (case l43=>k_is)
  (case c43=>k_is)
  (case k43=>k_is)
  (case kI=>k_is)
  (case Jp=>k_is)
  (case BZ=>k_is)
  (case BX=>k_is)
  (case lU=>k_is)
  (case Jo=>k_is)
  (case kE=>k_is)
  (case Jm=>k_is)
  (case BW=>k_is)
  (case Jl=>k_is)
  (case Jk=>k_is)
  (case xG=>k_is)
  (case sJ=>k_is)
  (case Jj=>k_is)
  (case xu=>k_is)
  (case Ji=>k_is)
#print axioms PySem.Challenge.cw_fewnotes_k98_whole_records_of_long_runs_holds
