import PyProof.Rows.All
import Wide.All
import OpenK.AllK
import Wide.FinOn
import Lean
import PyProof.EqAt
import PyProof.EqKinds
import PyProof.TupleCall
import PyProof.EqLayable
import PyProof.ExcArgsOwn
import PyProof.ExcAttrAll.Exception
import PyProof.RulesAs
import PyProof.ExcBaseAll.ValueError
import PyProof.NsDelKeeps
import KE.KRevSl
import OpenK.KOps
import OpenK.KWalk
import PyProof.TupleIter
import PyProof.ZipIter
import PyProof.ExcClass3
import PyProof.InstStoreFacts
import PySem.Challenge.RW_fewnotes_k52_held
set_option Elab.async false
set_option linter.all false
set_option maxRecDepth 100000
namespace L2
open PySem PySem.Spec PyProof.Rows
abbrev Key:=Sum Int Str
def Di:Key->Value->Bool
 | .inl k,v=>Value.isInt k v
 | .inr x,v=>Value.isStrOf x v
def ai' (w:World):Key->Int
 | .inl k=>hashInt k
 | .inr x=>hashStr w x
theorem fG:∀{k:Key} {v:Value},Di k v=true->(∃i t,k=Sum.inl i/\v=Value.int i t)\/(∃x t,k=Sum.inr x/\v=Value.str x t)
 | .inl i,v,h=>by
   obtain ⟨t,e⟩:=Value.isInt_shape (k:=i) (v:=v) h;exact .inl ⟨i,t,rfl,e⟩
 | .inr x,v,h=>by
   obtain ⟨t,e⟩:=Value.isStrOf_shape (x:=x) (v:=v) h;exact .inr ⟨x,t,rfl,e⟩
theorem Og (i:Int) (t:Tok):Di (.inl i) (.int i t)=true:=by simp [Di,Value.isInt]
theorem Oe (x:Str) (t:Tok):Di (.inr x) (.str x t)=true:=by simp [Di,Value.isStrOf]
theorem Zt (a b:Int):decide ((Sum.inl a:Key)=Sum.inl b)=(a==b):=by
 by_cases e:a=b
 ·subst e;simp
 ·have h:¬(Sum.inl a:Key)=Sum.inl b:=fun q=>e (Sum.inl.inj q)
  rw [decide_eq_false h];exact (beq_eq_false_iff_ne.mpr e).symm
theorem Zo (a b:Str):decide ((Sum.inr a:Key)=Sum.inr b)=decide (a=b):=by
 by_cases e:a=b
 ·subst e;simp
 ·have h:¬(Sum.inr a:Key)=Sum.inr b:=fun q=>e (Sum.inr.inj q)
  rw [decide_eq_false h,decide_eq_false e]
theorem Zr (a:Int) (b:Str):decide ((Sum.inl a:Key)=Sum.inr b)=false:=decide_eq_false (fun q=>nomatch q)
theorem Zq (a:Str) (b:Int):decide ((Sum.inr a:Key)=Sum.inl b)=false:=decide_eq_false (fun q=>nomatch q)
def gC (prog:Program) (w:World):PySem.KeyKind prog w Key where
 is:=Di
 hash:=ai' w
 inj:=fun v a b ha hb=>by
  rcases fG ha with ⟨i,t,rfl,rfl⟩|⟨x,t,rfl,rfl⟩
  ·rcases fG hb with ⟨j,u,rfl,e⟩|⟨y,u,rfl,e⟩
   ·injection e with e1 _;rw [e1]
   ·exact nomatch e
  ·rcases fG hb with ⟨j,u,rfl,e⟩|⟨y,u,rfl,e⟩
   ·exact nomatch e
   ·injection e with e1 _;rw [e1]
 byValue:=fun k v h=>by
  rcases fG h with ⟨i,t,rfl,rfl⟩|⟨x,t,rfl,rfl⟩<;>rfl
 pyHash:=fun hv h=>by
  rcases fG hv with ⟨i,t,rfl,rfl⟩|⟨x,t,rfl,rfl⟩
  ·exact wpAny_pyHash_int h
  ·exact wpAny_pyHash_str h
 eqBool:=fun hu hv h=>by
  rcases fG hu with ⟨i,t,rfl,rfl⟩|⟨x,t,rfl,rfl⟩
  ·rcases fG hv with ⟨j,u,rfl,rfl⟩|⟨y,u,rfl,rfl⟩
   ·rw [Zt] at h;exact wpAny_eqBool_int h
   ·rw [Zr] at h;exact SeqAt.EqAt.int_str i t y u _ _ _ _ h
  ·rcases fG hv with ⟨j,u,rfl,rfl⟩|⟨y,u,rfl,rfl⟩
   ·rw [Zq] at h;exact SeqAt.EqAt.str_int x t j u _ _ _ _ h
   ·rw [Zo] at h;exact wpAny_eqBool_str h
 «strs» :=fun k x t v h=>by
  rcases fG h with ⟨i,u,rfl,e⟩|⟨y,u,rfl,e⟩
  ·exact nomatch e
  ·injection e with e1 _
   subst e1;cases v<;>rfl
theorem HJ (prog:Program) (w:World) (i:Int) (t:Tok):(gC prog w).is (.inl i) (.int i t)=true:=Og i t
theorem HF (prog:Program) (w:World) (x:Str) (t:Tok):(gC prog w).is (.inr x) (.str x t)=true:=Oe x t
end L2
namespace L2
open PySem PySem.Spec PyProof.Rows
inductive V where
 | non|bl (b:Bool)|int (i:Int)|str (x:Str)|Kz (b:Array UInt8)|flt (b:UInt64)|ref (a:Addr)|ty (n:String)
 deriving DecidableEq
def RelV:V->Value->Prop
 | .non,u=>u=Value.none
 | .bl b,u=>u=Value.bool b
 | .int i,u=>∃t,u=Value.int i t
 | .str x,u=>∃t,u=Value.str x t
 | .Kz b,u=>∃t,u=Value.bytes b t
 | .flt b,u=>∃t,u=Value.float b t
 | .ref a,u=>u=Value.ref a
 | .ty n,u=>u=Value.type n
abbrev Vals:List V->List Value->Prop:=Paired RelV
theorem Vals.length {xs:List V} {us:List Value} (r:Vals xs us):xs.length=us.length:=Paired.length r
theorem Vals.get:∀{xs:List V} {us:List Value} {i:Nat} {x:V},Vals xs us->xs[i]? = some x -> ∃u,us[i]? = some u/\RelV x u
 | _,_,_,_,.nil,e=>by simp at e
 | _,_,0,_,.cons r _,e=>by simp at e;subst e;exact ⟨_,rfl,r⟩
 | _,_,i+1,x,.cons _ t,e=>by
   obtain ⟨u,h1,h2⟩:=Vals.get (i:=i) (x:=x) t (by simpa using e);exact ⟨u,by simpa using h1,h2⟩
theorem Vals.set {x:V} {u:Value} (r:RelV x u):∀{xs:List V} {us:List Value} (i:Nat),Vals xs us->Vals (xs.set i x) (us.set i u)
 | _,_,_,.nil=> .nil
 | _,_,0,.cons _ t=> .cons r t
 | _,_,i+1,.cons q t=> .cons q (Vals.set r i t)
theorem Vals.append {xs ys:List V} {us ws:List Value} (h:Vals xs us) (s:Vals ys ws):Vals (xs++ys) (us++ws):=by
 induction h with
 | nil=>exact s
 | cons r t ih=>exact .cons r ih
theorem Vals.take:∀{xs:List V} {us:List Value} (n:Nat),Vals xs us->Vals (xs.take n) (us.take n)
 | _,_,0,_=> .nil
 | _,_,_+1,.nil=> .nil
 | _,_,n+1,.cons r t=> .cons r (Vals.take n t)
theorem Vals.drop:∀{xs:List V} {us:List Value} (n:Nat),Vals xs us->Vals (xs.drop n) (us.drop n)
 | _,_,0,r=>r
 | _,_,_+1,.nil=> .nil
 | _,_,n+1,.cons _ t=>Vals.drop n t
def nu:Option V->Option Value->Prop
 | some v,some u=>RelV v u
 | none,none=>True
 | _,_=>False
def KV {κ:Type}:List (κ×V)->List (κ×Value)->Prop:=Paired fun (p:κ×V) (q:κ×Value)=>p.1=q.1/\RelV p.2 q.2
def kV:Key->V
 | .inl i=> .int i
 | .inr x=> .str x
inductive HO where
 | lst (xs:List V)
 | tup (xs:List V)
 | dK (kvs:List (Key×V))|dT (kvs:List (List Key×V))
 | set (S:Int->Bool) (n:Nat)
 | ins (C dx:Addr) (fs:List (Str×V))
 | own (x:Addr)
 | xd (fs:List (Str×V))
 | met (f x:Addr)
 | rng (lo hi:Int)
 | Io (o:Obj) (u:HO)
 | Wx (ps:Array Value)
 | ext (φ:Heap->Prop)
abbrev Hp:=Addr->Option HO
def upd (H:Hp) (a:Addr) (o:HO):Hp:=fun b=>if b=a then some o else H b
theorem ak {H:Hp} {a:Addr} {o:HO}:upd H a o a=some o:=by unfold upd;rw [if_pos rfl]
theorem aD {H:Hp} {a b:Addr} {o:HO} (h:b≠a):upd H a o b=H b:=by unfold upd;rw [if_neg h]
theorem Ui {H:Hp} {a:Addr} {o u:HO}:upd (upd H a o) a u=upd H a u:=by
 funext b;unfold upd;split<;>rfl
theorem dX {H:Hp} {a b:Addr} {o u:HO} (h:H a=some o) (h':H b=some u) (d:o≠u):a≠b:=by
 intro e;subst e;rw [h] at h';exact d (Option.some.inj h')
theorem au {H:Hp} {a b:Addr} {o:HO} (h:H a=some o) (h':H b=none):a≠b:=by
 intro e;subst e;rw [h] at h';cases h'
section
variable (P:Program) (w:World)
def dg (H:Hp) (h:Heap) (a:Addr):HO->Prop
 | .lst xs=>xs.length<=sizeLine /\ ∃(its:List Value) (n:Nat),Vals xs its/\h.get? a=some {cls:= .type "list",data:= .seq its.toArray n}
 | .tup xs=>xs.length<=sizeLine /\ ∃its:List Value,Vals xs its/\IsTup h a its.toArray
 | .dK kvs=>kvs.length<=sizeLine/\(a==sysModules)=false /\ ∃vs,KV kvs vs/\h.DictOf (gC P w) a vs
 | .dT kvs=>kvs.length<=sizeLine/\(a==sysModules)=false /\ ∃xs:List (List Key×Addr×Value),
    Paired (fun (p:List Key×V) (q:List Key×Addr×Value)=>p.1=q.1/\H q.2.1=some (.tup (p.1.map kV))/\RelV p.2 q.2.2) kvs xs /\
    ∃o es ep,h.get? a=some o/\o.ExactDict/\o.data = .dict es ep/\es.toList=xs.map (entryOfKey (tupleKind (gC P w)))/\(xs.map (·.1)).Nodup
 | .set S n=>h.SetOf (intKind P w) a S n
 | .ins C dx fs=>H dx=some (.own a)/\fs.length<=1000/\dx≠a/\h.get? a=some (PySem.W.instObj C dx) /\
    ∃mA,h.Ns1 dx mA/\(∀f,nu (fs.lookup f) (mA f))/\PySem.Within mA (fs.map (·.1))
 | .own _=>∃o,h.get? a=some o
 | .xd fs=>∃mA,h.Ns1 a mA /\ ∀f,nu (fs.lookup f) (mA f)
 | .rng lo hi=>∃t u v,h.get? a=some {cls:= .type "range",data:= .fields #[.int lo t,.int hi u,.int 1 v]}
 | .Io o u=>h.get? a=some o/\dg H h a u
 | .Wx ps=>h.get? a=some {cls:= .none,data:= .fields ps}
 | .met f x=>h.get? a=some (PySem.W.methodObj (.ref f) (.ref x))
 | .ext φ=>φ h/\(∃o,h.get? a=some o) /\ ∀h1 h2:Heap,φ h1->(∀o,h1.get? a=some o->h2.get? a=some o)->φ h2
def rN (H:Hp) (h:Heap):Prop:=∀a o,H a=some o->dg P w H h a o
end
section
variable {P:Program} {w:World} {H H':Hp} {h h':Heap} {a:Addr} {o:HO}
theorem dg.lt (x:dg P w H h a o):a<h.objs.size:=by
 cases o with
 | lst xs=>obtain ⟨_,_,_,_,e⟩:=x;exact Heap.lt_size e
 | tup xs=>obtain ⟨_,_,_,p⟩:=x;exact p.lt
 | dK kvs=>obtain ⟨_,_,_,_,o,_,_,e,_⟩:=x;exact Heap.lt_size e
 | dT kvs=>obtain ⟨_,_,_,_,o,_,_,e,_⟩:=x;exact Heap.lt_size e
 | set S n=>obtain ⟨o,_,_,_,e,_⟩:=x;exact Heap.lt_size e
 | ins C dx fs=>obtain ⟨_,_,_,e,_⟩:=x;exact Heap.lt_size e
 | own y=>obtain ⟨_,e⟩:=x;exact Heap.lt_size e
 | xd fs=>obtain ⟨_,⟨_,_,_,e,_⟩,_⟩:=x;exact Heap.lt_size e
 | rng lo hi=>obtain ⟨_,_,_,e⟩:=x;exact Heap.lt_size e
 | Io ob u=>obtain ⟨e,_⟩:=x;exact Heap.lt_size e
 | Wx ps=>exact Heap.lt_size (show h.get? a=some _ from x)
 | met f y=>exact Heap.lt_size (show h.get? a=some _ from x)
 | ext φ=>obtain ⟨_,⟨_,e⟩,_⟩:=x;exact Heap.lt_size e
theorem Paired.abS {α β:Type} {F G:α->β->Prop}:∀{l₁:List α} {l₂:List β},Paired F l₁ l₂->(∀a b,F a b->G a b)->Paired G l₁ l₂
 :=by
 intro l₁ l₂ h f
 induction h with
 | nil=>exact .nil
 | cons r t ih=>exact .cons (f _ _ r) ih
theorem dg.stay (x:dg P w H h a o) (k:∀b u,(b=a\/H b=some (.own a))->h.get? b=some u->h'.get? b=some u)
 (ho:∀b,H b=some (.own a)->H' b=some (.own a)) (ht:∀b xs,H b=some (.tup xs)->H' b=some (.tup xs)):dg P w H' h' a o:=by
 induction o with
 | lst xs=>obtain ⟨z,its,n,r,e⟩:=x;exact ⟨z,its,n,r,k _ _ (.inl rfl) e⟩
 | tup xs=>obtain ⟨z,its,r,ob,e,c⟩:=x;exact ⟨z,its,r,ob,k _ _ (.inl rfl) e,c⟩
 | dK kvs=>obtain ⟨z,y,vs,r,ob,es,ep,e,c⟩:=x;exact ⟨z,y,vs,r,ob,es,ep,k _ _ (.inl rfl) e,c⟩
 | dT kvs=>
   obtain ⟨z,y,xs,r,ob,es,ep,e,c⟩:=x;exact ⟨z,y,xs,Paired.abS r fun p q z=>⟨z.1,ht _ _ z.2.1,z.2.2⟩,ob,es,ep,k _ _ (.inl rfl) e,c⟩
 | set S n=>obtain ⟨ob,es,ep,t,e,c⟩:=x;exact ⟨ob,es,ep,t,k _ _ (.inl rfl) e,c⟩
 | ins C dx fs=>
   obtain ⟨d,z,ne,e,mA,⟨od,es,ep,e2,c⟩,r⟩:=x;exact ⟨ho _ d,z,ne,k _ _ (.inl rfl) e,mA,⟨od,es,ep,k _ _ (.inr d) e2,c⟩,r⟩
 | own y=>obtain ⟨ob,e⟩:=x;exact ⟨ob,k _ _ (.inl rfl) e⟩
 | xd fs=>obtain ⟨mA,⟨od,es,ep,e,c⟩,r⟩:=x;exact ⟨mA,⟨od,es,ep,k _ _ (.inl rfl) e,c⟩,r⟩
 | rng lo hi=>obtain ⟨t,u,v,e⟩:=x;exact ⟨t,u,v,k _ _ (.inl rfl) e⟩
 | Io ob u ih=>obtain ⟨e,q⟩:=x;exact ⟨k _ _ (.inl rfl) e,ih q⟩
 | Wx ps=>
   have e:h.get? a=some {cls:= .none,data:= .fields ps}:=x;show h'.get? a=some {cls:= .none,data:= .fields ps};exact k a _ (.inl rfl) e
 | met f y=>
   have e:h.get? a=some (PySem.W.methodObj (.ref f) (.ref y)):=x;show h'.get? a=some (PySem.W.methodObj (.ref f) (.ref y));exact k a _ (.inl rfl) e
 | ext φ=>obtain ⟨p,⟨o,e⟩,st⟩:=x;exact ⟨st _ _ p fun o q=>k _ _ (.inl rfl) q,⟨o,k _ _ (.inl rfl) e⟩,st⟩
theorem rN.lt (x:rN P w H h) (e:H a=some o):a<h.objs.size:=(x a o e).lt
theorem rN.fresh (x:rN P w H h) (e:h.objs.size<=a):H a=none:=by
 cases q:H a with
 | none=>rfl
 | some u=>exact absurd (Nat.lt_of_lt_of_le (x.lt q) e) (Nat.lt_irrefl _)
theorem rN.kept (x:rN P w H h) (k:∀b u,h.get? b=some u->h'.get? b=some u):rN P w H h':=fun a o e=>
 (x a o e).stay (fun b u _ q=>k b u q) (fun _ q=>q) fun _ _ q=>q
theorem rN.laid (x:rN P w H h) (k:∀b u,h.get? b=some u->h'.get? b=some u) (hp:h.objs.size<=a) (new:dg P w (upd H a o) h' a o):rN P w (upd H a o) h':=fun b u e=>by
 have hn:=x.fresh hp
 by_cases hb:b=a
 ·subst hb;rw [ak] at e;cases e;exact new
 ·rw [aD hb] at e
  exact (x b u e).stay (fun c v _ q=>k c v q) (fun c q=>by rw [aD (au q hn)];exact q) fun c xs q=>by rw [aD (au q hn)];exact q
end
def Rd (H:Hp) (a:Addr) (u:HO):Prop:=H a=some u \/ ∃o,H a=some (.Io o u)
theorem Rd.ok {P:Program} {w:World} {H:Hp} {h:Heap} {a:Addr} {u:HO} (r:Rd H a u) (x:rN P w H h):dg P w H h a u:=by
 rcases r with r|⟨o,r⟩
 ·exact x a u r
 ·obtain ⟨_,q⟩:=x a _ r
  exact q
def Mut:Option HO->Prop
 | some (.lst _)=>True
 | some (.dK _)=>True
 | some (.dT _)=>True
 | some (.set _ _)=>True
 | some (.ins _ _ _)=>True
 | some (.ext _)=>True
 | _=>False
section
variable {P:Program} {w:World} {H:Hp} {h h':Heap} {x e:Addr} {o':HO}
theorem rN.write (ok:rN P w H h) (mu:Mut (H x)) (he:e=x\/H e=some (.own x)) (k:∀b u,b≠e->h.get? b=some u->h'.get? b=some u) (heo:∃u,h'.get? e=some u)
 (new:dg P w (upd H x o') h' x o'):rN P w (upd H x o') h':=fun b u q=>by
 have abL:∀c y,H c=some (.own y)->c≠x:=fun c y r z=>by subst z;rw [r] at mu;exact mu
 have aii:∀c xs,H c=some (.tup xs)->c≠x:=fun c xs r z=>by subst z;rw [r] at mu;exact mu
 by_cases hb:b=x
 ·subst hb;rw [ak] at q;cases q;exact new
 ·rw [aD hb] at q
  by_cases hbe:b=e
  ·have q':H b=some (.own x):=by
    rcases he with z|z
    ·exact absurd (hbe.trans z) hb
    ·rw [hbe];exact z
   rw [q] at q';cases q';obtain ⟨v,hv⟩:=heo;exact ⟨v,by rw [hbe];exact hv⟩
  ·refine (ok b u q).stay (fun c v hc r=>k c v ?_ r) (fun c r=>by rw [aD (abL c b r)];exact r) fun c xs r=>by rw [aD (aii c xs r)];exact r
   rcases hc with rfl|hc
   ·exact hbe
   ·rintro rfl
    rcases he with z|z
    ·exact abL c b hc z
    ·rw [hc] at z;cases z;exact hb rfl
end
structure Un (fs ex:List Addr) (H H':Hp) (h h':Heap):Prop where
 keep:∀b o,h.get? b=some o->H b=none->b∉fs->b∉ex->h'.get? b=some o
 slot:∀b o,h.get? b=some o->H b=none->b∈fs->b∉ex -> ∃sl,h'.get? b=some {o with slots:=sl}
 free:∀b o,h.get? b=some o->H b=none->b∉ex->H' b=none
 there:∀b o,h.get? b=some o->b∉ex -> ∃o',h'.get? b=some o'
 tups:∀b xs,H b=some (.tup xs)->H' b=some (.tup xs)
 vf:∀b o u,H b=some (.Io o u)->H' b=some (.Io o u)
 vR:∀b ps,H b=some (.Wx ps) -> ∃more,H' b=some (.Wx (ps++more))
section
variable {fs fs' ex ex':List Addr} {H H1 H2:Hp} {h h1 h2 h':Heap} {a x e:Addr} {o:HO}
theorem Un.any (u:Un fs ex H H1 h h1) {b:Addr} {ob:Obj} (q:h.get? b=some ob) (n:H b=none) (hx:b∉ex):∃sl,h1.get? b=some {ob with slots:=sl}:=by
 by_cases hb:b∈fs
 ·exact u.slot b ob q n hb hx
 ·exact ⟨ob.slots,u.keep b ob q n hb hx⟩
theorem Un.kept (k:∀b u,h.get? b=some u->h'.get? b=some u):Un fs ex H H h h':=
 ⟨fun b ob q _ _ _=>k b ob q,fun b ob q _ _ _=>⟨ob.slots,k b ob q⟩,fun _ _ _ n _=>n,fun b ob q _=>⟨ob,k b ob q⟩,fun _ _ q=>q,fun _ _ _ q=>q,fun _ ps q=>⟨#[],by rw [q];simp⟩⟩
theorem Un.refl:Un fs ex H H h h:=Un.kept fun _ _ q=>q
theorem Un.laid (k:∀b u,h.get? b=some u->h'.get? b=some u) (hp:h.objs.size<=a) (hn:H a=none):Un fs ex H (upd H a o) h h' where
 keep:=fun b u q _ _ _=>k b u q
 slot:=fun b u q _ _ _=>⟨u.slots,k b u q⟩
 free:=fun b u q n _=>by rw [aD (Nat.ne_of_lt (Nat.lt_of_lt_of_le (Heap.lt_size q) hp))];exact n
 there:=fun b u q _=>⟨u,k b u q⟩
 tups:=fun b xs q=>by rw [aD (au q hn)];exact q
 vf:=fun b u xs q=>by rw [aD (au q hn)];exact q
 vR:=fun b ps q=>⟨#[],by rw [aD (au q hn),q];simp⟩
theorem Un.write (mu:Mut (H x)) (he:e=x\/H e=some (.own x)) (k:∀b u,b≠e->h.get? b=some u->h'.get? b=some u) (heo:∃u,h'.get? e=some u):Un fs ex H (upd H x o) h h':=by
 have hx:∀b,H b=none->b≠x:=fun b n z=>by subst z;rw [n] at mu;exact mu
 have hb:∀b,H b=none->b≠e:=fun b n z=>by
  subst z;rcases he with r|r
  ·exact hx b n r
  ·rw [n] at r;cases r
 have hm:∀b u,H b=some u -> ¬Mut (some u)->b≠x:=fun b u q nm z=>by subst z;rw [q] at mu;exact nm mu
 refine ⟨fun b u q n _ _=>k b u (hb b n) q,fun b u q n _ _=>⟨u.slots,k b u (hb b n) q⟩,fun b u q n _=>by rw [aD (hx b n)];exact n,fun b u q _=> ?_,
  fun b xs q=>by rw [aD (hm b _ q fun z=>z)];exact q,fun b u xs q=>by rw [aD (hm b _ q fun z=>z)];exact q,fun b ps q=>⟨#[],by rw [aD (hm b _ q fun z=>z),q];simp⟩⟩
 by_cases hbe:b=e
 ·subst hbe;exact heo
 ·exact ⟨u,k b u hbe q⟩
end
def TX (h:Heap) (H:Hp):List Addr:=(List.range h.objs.size).filter fun a=>(H a).isSome
def FQ (h:Heap) (H:Hp):Heap:=PySem.W.hideAll h (TX h H)
theorem Om (h:Heap) (H:Hp):(FQ h H).objs.size=h.objs.size:=PySem.W.hideAll_size _ _
theorem RL {h:Heap} {H:Hp} {b:Addr} {o:Obj} (e:h.get? b=some o) (n:H b=none):(FQ h H).get? b=some o:=
 PySem.W.hideAll_get _ e fun hm=>by
  have q:(H b).isSome=true:=(List.mem_filter.mp hm).2;rw [n] at q;simp at q
theorem Vr {h:Heap} {H:Hp} {b:Addr} {o:Obj} (e:(FQ h H).get? b=some o):h.get? b=some o/\H b=none:=by
 have e':h.get? b=some o:=PySem.W.of_hideAll (TX h H) e;refine ⟨e', ?_⟩;cases q:H b with
 | none=>rfl
 | some x=>
   have hm:b∈TX h H:=List.mem_filter.mpr ⟨List.mem_range.mpr (Heap.lt_size e'),by simp [q]⟩;have z:(FQ h H).get? b=none:=PySem.W.hideAll_none (TX h H) hm;rw [z] at e;cases e
def Wf (g h:Heap) (L:Addr):List (Addr×Obj):=(List.range h.objs.size).filterMap fun a=>if a=L\/(g.get? a).isSome=true then none else (h.get? a).map fun o=>(a,o)
def rest (g h:Heap) (L d:Addr):List (Addr×Obj):=(Wf g h L).filter fun p=>decide (p.1≠d)
end L2
namespace L2
open PySem PySem.Spec PyProof.Rows
structure Mod (K:PySem.W.Frag) (mg:Str->Option Value) (base:Heap):Prop where
 RB:K.In base
 glob:base.Ns mainGlobals mg
 blt:∃mb,base.Ns builtinsNs mb /\ ∀x:Str,x ≠ "__name__" -> mb x=bootBuiltins x
 nolimit:base.NoLimit
structure Cx where
 prog:Program
 w:World
 K:PySem.W.Frag
 mg:Str->Option Value
 base:Heap
 A:Around
 N:List Str
 s₀:Shared
 H₀:Hp
 env:Env
 outer:List Env
 stack:List Env
 ex:List Addr
 fn:Str->Bool
 calm:Bool
 pn:List (Addr×Obj)
 xe:Value->Shared->Prop
def frs (l:List Env):List Addr:=l.filterMap (·.frame)
abbrev Cx.fs (X:Cx):List Addr:=frs X.outer
def Vis (sc:Scope) (x:Str):Prop:=sc.names.lookup x=some .local\/sc.names.lookup x=some .cell\/sc.names.lookup x=some .free
def Loc (sc:Scope) (x:Str):Prop:=sc.names.lookup x=some .local\/sc.names.lookup x=some .cell
def Look (env:Env) (h:Heap) (m:Str->Option Value) (x:Str) (u:Value):Prop:=
 (env.kindOf x=some .local/\m x=some u)\/((env.kindOf x=some .cell\/env.kindOf x=some .free) /\ ∃c,env.cells.lookup x=some c/\h.IsCell c (some u))
structure Cx.Ok (X:Cx):Prop where
 mod:Mod X.K X.mg X.base
 kind:X.env.scope.kind = .function
 glob:X.env.globals=mainGlobals
 blt:X.env.builtins=builtinsNs
 above:X.s₀.heap.objs.size<=X.env.locals
 inj:∀x y c,X.env.cells.lookup x=some c->X.env.cells.lookup y=some c->x=y
 has:∀x,(X.env.kindOf x=some .cell\/X.env.kindOf x=some .free) -> ∃c,X.env.cells.lookup x=some c
 cab:∀x c,X.fn x=true->X.env.cells.lookup x=some c->X.s₀.heap.objs.size<=c
 hd:X.calm=true->X.A.handled=none
 frames:X.A.frames=some X.stack
 stk:X.stack=X.outer\/(X.stack=X.env::X.outer/\X.env.frame=some X.env.locals)
 exf:∀b∈X.ex,b≠X.env.locals /\ ∀x c,X.env.cells.lookup x=some c->c≠b
 bs:∀b o,X.base.get? b=some o->X.s₀.heap.get? b=some o/\X.H₀ b=none
 KC:X.base.objs.size<=X.s₀.heap.objs.size
 Fq:∀b o,X.base.get? b=some o->b∉X.ex
 Ir:∀b∈X.ex,b∉X.fs
 pZ:X.s₀.heap.FunFrames X.base X.outer
 Pa:∀b∈X.fs,X.H₀ b=none
structure Inv (X:Cx) (pins:List (Addr×Obj)) (σ:List (Option V)) (H:Hp) (s:Shared):Prop where
 ok:X.Ok
 os:s.os=X.s₀.os
 bare:AllBare s.gens
 base:Un X.fs X.ex X.H₀ H X.s₀.heap s.heap
 loc:∃m,s.heap.Ns X.env.locals m /\ ∀(i:Nat) (x:Str) (v:V),X.N[i]? = some x->σ[i]? = some (some v)->Vis X.env.scope x -> ∃u,RelV v u/\Look X.env s.heap m x u
 cell:∀x c,X.env.cells.lookup x=some c -> ∃v,s.heap.IsCell c v
 free:H X.env.locals=none
 jx:∀x c,X.env.cells.lookup x=some c->H c=none
 pin:∀p∈X.pn++pins,s.heap.get? p.1=some p.2/\H p.1=none/\p.1≠X.env.locals/\p.1∉X.fs /\ ∀v,p.2.data ≠ .cell v
 hok:rN X.prog X.w H s.heap
 len:σ.length=X.N.length
section
variable {X:Cx} {pins:List (Addr×Obj)} {σ:List (Option V)} {H H':Hp} {s:Shared} {h':Heap}
theorem Cx.Ok.aip (ok:X.Ok) {b:Addr} {o:Obj} (e:X.base.get? b=some o):b∉X.fs:=fun hb=>by
 have:=(ok.pZ.mem hb).1;rw [e] at this;cases this
theorem Inv.bs (I:Inv X pins σ H s):∀b o,X.base.get? b=some o->s.heap.get? b=some o/\H b=none:=fun b o e=>
 ⟨I.base.keep b o (I.ok.bs b o e).1 (I.ok.bs b o e).2 (I.ok.aip e) (I.ok.Fq b o e),I.base.free b o (I.ok.bs b o e).1 (I.ok.bs b o e).2 (I.ok.Fq b o e)⟩
theorem Inv.bk (I:Inv X pins σ H s):∀b o,X.base.get? b=some o->s.heap.get? b=some o:=fun b o e=>(I.bs b o e).1
theorem Inv.mod (I:Inv X pins σ H s):Mod X.K X.mg X.base:=I.ok.mod
theorem Inv.nM (I:Inv X pins σ H s):X.K.In s.heap:=I.ok.mod.RB.keeps I.bk
theorem Inv.fr (I:Inv X pins σ H s):∃m,Fr X.base X.env.locals s.heap m:=
 let ⟨m,hn,_⟩:=I.loc
 ⟨m,hn,I.bk,Nat.le_trans I.ok.KC I.ok.above⟩
theorem Inv.lt (I:Inv X pins σ H s):X.env.locals<s.heap.objs.size:=let ⟨_,hn,_⟩:=I.loc;hn.lt
theorem Inv.sz (I:Inv X pins σ H s):X.s₀.heap.objs.size<=s.heap.objs.size:=Nat.le_trans I.ok.above (Nat.le_of_lt I.lt)
theorem Inv.aio (I:Inv X pins σ H s) {a:Addr} (h:s.heap.objs.size<=a):a∉X.fs:=fun hb=>by
 obtain ⟨_,o,ho,_⟩:=I.ok.pZ.mem hb;exact absurd (Nat.lt_of_lt_of_le (Heap.lt_size ho) (Nat.le_trans I.sz h)) (Nat.lt_irrefl _)
theorem Inv.Xn (I:Inv X pins σ H s):∀x c,X.env.cells.lookup x=some c->c≠X.env.locals:=fun x c e z=>by
 obtain ⟨v,o,ho,hd⟩:=I.cell x c e;obtain ⟨m,⟨o',es,ep,ho',hd',_⟩,_⟩:=I.loc;rw [z,ho'] at ho;cases ho;rw [hd'] at hd;cases hd
theorem Inv.pZ (I:Inv X pins σ H s):s.heap.FunFrames X.base X.outer:=by
 have all:∀(l:List Env),(∀b∈frs l,b∈X.fs)->X.s₀.heap.FunFrames X.base l->s.heap.FunFrames X.base l:=by
  intro l
  induction l with
  | nil=>intro _ _;trivial
  | cons env r ih=>
    intro hs hl;obtain ⟨hk,⟨L,o,hf,hn,ho,hd⟩,hr⟩:=hl;have hL:L∈X.fs:=hs L (by unfold frs;rw [List.filterMap_cons,hf];exact List.mem_cons_self);obtain ⟨sl,e⟩:=I.base.slot L o ho (I.ok.Pa L hL) hL fun z=>I.ok.Ir L z hL;exact ⟨hk,⟨L,_,hf,hn,e,hd⟩,ih (fun b hb=>hs b (by unfold frs;rw [List.filterMap_cons,hf];exact List.mem_cons_of_mem _ hb)) hr⟩
 exact all X.outer (fun _ hb=>hb) I.ok.pZ
theorem Inv.stack (I:Inv X pins σ H s):s.heap.FunFrames X.base X.stack:=by
 rcases I.ok.stk with e|⟨e,hf⟩
 ·rw [e];exact I.pZ
 ·rw [e]
  obtain ⟨m,hn,_⟩:=I.loc;refine .cons (by rw [I.ok.kind];decide) hf hn ?_ I.pZ;exact Heap.get?_none_of_le (Nat.le_trans I.ok.KC I.ok.above)
theorem Inv.zE (I:Inv X pins σ H s):∀b∈frs X.stack,b∈X.env.locals::X.fs:=fun b hb=>by
 rcases I.ok.stk with e|⟨e,hf⟩
 ·rw [e] at hb;exact List.mem_cons_of_mem _ hb
 ·rw [e] at hb
  unfold frs at hb;rw [List.filterMap_cons,hf] at hb;exact hb
theorem Inv.Ej (I:Inv X pins σ H s):∀b∈frs X.stack,H b=none:=fun b hb=>by
 rcases List.mem_cons.mp (I.zE b hb) with e|hb
 ·rw [e];exact I.free
 ·obtain ⟨_,o,ho,_⟩:=I.ok.pZ.mem hb
  exact I.base.free b o ho (I.ok.Pa b hb) fun z=>I.ok.Ir b z hb
theorem Inv.step {g':Array GenState} {t':Nat} {d':Drawn} {ch:List Addr} (I:Inv X pins σ H s)
 (hch:∀b∈ch,(b∈X.ex\/X.s₀.heap.objs.size<=b)/\b≠X.env.locals/\(∀x c,X.env.cells.lookup x=some c->c≠b) /\ ∀p∈X.pn++pins,p.1≠b)
 (keep:∀b o,b≠X.env.locals->b∉X.fs->b∉ch->s.heap.get? b=some o->H b=none->h'.get? b=some o)
 (slot:∀b o,b≠X.env.locals->b∈X.fs->b∉ch->s.heap.get? b=some o->H b=none -> ∃sl,h'.get? b=some {o with slots:=sl}) (free:∀b o,b∉ch->s.heap.get? b=some o->H b=none->H' b=none)
 (there:∀b o,b∉ch->s.heap.get? b=some o -> ∃o',h'.get? b=some o')
 (tups:∀b xs,H b=some (.tup xs)->H' b=some (.tup xs)) (vf:∀b o u,H b=some (.Io o u)->H' b=some (.Io o u)) (vR:∀b ps,H b=some (.Wx ps) -> ∃more,H' b=some (.Wx (ps++more)))
 (ns:∀m,s.heap.Ns X.env.locals m->h'.Ns X.env.locals m) (hok:rN X.prog X.w H' h') (hg:AllBare g'):
 Inv X pins σ H' {s with heap:=h',gens:=g',drawn:=d',toks:=t'}:=by
 have W6:∀b o,X.s₀.heap.get? b=some o->b≠X.env.locals:=fun b o e=>Nat.ne_of_lt (Nat.lt_of_lt_of_le (Heap.lt_size e) I.ok.above)
 have neC:∀b o,X.s₀.heap.get? b=some o->b∉X.ex->b∉ch:=fun b o e hx hb=>by
  rcases (hch b hb).1 with z|z
  ·exact hx z
  ·exact absurd (Nat.lt_of_lt_of_le (Heap.lt_size e) z) (Nat.lt_irrefl _)
 have cellK:∀x c,X.env.cells.lookup x=some c -> ∀v,s.heap.IsCell c v->h'.IsCell c v:=fun x c e v ⟨o,ho,hd⟩=>by
  have nch:c∉ch:=fun z=>(hch c z).2.2.1 x c e rfl
  by_cases hc:c∈X.fs
  ·obtain ⟨sl,q⟩:=slot c o (I.Xn x c e) hc nch ho (I.jx x c e)
   exact ⟨_,q,hd⟩
  ·exact ⟨o,keep c o (I.Xn x c e) hc nch ho (I.jx x c e),hd⟩
 refine ⟨I.ok,I.os,hg,⟨fun b o e n hb hx=> ?_,fun b o e n hb hx=> ?_,fun b o e n hx=> ?_,fun b o e hx=> ?_,fun b xs e=>tups b xs (I.base.tups b xs e),fun b o xs e=>vf b o xs (I.base.vf b o xs e),fun b ps e=> ?_⟩, ?_,fun x c e=> ?_, ?_,fun x c e=> ?_,fun p hp=> ?_,hok,I.len⟩
 ·exact keep b o (W6 b o e) hb (neC b o e hx) (I.base.keep b o e n hb hx) (I.base.free b o e n hx)
 ·obtain ⟨sl,e1⟩:=I.base.slot b o e n hb hx
  obtain ⟨sl',e2⟩:=slot b _ (W6 b o e) hb (neC b o e hx) e1 (I.base.free b o e n hx);exact ⟨sl',e2⟩
 ·obtain ⟨o',e1⟩:=I.base.there b o e hx
  exact free b o' (neC b o e hx) e1 (I.base.free b o e n hx)
 ·obtain ⟨o',e1⟩:=I.base.there b o e hx
  exact there b o' (neC b o e hx) e1
 ·obtain ⟨m1,e1⟩:=I.base.vR b ps e
  obtain ⟨m2,e2⟩:=vR b _ e1;exact ⟨m1++m2,by rw [e2,Array.append_assoc]⟩
 ·obtain ⟨m,hn,hl⟩:=I.loc
  refine ⟨m,ns m hn,fun i x v e1 e2 e3=> ?_⟩;obtain ⟨u,r,l⟩:=hl i x v e1 e2 e3;refine ⟨u,r, ?_⟩;rcases l with l|⟨k,c,e,z⟩
  ·exact .inl l
  ·exact .inr ⟨k,c,e,cellK x c e _ z⟩
 ·obtain ⟨v,z⟩:=I.cell x c e
  exact ⟨v,cellK x c e v z⟩
 ·obtain ⟨m,⟨o,_,_,ho,_⟩,_⟩:=I.loc
  exact free _ o (fun z=>(hch _ z).2.1 rfl) ho I.free
 ·obtain ⟨v,o,ho,hd⟩:=I.cell x c e
  exact free c o (fun z=>(hch c z).2.2.1 x c e rfl) ho (I.jx x c e)
 ·obtain ⟨e,n,ne,nf,d⟩:=I.pin p hp
  have nch:p.1∉ch:=fun z=>(hch p.1 z).2.2.2 p hp rfl;exact ⟨keep p.1 p.2 ne nf nch e n,free p.1 p.2 nch e n,ne,nf,d⟩
theorem Inv.un {t':Nat} (I:Inv X pins σ H s) (u:Un X.fs [] H H' s.heap h') (hok:rN X.prog X.w H' h'):Inv X pins σ H' {s with heap:=h',toks:=t'}:=by
 obtain ⟨m,⟨o,es,ep,ho,r⟩,_⟩:=id I.loc;obtain ⟨sl,hL⟩:=u.any ho I.free (by simp)
 exact I.step (g':=s.gens) (d':=s.drawn) (ch:=[]) (fun _ z=>nomatch z) (fun b o _ hb _ e n=>u.keep b o e n hb (by simp)) (fun b o _ hb _ e n=>u.slot b o e n hb (by simp)) (fun b o _ e n=>u.free b o e n (by simp)) (fun b o _ e=>u.there b o e (by simp)) u.tups u.vf u.vR (fun m' hm=>by
  obtain ⟨o',es',ep',ho',r'⟩:=hm;rw [ho] at ho';cases ho';exact ⟨_,es',ep',hL,r'⟩) hok I.bare
theorem Inv.call {g':Array GenState} {t':Nat} {d':Drawn} {ch:List Addr} (I:Inv X pins σ H s) (u:Un (frs X.stack) ch H H' s.heap h') (hok:rN X.prog X.w H' h') (hg:AllBare g')
 (hch:∀b∈ch,(b∈X.ex\/X.s₀.heap.objs.size<=b)/\b≠X.env.locals/\(∀x c,X.env.cells.lookup x=some c->c≠b) /\ ∀p∈X.pn++pins,p.1≠b):
 Inv X pins σ H' {s with heap:=h',gens:=g',drawn:=d',toks:=t'}:=by
 obtain ⟨m,⟨o,es,ep,ho,r⟩,_⟩:=id I.loc;obtain ⟨sl,hL⟩:=u.any ho I.free fun z=>(hch _ z).2.1 rfl
 exact I.step (ch:=ch) hch (fun b o hL hb hc e n=>u.keep b o e n (fun z=>(List.mem_cons.mp (I.zE b z)).elim hL hb) hc) (fun b o _ _ hc e n=>u.any e n hc) (fun b o hc e n=>u.free b o e n hc) (fun b o hc e=>u.there b o e hc) u.tups u.vf u.vR (fun m' hm=>by
  obtain ⟨o',es',ep',ho',r'⟩:=hm;rw [ho] at ho';cases ho';exact ⟨_,es',ep',hL,r'⟩) hok hg
theorem Inv.turned {t':Nat} {it:Addr} (I:Inv X pins σ H s) (k:∀b o,b≠it->s.heap.get? b=some o->h'.get? b=some o) (hn:H it=none) (hL:it≠X.env.locals)
 (h1:it∈X.ex\/X.s₀.heap.objs.size<=it) (h2:∀x c,X.env.cells.lookup x=some c->c≠it) (h3:∀p∈X.pn++pins,p.1≠it):Inv X pins σ H {s with heap:=h',toks:=t'}:=by
 have nit:∀b u,H b=some u->b≠it:=fun b u e z=>by rw [z,hn] at e;cases e
 refine I.step (g':=s.gens) (d':=s.drawn) (ch:=[it]) (fun b hb=> ?_) (fun b o _ _ hc e _=>k b o (fun z=>hc (by simp [z])) e) (fun b o _ _ hc e _=>⟨o.slots,k b o (fun z=>hc (by simp [z])) e⟩) (fun _ _ _ _ n=>n)
  (fun b o hc e=>⟨o,k b o (fun z=>hc (by simp [z])) e⟩) (fun _ _ e=>e) (fun _ _ _ e=>e) (fun b ps e=>⟨#[],by rw [e];simp⟩) (fun m hm=> ?_) (fun b u e=> ?_) I.bare
 ·have e:b=it:=by simpa using hb
  subst e;exact ⟨h1,hL,h2,h3⟩
 ·obtain ⟨o,es,ep,ho,r⟩:=hm
  exact ⟨o,es,ep,k _ o (Ne.symm hL) ho,r⟩
 ·refine (I.hok b u e).stay (fun c v hc q=>k c v ?_ q) (fun _ q=>q) fun _ _ q=>q
  rcases hc with z|z
  ·rw [z];exact nit b u e
  ·exact nit c _ z
theorem Inv.tok (I:Inv X pins σ H s) (t:Nat):Inv X pins σ H {s with toks:=t}:=I.un (h':=s.heap) (t':=t) Un.refl I.hok
theorem Inv.kept {t':Nat} (I:Inv X pins σ H s) (k:∀b u,s.heap.get? b=some u->h'.get? b=some u):Inv X pins σ H {s with heap:=h',toks:=t'}:=I.un (Un.kept k) (I.hok.kept k)
theorem Inv.laid {a:Addr} {o:HO} {t':Nat} (I:Inv X pins σ H s) (k:∀b u,s.heap.get? b=some u->h'.get? b=some u) (hp:s.heap.objs.size<=a) (new:dg X.prog X.w (upd H a o) h' a o):
 Inv X pins σ (upd H a o) {s with heap:=h',toks:=t'}:=I.un (Un.laid k hp (I.hok.fresh hp)) (I.hok.laid k hp new)
theorem Inv.write {x e:Addr} {o:HO} {t':Nat} (I:Inv X pins σ H s) (mu:Mut (H x)) (he:e=x\/H e=some (.own x)) (k:∀b u,b≠e->s.heap.get? b=some u->h'.get? b=some u) (heo:∃u,h'.get? e=some u)
 (new:dg X.prog X.w (upd H x o) h' x o):Inv X pins σ (upd H x o) {s with heap:=h',toks:=t'}:=I.un (Un.write mu he k heo) (I.hok.write mu he k heo new)
theorem Inv.Lq {pQ:List (Addr×Obj)} (I:Inv X pins σ H s) (h:∀p∈pQ,s.heap.get? p.1=some p.2/\H p.1=none/\p.1≠X.env.locals/\p.1∉X.fs /\ ∀v,p.2.data ≠ .cell v):Inv X pQ σ H s:=
 ⟨I.ok,I.os,I.bare,I.base,I.loc,I.cell,I.free,I.jx,fun p hp=>(List.mem_append.mp hp).elim (fun z=>I.pin p (List.mem_append_left _ z)) (h p),I.hok,I.len⟩
theorem Ae {N:List Str} (hN:N.Nodup) {i j:Nat} {x:Str} (a:N[i]? = some x) (b:N[j]? = some x):i=j:=by
 obtain ⟨h1,e1⟩:=List.getElem?_eq_some_iff.mp a;obtain ⟨h2,e2⟩:=List.getElem?_eq_some_iff.mp b;exact (List.getElem_inj hN).mp (e1.trans e2.symm)
theorem Cz {M:Model} {A:Around} {E:Value->Shared->Prop} {i:Nat} {x:Str} {v:V} {u:Value} {Q:Unit->Shared->Prop} (I:Inv X pins σ H s) (hN:X.N.Nodup) (hi:X.N[i]? = some x) (hx:Loc X.env.scope x) (r:RelV v u)
 (h:∀s',Inv X pins (σ.set i (some v)) H s'->(∃a,Heap.SameBut a s.heap s'.heap/\(a=X.env.locals\/X.env.cells.lookup x=some a))->Q () s') (hf:X.fn x=true\/X.env.scope.names.lookup x=some .local:=by first |exact .inl rfl|exact .inr rfl|assumption):wpAny M A (storeName X.env x u) Q E s:=by
 obtain ⟨m,hn,hl⟩:=id I.loc;have hcls:(X.env.scope.kind == .class||(X.env.scope.kind == .module&&X.env.locals != X.env.globals))=false:=by rw [I.ok.kind];rfl
 have anx:i<σ.length:=by rw [I.len];exact (List.getElem?_eq_some_iff.mp hi).1
 have Xn:=I.Xn
 have tracked:∀{a:Addr} {h':Heap},(∃o,s.heap.get? a=some o/\H a=none)->Heap.SameBut a s.heap h'->rN X.prog X.w H h':=fun {a h'} ha hs b ob e=>by
  obtain ⟨_,_,hfree⟩:=ha;refine (I.hok b ob e).stay (fun c w' hc q=>(hs.2 c ?_).trans q) (fun _ q=>q) fun _ _ q=>q;rintro rfl;rcases hc with rfl|hc
  ·rw [hfree] at e;cases e
  ·rw [hfree] at hc;cases hc
 rcases hx with hk|hk
 ·refine wpAny_storeName_local hk hn (fun h' hn' hs=> ?_) hcls
  obtain ⟨oL,_,_,hoL,_⟩:=id hn;refine h _ ⟨I.ok,I.os,I.bare,⟨fun b o e n hb hx=> ?_,fun b o e n hb hx=> ?_,I.base.free,fun b o e hx=> ?_,I.base.tups,I.base.vf,I.base.vR⟩,⟨_,hn',fun j y v' e1 e2 e3=> ?_⟩,fun y c e=> ?_,I.free,I.jx,fun p hp=> ?_,tracked ⟨oL,hoL,I.free⟩ hs,by simpa using I.len⟩ ⟨_,hs,.inl rfl⟩
  ·exact (hs.2 b (Nat.ne_of_lt (Nat.lt_of_lt_of_le (Heap.lt_size e) I.ok.above))).trans (I.base.keep b o e n hb hx)
  ·obtain ⟨sl,e1⟩:=I.base.slot b o e n hb hx
   exact ⟨sl,(hs.2 b (Nat.ne_of_lt (Nat.lt_of_lt_of_le (Heap.lt_size e) I.ok.above))).trans e1⟩
  ·obtain ⟨o',e1⟩:=I.base.there b o e hx
   exact ⟨o',(hs.2 b (Nat.ne_of_lt (Nat.lt_of_lt_of_le (Heap.lt_size e) I.ok.above))).trans e1⟩
  ·by_cases hj:j=i
   ·subst hj
    rw [hi] at e1;cases e1;rw [List.getElem?_set_self anx] at e2;cases e2;exact ⟨u,r,.inl ⟨hk,by simp⟩⟩
   ·rw [List.getElem?_set_ne (Ne.symm hj)] at e2
    obtain ⟨u',r',q⟩:=hl j y v' e1 e2 e3;refine ⟨u',r', ?_⟩;rcases q with ⟨k,e⟩|⟨k,c,e,z⟩
    ·refine .inl ⟨k, ?_⟩
     have:y≠x:=fun e=>hj (Ae hN e1 (e▸hi));simp [this,e]
    ·exact .inr ⟨k,c,e,z.sameBut hs (Xn y c e)⟩
  ·obtain ⟨w',z⟩:=I.cell y c e
   exact ⟨w',z.sameBut hs (Xn y c e)⟩
  ·obtain ⟨e,n,ne,nf,d⟩:=I.pin p hp
   exact ⟨(hs.2 p.1 ne).trans e,n,ne,nf,d⟩
 ·have hfn:X.fn x=true:=by
   rcases hf with z|z
   ·exact z
   ·rw [z] at hk;cases hk
  obtain ⟨c,hc⟩:=I.ok.has x (.inl hk);obtain ⟨w',z⟩:=I.cell x c hc;refine wpAny_storeName_cell I.ok.kind hk hc z (fun h' hc' hs=> ?_);obtain ⟨oc,hoc,ajQ⟩:=id z;refine h {s with heap:=h'} ⟨I.ok,I.os,I.bare,⟨fun b o e n hb hx=> ?_,fun b o e n hb hx=> ?_,I.base.free,fun b o e hx=> ?_,I.base.tups,I.base.vf,I.base.vR⟩,⟨m,hn.sameBut hs (Ne.symm (Xn x c hc)),fun j y v' e1 e2 e3=> ?_⟩,fun y c' e=> ?_,I.free,I.jx,fun p hp=> ?_,tracked ⟨oc,hoc,I.jx x c hc⟩ hs,by simpa using I.len⟩ ⟨c,hs,.inr hc⟩
  ·exact (hs.2 b (Nat.ne_of_lt (Nat.lt_of_lt_of_le (Heap.lt_size e) (I.ok.cab x c hfn hc)))).trans (I.base.keep b o e n hb hx)
  ·obtain ⟨sl,e1⟩:=I.base.slot b o e n hb hx
   exact ⟨sl,(hs.2 b (Nat.ne_of_lt (Nat.lt_of_lt_of_le (Heap.lt_size e) (I.ok.cab x c hfn hc)))).trans e1⟩
  ·obtain ⟨o',e1⟩:=I.base.there b o e hx
   exact ⟨o',(hs.2 b (Nat.ne_of_lt (Nat.lt_of_lt_of_le (Heap.lt_size e) (I.ok.cab x c hfn hc)))).trans e1⟩
  ·by_cases hj:j=i
   ·subst hj
    rw [hi] at e1;cases e1;rw [List.getElem?_set_self anx] at e2;cases e2;exact ⟨u,r,.inr ⟨.inl hk,c,hc,hc'⟩⟩
   ·rw [List.getElem?_set_ne (Ne.symm hj)] at e2
    obtain ⟨u',r',q⟩:=hl j y v' e1 e2 e3;refine ⟨u',r', ?_⟩;rcases q with q|⟨k,c',e,z'⟩
    ·exact .inl q
    ·refine .inr ⟨k,c',e,z'.sameBut hs ?_⟩
     rintro rfl;exact hj (Ae hN e1 (I.ok.inj _ _ _ e hc▸hi))
  ·by_cases hcc:c'=c
   ·subst hcc;exact ⟨_,hc'⟩
   ·obtain ⟨w2,z2⟩:=I.cell y c' e
    exact ⟨w2,z2.sameBut hs hcc⟩
  ·obtain ⟨e,n,ne,nf,d⟩:=I.pin p hp
   refine ⟨(hs.2 p.1 ?_).trans e,n,ne,nf,d⟩;intro q;rw [q,hoc] at e;have q':oc=p.2:=Option.some.inj e;exact d w' (by rw [←q'];exact ajQ)
theorem uD {M:Model} {A:Around} {E:Value->Shared->Prop} {i:Nat} {x:Str} {v:V} {u:Value} {Q:Unit->Shared->Prop} (I:Inv X pins σ H s) (hN:X.N.Nodup) (hi:X.N[i]? = some x) (hx:Loc X.env.scope x) (r:RelV v u)
 (h:∀s',Inv X pins (σ.set i (some v)) H s'->Q () s') (hf:X.fn x=true\/X.env.scope.names.lookup x=some .local:=by first |exact .inl rfl|exact .inr rfl|assumption):wpAny M A (storeName X.env x u) Q E s:=
 Cz I hN hi hx r (fun s' I' _=>h s' I') hf
theorem Inv.call' {s':Shared} {ch:List Addr} (I:Inv X pins σ H s) (ho:s'.os=s.os) (u:Un (frs X.stack) ch H H' s.heap s'.heap) (hok:rN X.prog X.w H' s'.heap) (hg:AllBare s'.gens)
 (hch:∀b∈ch,(b∈X.ex\/X.s₀.heap.objs.size<=b)/\b≠X.env.locals/\(∀x c,X.env.cells.lookup x=some c->c≠b) /\ ∀p∈X.pn++pins,p.1≠b):Inv X pins σ H' s':=by
 obtain ⟨h',g',d',t',o'⟩:=s';have e:o'=s.os:=ho;subst e;exact I.call (g':=g') (t':=t') (d':=d') u hok hg hch
end
abbrev XK:=Value->Option Addr->Hp->Prop
abbrev St:=List (Option V)
abbrev VK:=V->Hp->Prop
abbrev TE:=St->Hp->VK->Prop
abbrev TT:=St->Hp->(Bool->Hp->Prop)->Prop
abbrev TA:=St->Hp->(List V->Hp->Prop)->Prop
structure Ends where
 nx:St->Hp->Prop
 rt:VK
 bk:St->Hp->Prop:=fun _ _=>False
 ct:St->Hp->Prop:=fun _ _=>False
abbrev TS:=Ends->St->Hp->Prop
def EP (X:Cx) (pins:List (Addr×Obj)) (σ:St) (Q:VK) (u:Value) (s':Shared):Prop:=∃v H',Inv X pins σ H' s'/\RelV v u/\Q v H'
def TP (X:Cx) (pins:List (Addr×Obj)) (σ:St) (Q:Bool->Hp->Prop) (b:Bool) (s':Shared):Prop:=∃H',Inv X pins σ H' s'/\Q b H'
def AP (X:Cx) (pins:List (Addr×Obj)) (σ:St) (Q:List V->Hp->Prop) (us:List Value) (s':Shared):Prop:=∃vs H',Inv X pins σ H' s'/\Vals vs us/\Q vs H'
def SP (X:Cx) (pins:List (Addr×Obj)) (D:Ends) (f:Flow) (s':Shared):Prop:=
 match f with
 | .next=>∃σ' H',Inv X pins σ' H' s'/\D.nx σ' H'
 | .brk=>∃σ' H',Inv X pins σ' H' s'/\D.bk σ' H'
 | .cont=>∃σ' H',Inv X pins σ' H' s'/\D.ct σ' H'
 | .ret u=>∃v σ' H',Inv X pins σ' H' s'/\RelV v u/\D.rt v H'
def PE (X:Cx) (e:Expr) (t:TE):Prop:=
 ∀(pins:List (Addr×Obj)) (s:Shared) (σ:St) (H:Hp) (Q:VK),Inv X pins σ H s->t σ H Q->wpAny (model X.prog X.w) X.A (eval e X.env) (EP X pins σ Q) X.xe s
def PT (X:Cx) (e:Expr) (t:TT):Prop:=
 ∀(pins:List (Addr×Obj)) (s:Shared) (σ:St) (H:Hp) (Q:Bool->Hp->Prop),Inv X pins σ H s->t σ H Q->wpAny (model X.prog X.w) X.A (isTrue e X.env (eval e X.env)) (TP X pins σ Q) X.xe s
def PW (X:Cx) (e:Expr) (t:TT):Prop:=
 ∀(whole:Sem Value) (pins:List (Addr×Obj)) (s:Shared) (σ:St) (H:Hp) (Q:Bool->Hp->Prop),Inv X pins σ H s->t σ H Q->wpAny (model X.prog X.w) X.A (isTrue e X.env whole) (TP X pins σ Q) X.xe s
theorem PW.pt {X:Cx} {e:Expr} {t:TT} (h:PW X e t):PT X e t:=h _
def PA (X:Cx) (es:List Expr) (t:TA):Prop:=
 ∀(pos:Pos) (pins:List (Addr×Obj)) (s:Shared) (σ:St) (H:Hp) (Q:List V->Hp->Prop),Inv X pins σ H s->t σ H Q->wpAny (model X.prog X.w) X.A (spliced (backTo pos (starEach es X.env))) (AP X pins σ Q) X.xe s
def PS (X:Cx) (st:Stmt) (t:TS):Prop:=
 ∀(pins:List (Addr×Obj)) (s:Shared) (σ:St) (H:Hp) (D:Ends),Inv X pins σ H s->t D σ H->wpAny (model X.prog X.w) X.A (exec st X.env) (SP X pins D) X.xe s
def Jp (X:Cx) (st:List Stmt) (t:TS):Prop:=
 ∀(pins:List (Addr×Obj)) (s:Shared) (σ:St) (H:Hp) (D:Ends),Inv X pins σ H s->t D σ H->wpAny (model X.prog X.w) X.A (execs st X.env) (SP X pins D) X.xe s
theorem dN {α:Type} {t:Sem α} {Q Q':α->Shared->Prop} {M:Model} {A:Around} {E:Value->Shared->Prop} {s:Shared} (h:wpAny M A t Q E s) (hQ:∀a s,Q a s->Q' a s):wpAny M A t Q' E s:=wpAny_mono h hQ fun _ _ x=>x
end L2
namespace L2
open PySem PySem.Spec PyProof.Rows
section
variable {X:Cx}
def aa7 (i:Nat):TE:=fun σ H Q=>∃v,σ[i]? = some (some v)/\Q v H
def tC (v:V):TE:=fun _ H Q=>Q v H
theorem YT {i:Nat} {x:Str} {pos:Pos} (hN:X.N[i]? = some x) (hv:Vis X.env.scope x) (hd:(x==("__debug__" :Str))=false:=by decide) (hcd:(x==("__classdict__" :Str))=false:=by decide):PE X (.Name x pos) (aa7 i):=by
 intro pins s σ H Q I h;obtain ⟨v,e,h⟩:=h;obtain ⟨m,hn,hl⟩:=I.loc;obtain ⟨u,r,l⟩:=hl i x v hN e hv;have fin:EP X pins σ Q u s:=⟨v,H,I,r,h⟩;rcases l with ⟨hk,hm⟩|⟨hk,c,hc,hcell⟩
 ·exact wpAny_Name (wpAny_loadName_local I.ok.kind hk hn hm fin) hd
 ·rcases hk with hk|hk
  ·exact wpAny_Name (wpAny_loadName_cell I.ok.kind hk hc hcell fin) hd
  ·exact wpAny_Name (wpAny_loadName_free I.ok.kind hk hc hcell fin hcd) hd
theorem aG {i j pos}:PE X (.Constant (.int i) j pos) (tC (.int i)):=fun _ _ _ H _ I h=>wpAny_Constant_int ⟨.int i,H,I.tok _,⟨_,rfl⟩,h⟩
theorem wZ {b j pos}:PE X (.Constant (.bool b) j pos) (tC (.bl b)):=fun _ _ _ H _ I h=>Constant_bool ⟨.bl b,H,I,rfl,h⟩
theorem iZ {j pos}:PE X (.Constant .none j pos) (tC .non):=fun _ _ _ H _ I h=>Constant_none ⟨.non,H,I,rfl,h⟩
theorem cV {x j pos}:PE X (.Constant (.str x) j pos) (tC (.str x)):=fun _ _ _ H _ I h=>Calls.Constant_str ⟨.str x,H,I.tok _,⟨_,rfl⟩,h⟩
def Gl (X:Cx) (x:Str):Prop:=X.env.kindOf x=some .globalImplicit
theorem mO {E:Value->Shared->Prop} {pins:List (Addr×Obj)} {s:Shared} {σ:St} {H:Hp} {x:Str} {u:Value} {pos:Pos} {Q:Value->Shared->Prop} (I:Inv X pins σ H s) (hg:Gl X x) (hm:X.mg x=some u) (h:Q u s)
 (hd:(x==("__debug__" :Str))=false:=by decide):wpAny (model X.prog X.w) X.A (eval (.Name x pos) X.env) Q E s:=
 Calls.Name_function_global I.ok.kind hg (Calls.loadGlobal_global (by rw [I.ok.glob];exact I.mod.glob.keeps I.bk) hm h) hd
theorem tW {E:Value->Shared->Prop} {pins:List (Addr×Obj)} {s:Shared} {σ:St} {H:Hp} {x:Str} {u:Value} {pos:Pos} {Q:Value->Shared->Prop} (I:Inv X pins σ H s) (hg:Gl X x) (hm:X.mg x=none) (hv:bootBuiltins x=some u) (h:Q u s)
 (hn:x ≠ "__name__" :=by decide) (hd:(x==("__debug__" :Str))=false:=by decide):wpAny (model X.prog X.w) X.A (eval (.Name x pos) X.env) Q E s:=by
 obtain ⟨mb,h1,h2⟩:=I.mod.blt;exact Calls.Name_function_global I.ok.kind hg (Calls.loadGlobal_builtin (by rw [I.ok.glob];exact I.mod.glob.keeps I.bk) hm (by rw [I.ok.blt];exact h1.keeps I.bk) ((h2 x hn).trans hv) h) hd
theorem gP {x:Str} {v:V} {u:Value} {pos:Pos} (hg:Gl X x) (hm:X.mg x=some u) (r:RelV v u) (hd:(x==("__debug__" :Str))=false:=by decide):PE X (.Name x pos) (tC v):=
 fun _ _ _ H _ I h=>mO I hg hm ⟨v,H,I,r,h⟩ hd
theorem fD {x:Str} {v:V} {u:Value} {pos:Pos} (hg:Gl X x) (hm:X.mg x=none) (hv:bootBuiltins x=some u) (r:RelV v u) (hn:x ≠ "__name__" :=by decide) (hd:(x==("__debug__" :Str))=false:=by decide):PE X (.Name x pos) (tC v):=
 fun _ _ _ H _ I h=>tW I hg hm hv ⟨v,H,I,r,h⟩ hn hd
variable {a b:Expr} {ta tb:TE} {pos:Pos}
def tB (t:TE):TT:=fun σ H Q=>t σ H fun x H1=>∃c,x = .bl c/\Q c H1
theorem dI {e:Expr} {t:TE} (h:PE X e t) (he:∀whole,isTrue e X.env whole=(do let v ←whole;standAt e.pos;holding [v] (truthy v)):=by intro _;rfl):PT X e (tB t):=by
 intro pins s σ H Q I hw;refine isTrue_plain (dN (h pins s σ H _ I hw) fun v s1 ⟨x,H1,I1,r1,q1⟩=> ?_) (he _);obtain ⟨d,rfl,q⟩:=q1;cases r1;exact wpAny_truthy_bool ⟨H1,I1,q⟩
variable {tA tB':TT} {rest:List Expr}
def afJ (t u:TT):TT:=fun σ H Q=>t σ H fun c H1=>if c=true then u σ H1 Q else Q false H1
def tOr (t u:TT):TT:=fun σ H Q=>t σ H fun c H1=>if c=true then Q true H1 else u σ H1 Q
def afC (t:TT):TT:=fun σ H Q=>t σ H fun c H1=>Q (!c) H1
theorem yq (ha:PT X a tA):PW X (.BoolOp .And [a] pos) tA:=by
 intro wh pins s σ H Q I h;refine isTrue_and (dN (ha pins s σ H Q I h) fun c s1 e=> ?_);cases c with
 | true=>exact isTrue_and_nil e
 | false=>exact e
theorem lQ (ha:PT X a tA):PW X (.BoolOp .Or [a] pos) tA:=by
 intro wh pins s σ H Q I h;refine isTrue_or (dN (ha pins s σ H Q I h) fun c s1 e=> ?_);cases c with
 | false=>exact isTrue_or_nil e
 | true=>exact e
theorem zV (ha:PT X a tA) (hb:PW X (.BoolOp .And (b::rest) pos) tB'):PW X (.BoolOp .And (a::b::rest) pos) (afJ tA tB'):=by
 intro wh pins s σ H Q I h;refine isTrue_and (dN (ha pins s σ H _ I h) fun c s1 ⟨H1,I1,q1⟩=> ?_);cases c with
 | true=>exact hb wh pins s1 σ H1 Q I1 q1
 | false=>exact ⟨H1,I1,q1⟩
theorem pP (ha:PT X a tA) (hb:PW X (.BoolOp .Or (b::rest) pos) tB'):PW X (.BoolOp .Or (a::b::rest) pos) (tOr tA tB'):=by
 intro wh pins s σ H Q I h;refine isTrue_or (dN (ha pins s σ H _ I h) fun c s1 ⟨H1,I1,q1⟩=> ?_);cases c with
 | true=>exact ⟨H1,I1,q1⟩
 | false=>exact hb wh pins s1 σ H1 Q I1 q1
theorem gw (ha:PT X a tA):PT X (.UnaryOp .Not a pos) (afC tA):=by
 intro pins s σ H Q I h;exact isTrue_not (ha pins s σ H (fun c H1=>Q (!c) H1) I h)
def abh (ta tb:TE):TE:=fun σ H Q=>ta σ H fun x H1=>∃c,x = .bl c/\if c=true then tb σ H1 Q else Q (.bl false) H1
def afB (ta tb:TE):TE:=fun σ H Q=>ta σ H fun x H1=>∃c,x = .bl c/\if c=true then Q (.bl true) H1 else tb σ H1 Q
def aa' (ta:TE):TE:=fun σ H Q=>ta σ H fun x H1=>∃c,x = .bl c/\Q (.bl (!c)) H1
theorem qy {op} {t:TE} (h:PE X a t):PE X (.BoolOp op [a] pos) t:=fun pins s σ H Q I hw=>BoolOp_one (h pins s σ H Q I hw)
theorem qC (ha:PE X a ta) (hb:PE X (.BoolOp .And (b::rest) pos) tb):PE X (.BoolOp .And (a::b::rest) pos) (abh ta tb):=by
 intro pins s σ H Q I h;refine BoolOp_and (dN (ha pins s σ H _ I h) fun v s1 ⟨x,H1,I1,r1,q1⟩=> ?_);obtain ⟨c,rfl,q1⟩:=q1;cases r1;refine wpAny_truthy_bool ?_;cases c with
 | true=>exact hb pins s1 σ H1 Q I1 q1
 | false=>exact ⟨.bl false,H1,I1,rfl,q1⟩
theorem abB (ha:PE X a ta) (hb:PE X (.BoolOp .Or (b::rest) pos) tb):PE X (.BoolOp .Or (a::b::rest) pos) (afB ta tb):=by
 intro pins s σ H Q I h;refine BoolOp_or (dN (ha pins s σ H _ I h) fun v s1 ⟨x,H1,I1,r1,q1⟩=> ?_);obtain ⟨c,rfl,q1⟩:=q1;cases r1;refine wpAny_truthy_bool ?_;cases c with
 | false=>exact hb pins s1 σ H1 Q I1 q1
 | true=>exact ⟨.bl true,H1,I1,rfl,q1⟩
theorem QJ (ha:PE X a ta):PE X (.UnaryOp .Not a pos) (aa' ta):=by
 intro pins s σ H Q I h;refine UnaryOp_ (dN (ha pins s σ H _ I h) fun v s1 ⟨x,H1,I1,r1,q1⟩=> ?_);obtain ⟨c,rfl,q1⟩:=q1;cases r1;exact not_of (wpAny_truthy_bool ⟨.bl (!c),H1,I1,rfl,q1⟩)
def tIf (t:TT) (ta tb:TE):TE:=fun σ H Q=>t σ H fun c H1=>if c=true then ta σ H1 Q else tb σ H1 Q
theorem nW {c:Expr} (hc:PT X c tA) (ha:PE X a ta) (hb:PE X b tb):PE X (.IfExp c a b pos) (tIf tA ta tb):=by
 intro pins s σ H Q I h;refine wpAny_IfExp (dN (hc pins s σ H _ I h) fun d s1 ⟨H1,I1,q1⟩=> ?_);cases d with
 | true=>exact ha pins s1 σ H1 Q I1 q1
 | false=>exact hb pins s1 σ H1 Q I1 q1
end
end L2
namespace L2
open PySem PySem.Spec PyProof.Rows
def bN (K:PySem.W.Frag) (H:Hp) (a:Addr) (xs:List V):Prop:=
 Rd H a (.lst xs) \/
  ∃(o:Obj) (its:Array Value) (n:Nat),K.lookup a=some o/\o.cls = .type "list" /\ o.dict=none/\o.data = .seq its n/\its.size<=sizeLine/\Vals xs its.toList
def cN (K:PySem.W.Frag) (H:Hp) (a:Addr) (xs:List V):Prop:=
 Rd H a (.tup xs) \/
  ∃(o:Obj) (its:Array Value) (n:Nat),K.lookup a=some o/\o.cls = .type "tuple" /\ o.data = .seq its n/\its.size<=sizeLine/\Vals xs its.toList
def amw:Value->Option V
 | .none=>some .non
 | .bool b=>some (.bl b)
 | .int i _=>some (.int i)
 | .str x _=>some (.str x)
 | .bytes b _=>some (.Kz b)
 | .float b _=>some (.flt b)
 | .ref a=>some (.ref a)
 | .type n=>some (.ty n)
 | _=>none
theorem RelV.abs {x:V} {u:Value} (r:RelV x u):amw u=some x:=by
 cases x with
 | non=>cases r;rfl
 | bl _=>cases r;rfl
 | int _=>obtain ⟨t,rfl⟩:=r;rfl
 | str _=>obtain ⟨t,rfl⟩:=r;rfl
 | Kz _=>obtain ⟨t,rfl⟩:=r;rfl
 | flt _=>obtain ⟨t,rfl⟩:=r;rfl
 | ref _=>cases r;rfl
 | ty _=>cases r;rfl
theorem RelV.inj {x y:V} {u:Value} (r:RelV x u) (q:RelV y u):x=y:=Option.some.inj (r.abs.symm.trans q.abs)
theorem Vals.inj {xs ys:List V} {us:List Value} (h:Vals xs us) (h':Vals ys us):xs=ys:=by
 induction h generalizing ys with
 | nil=>cases h';rfl
 | cons r t ih=>cases h' with
   | cons r' t'=>rw [r.inj r',ih t']
section
variable {X:Cx} {pins:List (Addr×Obj)} {σ:St} {H:Hp} {s:Shared} {a:Addr} {xs ys:List V}
theorem bN.of {K:PySem.W.Frag} (h:H a=some (.lst xs)):bN K H a xs:= .inl (.inl h)
theorem cN.of {K:PySem.W.Frag} (h:H a=some (.tup xs)):cN K H a xs:= .inl (.inl h)
theorem Inv.list (I:Inv X pins σ H s) (h:bN X.K H a xs):∃its:List Value,Vals xs its/\PlainL s.heap a its.toArray/\xs.length<=sizeLine:=by
 rcases h with h|⟨o,its,n,hk,hc,hd,hs,hz,r⟩
 ·obtain ⟨z,its,n,r,e⟩:=h.ok I.hok
  exact ⟨its,r,⟨_,n,e,rfl,rfl,rfl⟩,z⟩
 ·refine ⟨its.toList,r,⟨o,n,I.nM a o hk,hc,hd,by simpa using hs⟩, ?_⟩
  have e:=r.length;simp only [Array.length_toList] at e;lia
theorem Inv.tuple (I:Inv X pins σ H s) (h:cN X.K H a xs):∃its:List Value,Vals xs its/\IsTup s.heap a its.toArray/\xs.length<=sizeLine:=by
 rcases h with h|⟨o,its,n,hk,hc,hs,hz,r⟩
 ·obtain ⟨z,its,r,p⟩:=h.ok I.hok
  exact ⟨its,r,p,z⟩
 ·refine ⟨its.toList,r,⟨o,I.nM a o hk,hc,n,by simpa using hs⟩, ?_⟩
  have e:=r.length;simp only [Array.length_toList] at e;lia
theorem Inv.uY (I:Inv X pins σ H s) (h:bN X.K H a xs) (h':bN X.K H a ys):xs=ys:=by
 obtain ⟨its,r,⟨o,n,e,_,_,d⟩,_⟩:=I.list h;obtain ⟨its',r',⟨o',n',e',_,_,d'⟩,_⟩:=I.list h';rw [e] at e';cases e';rw [d] at d';injection d' with d1 _
 have:its=its':=by simpa using congrArg Array.toList d1
 subst this;exact r.inj r'
theorem Inv.vQ (I:Inv X pins σ H s) (h:cN X.K H a xs) (h':cN X.K H a ys):xs=ys:=by
 obtain ⟨its,r,⟨o,e,_,n,d⟩,_⟩:=I.tuple h;obtain ⟨its',r',⟨o',e',_,n',d'⟩,_⟩:=I.tuple h';rw [e] at e';cases e';rw [d] at d';injection d' with d1 _
 have:its=its':=by simpa using congrArg Array.toList d1
 subst this;exact r.inj r'
end
abbrev Cx.wish (X:Cx) (E:Value->Shared->Prop):Cx:={X with xe:=E}
abbrev Cx.nox (X:Cx):Cx:=X.wish fun _ _=>False
theorem Cx.Ok.wish {X:Cx} (ok:X.Ok) (E:Value->Shared->Prop):(X.wish E).Ok:=
 ⟨ok.mod,ok.kind,ok.glob,ok.blt,ok.above,ok.inj,ok.has,ok.cab,ok.hd,ok.frames,ok.stk,ok.exf,ok.bs,ok.KC,ok.Fq,ok.Ir,ok.pZ,ok.Pa⟩
theorem Cx.Ok.qj {X:Cx} {E:Value->Shared->Prop} (ok:(X.wish E).Ok):X.Ok:=
 ⟨ok.mod,ok.kind,ok.glob,ok.blt,ok.above,ok.inj,ok.has,ok.cab,ok.hd,ok.frames,ok.stk,ok.exf,ok.bs,ok.KC,ok.Fq,ok.Ir,ok.pZ,ok.Pa⟩
section
variable {X:Cx} {pins:List (Addr×Obj)} {σ:St} {H:Hp} {s:Shared} {E:Value->Shared->Prop}
theorem Inv.wish (I:Inv X pins σ H s) (E:Value->Shared->Prop):Inv (X.wish E) pins σ H s:=⟨I.ok.wish E,I.os,I.bare,I.base,I.loc,I.cell,I.free,I.jx,I.pin,I.hok,I.len⟩
theorem Inv.qj (I:Inv (X.wish E) pins σ H s):Inv X pins σ H s:=⟨I.ok.qj,I.os,I.bare,I.base,I.loc,I.cell,I.free,I.jx,I.pin,I.hok,I.len⟩
theorem SP.qj {D:Ends} {f:Flow} {s':Shared} (h:SP (X.wish E) pins D f s'):SP X pins D f s':=by
 cases f with
 | next=>obtain ⟨σ',H',I,q⟩:=h;exact ⟨σ',H',I.qj,q⟩
 | brk=>obtain ⟨σ',H',I,q⟩:=h;exact ⟨σ',H',I.qj,q⟩
 | cont=>obtain ⟨σ',H',I,q⟩:=h;exact ⟨σ',H',I.qj,q⟩
 | ret u=>obtain ⟨v,σ',H',I,r,q⟩:=h;exact ⟨v,σ',H',I.qj,r,q⟩
theorem Jp.nox {st:List Stmt} {t:TS} (h:Jp X.nox st t):Jp X st t:=fun pins s σ H D I hw=>
 wpAny_mono (h pins s σ H D (I.wish _) hw) (fun _ _ q=>q.qj) fun _ _ z=>False.elim z
end
section
variable {X:Cx} {st:Stmt} {rest:List Stmt} {t u:TS} {e:Expr} {te:TE} {pos:Pos}
def Ql:TS:=fun D σ H=>D.nx σ H
def X8 (t u:TS):TS:=fun D σ H=>t {D with nx:=u D} σ H
theorem bQ:Jp X [] Ql:=fun _ _ σ H _ I h=>wpAny_execs_nil ⟨σ,H,I,h⟩
theorem aF (h1:PS X st t) (h2:Jp X rest u):Jp X (st::rest) (X8 t u):=by
 intro pins s σ H D I h;refine wpAny_execs_cons (dN (h1 pins s σ H {D with nx:=u D} I h) fun f s1 q=> ?_);cases f with
 | next=>
   obtain ⟨σ',H',I',q⟩:=q;exact h2 pins s1 σ' H' D I' q
 | ret v=>exact q
 | brk=>exact q
 | cont=>exact q
theorem aK (h1:PS X st t):Jp X [st] t:=by
 intro pins s σ H D I h;refine wpAny_execs_cons (dN (h1 pins s σ H D I h) fun f s1 q=> ?_);cases f with
 | next=>exact wpAny_execs_nil q
 | ret v=>exact q
 | brk=>exact q
 | cont=>exact q
theorem Inv.quiet {pins:List (Addr×Obj)} {σ:St} {H:Hp} {s:Shared} (I:Inv X pins σ H s):interactive X.env=false:=by simp [interactive,I.ok.kind]
def Wz (te:TE):TS:=fun D σ H=>te σ H fun _ H1=>D.nx σ H1
theorem fO (he:PE X e te) (hs:swapsWith e none pos.line X.env=pure false:=by rfl):PS X (.Expr e pos) (Wz te):=by
 intro pins s σ H D I h;exact wpAny_Expr_any (dN (he pins s σ H _ I h) fun v s1 ⟨x,H1,I1,r1,q1⟩=>⟨σ,H1,I1,q1⟩) I.quiet hs
def afA (te:TE):TS:=fun D σ H=>te σ H D.rt
theorem bK (he:PE X e te):PS X (.Return (some e) pos) (afA te):=by
 intro pins s σ H D I h;exact wpAny_Return_some (dN (he pins s σ H _ I h) fun v s1 ⟨x,H1,I1,r1,q1⟩=>⟨x,σ,H1,I1,r1,q1⟩)
def aa9:TS:=fun D _ H=>D.rt .non H
theorem U_:PS X (.Return none pos) aa9:=fun _ _ σ H _ I h=>wpAny_Return_none ⟨.non,σ,H,I,rfl,h⟩
def afF (c:TT) (t u:TS):TS:=fun D σ H=>c σ H fun b H1=>if b=true then t D σ H1 else u D σ H1
theorem cU {c:Expr} {a b:List Stmt} {tc:TT} (hc:PT X c tc) (ha:Jp X a t) (hb:Jp X b u):PS X (.If c a b pos) (afF tc t u):=by
 intro pins s σ H D I h;refine wpAny_If (dN (hc pins s σ H _ I h) fun d s1 ⟨H1,I1,q1⟩=> ?_);cases d with
 | true=>exact ha pins s1 σ H1 D I1 q1
 | false=>exact hb pins s1 σ H1 D I1 q1
def Yb:TS:=fun _ _ _=>False
theorem QB:PS X st Yb:=fun _ _ _ _ _ _ h=>h.elim
end
abbrev TG:=V->St->Hp->(St->Hp->Prop)->Prop
abbrev Xw:=List V->St->Hp->(St->Hp->Prop)->Prop
def PG (X:Cx) (target:Expr) (t:TG):Prop:=
 ∀(pins:List (Addr×Obj)) (s:Shared) (σ:St) (H:Hp) (v:V) (u:Value) (Q:St->Hp->Prop),Inv X pins σ H s->RelV v u->t v σ H Q ->
  wpAny (model X.prog X.w) X.A (assign target X.env u) (fun _ s'=>∃σ' H',Inv X pins σ' H' s'/\Q σ' H') X.xe s
def PGs (X:Cx) (ts:List Expr) (t:Xw):Prop:=
 ∀(pins:List (Addr×Obj)) (s:Shared) (σ:St) (H:Hp) (vs:List V) (us:List Value) (Q:St->Hp->Prop),Inv X pins σ H s->Vals vs us->t vs σ H Q ->
  wpAny (model X.prog X.w) X.A (assignInOrder ((assignEach ts X.env).map (·.2)) us) (fun _ s'=>∃σ' H',Inv X pins σ' H' s'/\Q σ' H') X.xe s
abbrev Tr:=V->V->V->Hp->(Hp->Prop)->Prop
def aal (X:Cx) (t:Tr):Prop:=
 ∀(pins:List (Addr×Obj)) (s:Shared) (σ:St) (H:Hp) (o i v:V) (ov iv u:Value) (Q:Hp->Prop),Inv X pins σ H s->RelV o ov->RelV i iv->RelV v u->t o i v H Q ->
  wpAny (model X.prog X.w) X.A (setItem ov iv u) (fun _ s'=>∃H',Inv X pins σ H' s'/\Q H') X.xe s
abbrev TIp:=V->V->Hp->VK->Prop
def PIp (X:Cx) (op:Operator) (t:TIp):Prop:=
 ∀(pins:List (Addr×Obj)) (s:Shared) (σ:St) (H:Hp) (x y:V) (v u:Value) (Q:VK),Inv X pins σ H s->RelV x v->RelV y u->t x y H Q ->
  wpAny (model X.prog X.w) X.A (inplaceOp op v u) (EP X pins σ Q) X.xe s
section
variable {X:Cx} {pos:Pos}
def gR (i:Nat):TG:=fun v σ H Q=>Q (σ.set i (some v)) H
theorem bW {i:Nat} {x:Str} (hN:X.N.Nodup) (hi:X.N[i]? = some x) (hx:Loc X.env.scope x) (hf:X.fn x=true\/X.env.scope.names.lookup x=some .local:=by first |exact .inl rfl|exact .inr rfl|assumption):PG X (.Name x pos) (gR i):=by
 intro pins s σ H v u Q I r h;exact wpAny_assign_Name (uD I hN hi hx r (fun s' I'=>⟨_,H,I',h⟩) hf)
def ZP:Xw:=fun vs σ H Q=>vs=[]/\Q σ H
def Im (t:TG) (u:Xw):Xw:=fun vs σ H Q=>∃v r,vs=v::r/\t v σ H fun σ' H'=>u r σ' H' Q
theorem Lr:PGs X [] ZP:=by
 intro pins s σ H vs us Q I r h;obtain ⟨e,h⟩:=h;subst e;cases r;exact assignInOrder_nil ⟨σ,H,I,h⟩
theorem uT {e:Expr} {es:List Expr} {t:TG} {u:Xw} (h1:PG X e t) (h2:PGs X es u)
 (hs:(assignEach (e::es) X.env).map (·.2)=assign e X.env::(assignEach es X.env).map (·.2):=by rfl):PGs X (e::es) (Im t u):=by
 intro pins s σ H vs us Q I r h;obtain ⟨v,vr,e1,h⟩:=h;subst e1;cases r with
 | cons r rr=>
   rw [hs];refine assignInOrder_cons (dN (h1 pins s σ H _ _ _ I r h) fun _ s1 ⟨σ1,H1,I1,q1⟩=> ?_);exact h2 pins s1 σ1 H1 _ _ Q I1 rr q1
def V0 (K:PySem.W.Frag) (n:Nat) (t:Xw):TG:=fun v σ H Q=>∃a xs,v = .ref a/\cN K H a xs/\xs.length=n/\t xs σ H Q
theorem YS {es:List Expr} {k:Nat} {t:Xw} {n:Nat} (hc:X.calm=true) (h:PGs X es t)
 (hn:(assignEach es X.env).length=n:=by rfl) (hst:(assignEach es X.env).findIdx? (·.1)=none:=by rfl):PG X (.Tuple es k pos) (V0 X.K n t):=by
 intro pins s σ H v u Q I r hw;obtain ⟨a,xs,e1,hq,hl,hw⟩:=hw;subst e1;cases r;obtain ⟨its,rv,ht,hz⟩:=I.tuple hq;refine assign_Tuple_tuple (I.ok.hd hc) ht (by simp [hn,←hl,rv.length]) hst fun h' hx=> ?_;have I1:Inv X pins σ H {s with heap:=h'}:=I.kept (t':=s.toks) fun b o e=>hx b o (Nat.ne_of_lt (Heap.lt_size e)) e;exact h pins _ σ H xs _ Q I1 (by simpa using rv) hw
def aj1 (to ti:TE) (t:Tr):TG:=fun v σ H Q=>to σ H fun o H1=>ti σ H1 fun i H2=>t o i v H2 fun H3=>Q σ H3
theorem wk {o i:Expr} {to ti:TE} {t:Tr} (ho:PE X o to) (hi:PE X i ti) (hs:aal X t)
 (ha:∀v,assign (.Subscript o i pos) X.env v=(do
   let ov ←holding [v] (eval o X.env)
   let iv ←holding [v,ov] (eval i X.env)
   standAt pos
   holding [v,ov,iv] (setItem ov iv v)
   release [v,ov,iv] []):=by intro _;rfl):PG X (.Subscript o i pos) (aj1 to ti t):=by
 intro pins s σ H v u Q I r h;rw [ha];refine wpAny_bind (wpAny_holding (dN (ho pins s σ H _ I h) fun ov s1 ⟨x,H1,I1,r1,q1⟩=> ?_));refine wpAny_bind (wpAny_holding (dN (hi pins s1 σ H1 _ I1 q1) fun iv s2 ⟨y,H2,I2,r2,q2⟩=> ?_));refine wpAny_bind (wpAny_standAt (wpAny_bind (wpAny_holding (dN (hs pins s2 σ H2 x y v ov iv u _ I2 r1 r2 r q2) fun _ s3 ⟨H3,I3,q3⟩=> ?_))));exact wpAny_release ⟨σ,H3,I3,q3⟩
def Yk (te:TE) (g:TG):TS:=fun D σ H=>te σ H fun x H1=>g x σ H1 D.nx
theorem wj {tg e:Expr} {te:TE} {g:TG} (he:PE X e te) (hg:PG X tg g) (hs:swapsWithSole [tg] e pos.line X.env=pure false:=by rfl) (hw:swappedStores [tg] e X.env=pure none:=by rfl)
 (h1:(assignEach [tg] X.env).map (·.2)=[assign tg X.env]:=by rfl):PS X (.Assign [tg] e pos) (Yk te g):=by
 intro pins s σ H D I h;refine wpAny_Assign_stores (dN (he pins s σ H _ I h) fun v s1 ⟨x,H1,I1,r1,q1⟩=> ?_) hs hw;rw [h1];exact dN (hg pins s1 σ H1 x v _ I1 r1 q1) fun _ s2 q=>q
theorem bU {i:Nat} {x:Str} {e:Expr} {te:TE} {pos':Pos} (hN:X.N.Nodup) (hi:X.N[i]? = some x) (hx:Loc X.env.scope x) (he:PE X e te) (hs:swapsWith e (some (.Name x pos')) pos.line X.env=pure false:=by rfl) (hf:X.fn x=true\/X.env.scope.names.lookup x=some .local:=by first |exact .inl rfl|exact .inr rfl|assumption):
 PS X (.Assign [.Name x pos'] e pos) (Yk te (gR i)):=by
 intro pins s σ H D I h;refine wpAny_Assign_Name (dN (he pins s σ H _ I h) fun v s1 ⟨y,H1,I1,r1,q1⟩=> ?_) hs;exact uD I1 hN hi hx r1 (fun s2 I2=>⟨_,H1,I2,q1⟩) hf
def afI (i:Nat) (te:TE) (ti:TIp):TS:=fun D σ H=>∃x,σ[i]? = some (some x)/\te σ H fun y H1=>ti x y H1 fun z H2=>D.nx (σ.set i (some z)) H2
theorem YL {i:Nat} {x:Str} {e:Expr} {te:TE} {op:Operator} {ti:TIp} {pos':Pos} (hN:X.N.Nodup) (hi:X.N[i]? = some x) (hx:Loc X.env.scope x) (he:PE X e te) (ho:PIp X op ti) (hf:X.fn x=true\/X.env.scope.names.lookup x=some .local:=by first |exact .inl rfl|exact .inr rfl|assumption):
 PS X (.AugAssign (.Name x pos') op e pos) (afI i te ti):=by
 intro pins s σ H D I h;obtain ⟨v,e1,h⟩:=h;obtain ⟨m,hn,hl⟩:=I.loc;have vis:Vis X.env.scope x:=by rcases hx with k|k;exact .inl k;exact .inr (.inl k)
 obtain ⟨u,r,l⟩:=hl i x v hi e1 vis;refine wpAny_AugAssign_Name ?_
 have go:wpAny (model X.prog X.w) X.A (eval e X.env) (fun w s₂=>wpAny (model X.prog X.w) X.A (inplaceOp op u w) (fun r s₃=>wpAny (model X.prog X.w) X.A (storeName X.env x r) (fun _=>SP X pins D .next) X.xe s₃) X.xe s₂) X.xe s:=by
  refine dN (he pins s σ H _ I h) fun w s1 ⟨y,H1,I1,r1,q1⟩=> ?_;refine dN (ho pins s1 σ H1 v y u w _ I1 r r1 q1) fun z s2 ⟨zv,H2,I2,r2,q2⟩=> ?_;exact uD I2 hN hi hx r2 (fun s3 I3=>⟨_,H2,I3,q2⟩) hf
 rcases l with ⟨hk,hm⟩|⟨hk,c,hc,hcell⟩
 ·exact wpAny_loadName_local I.ok.kind hk hn hm go
 ·rcases hk with hk|hk
  ·exact wpAny_loadName_cell I.ok.kind hk hc hcell go
  ·rcases hx with k|k
   ·have:X.env.scope.names.lookup x=some .free:=hk
    rw [k] at this;cases this
   ·have:X.env.scope.names.lookup x=some .free:=hk
    rw [k] at this;cases this
def abg (to ti te:TE) (Um:V->V->Hp->VK->Prop) (tip:TIp) (Ul:Tr):TS:=fun D σ H=>to σ H fun o H1=>ti σ H1 fun i H2=>Um o i H2 fun x H3=>te σ H3 fun y H4=>tip x y H4 fun z H5=>Ul o i z H5 fun H6=>D.nx σ H6
def adN (X:Cx) (t:V->V->Hp->VK->Prop):Prop:=
 ∀(pins:List (Addr×Obj)) (s:Shared) (σ:St) (H:Hp) (o i:V) (ov iv:Value) (Q:VK),Inv X pins σ H s->RelV o ov->RelV i iv->t o i H Q ->
  wpAny (model X.prog X.w) X.A (getItem ov iv) (EP X pins σ Q) X.xe s
theorem Va {o i e:Expr} {to ti te:TE} {Um:V->V->Hp->VK->Prop} {tip:TIp} {Ul:Tr} {op:Operator} {tpos:Pos} (ho:PE X o to) (hi:PE X i ti) (hg:adN X Um) (he:PE X e te) (hp:PIp X op tip) (hs:aal X Ul)
 (ha:∀ov iv new,augStore i ov iv new=(do holding [new,ov,iv] (setItem ov iv new);release [new,ov,iv] [];pure .next):=by intros;rfl):PS X (.AugAssign (.Subscript o i tpos) op e pos) (abg to ti te Um tip Ul):=by
 intro pins s σ H D I h;refine wpAny_AugAssign_SubscriptAny (dN (ho pins s σ H _ I h) fun ov s1 ⟨x1,H1,I1,r1,q1⟩=> ?_) ha;refine dN (hi pins s1 σ H1 _ I1 q1) fun iv s2 ⟨x2,H2,I2,r2,q2⟩=> ?_;refine dN (hg pins s2 σ H2 x1 x2 ov iv _ I2 r1 r2 q2) fun old s3 ⟨x3,H3,I3,r3,q3⟩=> ?_;refine dN (he pins s3 σ H3 _ I3 q3) fun v s4 ⟨x4,H4,I4,r4,q4⟩=> ?_;refine dN (hp pins s4 σ H4 x3 x4 old v _ I4 r3 r4 q4) fun new s5 ⟨x5,H5,I5,r5,q5⟩=> ?_;exact dN (hs pins s5 σ H5 x1 x2 x5 ov iv new _ I5 r1 r2 r5 q5) fun _ s6 ⟨H6,I6,q6⟩=>⟨σ,H6,I6,q6⟩
def ipI (f:Int->Int->Int):TIp:=fun x y H Q=>∃i j,x = .int i/\y = .int j/\Q (.int (f i j)) H
theorem FJ:PIp X .Add (ipI fun i j=>i+j):=by
 intro pins s σ H x y v u Q I r1 r2 h;obtain ⟨i,j,e1,e2,q⟩:=h;subst e1;subst e2;obtain ⟨t,rfl⟩:=r1;obtain ⟨t',rfl⟩:=r2;exact iadd_int ⟨.int _,H,I.tok _,⟨_,rfl⟩,q⟩
end
section
variable {X:Cx} {pos:Pos}
def X7 (c:TT) (tb:TS):TS:=fun D σ H=>∃W:Nat->St->Hp->Prop,(∃m,W m σ H) /\ ∀m σ H,W m σ H ->
 c σ H fun b H1=>if b=true then ∃N:St->Hp->Prop,(∀σ' H',N σ' H' -> ∃m',m'<m/\W m' σ' H')/\tb {D with nx:=N,ct:=N,bk:=D.nx} σ H1 else D.nx σ H1
theorem Qz {c:Expr} {body:List Stmt} {tc:TT} {tb:TS} (hp:PassesOwn (model X.prog X.w) X.A X.env X.xe) (hc:PT X c tc) (hb:Jp X body tb):PS X (.While c body [] pos) (X7 tc tb):=by
 intro pins s σ H D I h;obtain ⟨W,⟨m0,w0⟩,turn⟩:=h;refine wpAny_While (codeAny_whileLoop (fun n s'=>∃σ' H',Inv X pins σ' H' s'/\W n σ' H') ?_ m0 ⟨σ,H,I,w0⟩);rintro n s1 ⟨σ1,H1,I1,w1⟩;refine wpAny_passesOwn hp (dN (hc pins s1 σ1 H1 _ I1 (turn n σ1 H1 w1)) fun b s2 ⟨H2,I2,q2⟩=> ?_);cases b with
 | true=>
   obtain ⟨N,hN,q2⟩:=q2;rw [if_pos rfl];refine wpAny_passesOwn hp (dN (hb pins s2 σ1 H2 _ I2 q2) fun f s3 q3=> ?_);cases f with
   | next=>
     obtain ⟨σ3,H3,I3,n3⟩:=q3;obtain ⟨m',hm,w3⟩:=hN σ3 H3 n3;exact ⟨m',hm,σ3,H3,I3,w3⟩
   | cont=>
     obtain ⟨σ3,H3,I3,n3⟩:=q3;obtain ⟨m',hm,w3⟩:=hN σ3 H3 n3;exact ⟨m',hm,σ3,H3,I3,w3⟩
   | brk=>exact q3
   | ret v=>exact q3
 | false=>
   rw [if_neg Bool.false_ne_true];exact wpAny_execs_nil ⟨σ1,H2,I2,q2⟩
end
structure It where
 go:Nat->Hp->Prop
 yld:Nat->Hp->V->Hp->Prop
 stop:Nat->Hp->Prop
def qW (X:Cx) (pins:List (Addr×Obj)) (H:Hp) (b:Addr):Prop:=
 H b=none/\b≠X.env.locals/\b∉X.fs/\(b∈X.ex\/X.s₀.heap.objs.size<=b)/\(∀x c,X.env.cells.lookup x=some c->c≠b) /\ ∀p∈X.pn++pins,p.1≠b
theorem Inv.Ar {X:Cx} {pins:List (Addr×Obj)} {σ:St} {H H':Hp} {s:Shared} {b:Addr} (I:Inv X pins σ H s) (hb:s.heap.objs.size<=b) (hn:H' b=none):qW X pins H' b:=by
 refine ⟨hn,Nat.ne_of_gt (Nat.lt_of_lt_of_le I.lt hb),I.aio hb,.inr (Nat.le_trans I.sz hb),fun x c e z=> ?_,fun p hp z=> ?_⟩
 ·obtain ⟨v,q⟩:=I.cell x c e
  exact absurd (Nat.lt_of_lt_of_le q.lt (by rw [z];exact hb)) (Nat.lt_irrefl _)
 ·exact absurd (Nat.lt_of_lt_of_le (Heap.lt_size (I.pin p hp).1) (by rw [z];exact hb)) (Nat.lt_irrefl _)
structure Turn (P:Program) (w:World) (K:PySem.W.Frag) (tg:Expr) (J:It) (fp:List Addr) (it:Addr) (tn:Nat->Heap->Prop):Prop where
 mem:it∈fp
 obj:∀i h,tn i h -> ∀b∈fp,∃o,h.get? b=some o /\ ∀v,o.data ≠ .cell v
 keep:∀i h h',tn i h->(∀b∈fp,∀o,h.get? b=some o->h'.get? b=some o)->tn i h'
 item:∀(X:Cx),X.prog=P->X.w=w->X.K=K->X.calm=true -> ∀(i:Nat) (pins:List (Addr×Obj)) (s:Shared) (σ:St) (H:Hp) (E:Value->Shared->Prop),Inv X pins σ H s->(∀b∈fp,qW X pins H b)->tn i s.heap->J.go i H ->
  wpAny (model P w) X.A (pyNext (.ref it)) (fun r s1=>∃u,r=some u /\
   wpAny (model P w) X.A (letOwnedTupleGo tg (.ref it) u) (fun _ s2=>∃x H',Inv X pins σ H' s2/\RelV x u/\J.yld i H x H'/\tn (i+1) s2.heap /\ ∀b∈fp,H' b=none) E s1) E s
 done:∀(X:Cx),X.prog=P->X.w=w->X.K=K->X.calm=true -> ∀(i:Nat) (pins:List (Addr×Obj)) (s:Shared) (σ:St) (H:Hp) (E:Value->Shared->Prop),Inv X pins σ H s->(∀b∈fp,qW X pins H b)->tn i s.heap->J.stop i H ->
  wpAny (model P w) X.A (pyNext (.ref it)) (fun r s1=>r=none/\Inv X pins σ H s1) E s
 self:∀(A:Around) (i:Nat) (s:Shared) (Q:Value->Shared->Prop) (E:Value->Shared->Prop),tn i s.heap->Q (.ref it) s->wpAny (model P w) A (pyIter (.ref it)) Q E s
abbrev TI:=St->Hp->(It->Hp->Prop)->Prop
def PIE (X:Cx) (pins:List (Addr×Obj)) (σ:St) (tg:Expr) (R:It->Hp->Prop) (itv:Value) (s2:Shared):Prop:=
 ∃(it:Addr) (fp:List Addr) (tn:Nat->Heap->Prop) (J:It) (H':Hp),itv = .ref it/\Inv X pins σ H' s2/\Turn X.prog X.w X.K tg J fp it tn/\tn 0 s2.heap/\(∀b∈fp,qW X pins H' b)/\R J H'
def PI (X:Cx) (tg iter:Expr) (wi:TI):Prop:=
 ∀(pins:List (Addr×Obj)) (s:Shared) (σ:St) (H:Hp) (R:It->Hp->Prop),Inv X pins σ H s->wi σ H R ->
  wpAny (model X.prog X.w) X.A (eval iter X.env) (fun v s1=>wpAny (model X.prog X.w) X.A (pyIter v) (PIE X pins σ tg R) X.xe s1) X.xe s
theorem Il {M:Model} {A:Around} {E:Value->Shared->Prop} {s:Shared} {tg:Expr} {it:Addr} {u:Value} {o:Obj} {n:String} {vs:Array Value} {Q:Unit->Shared->Prop} (ho:s.heap.get? it=some o) (hc:o.cls = .type n) (hd:o.data = .fields vs)
 (hn:["enumerate","zip","dict_itemiterator","dict_reverseitemiterator","odict_iterator","itertools.zip_longest","itertools.pairwise"].contains n=false) (hQ:Q () s):wpAny M A (letOwnedTupleGo tg (.ref it) u) Q E s:=by
 unfold letOwnedTupleGo
 cases tg<;>first
  | exact wpAny_pure hQ
  | (cases u<;>first
      | exact wpAny_pure hQ
      | (refine wpAny_bind (wpAny_load ho ?_)
         rw [hc,hd];show wpAny M A (if (["enumerate","zip","dict_itemiterator","dict_reverseitemiterator","odict_iterator","itertools.zip_longest","itertools.pairwise"].contains n&&vs[0]? == some (rawInt _))=true then _ else _) Q E s;rw [if_neg (by intro h;rw [hn,Bool.false_and] at h;cases h)];exact wpAny_pure hQ))
def Wj (K:PySem.W.Frag) (a:Addr):It:=
 ⟨fun i H=>∃xs x,bN K H a xs/\xs[i]? = some x,fun i H x H'=>H'=H /\ ∀xs,bN K H a xs->xs[i]? = some x,fun i H=>∃xs,bN K H a xs/\xs.length<=i⟩
def Itt (K:PySem.W.Frag) (a:Addr):It:=
 ⟨fun i H=>∃xs x,cN K H a xs/\xs[i]? = some x,fun i H x H'=>H'=H /\ ∀xs,cN K H a xs->xs[i]? = some x,fun i H=>∃xs,cN K H a xs/\xs.length<=i⟩
def Uc (lo:Int) (n:Nat):It:=⟨fun i _=>i<n,fun i H x H'=>H'=H/\x = .int (lo+i),fun i _=>n<=i⟩
theorem Nf {P:Program} {w:World} {K:PySem.W.Frag} {tg:Expr} (a it:Addr):Turn P w K tg (Wj K a) [it] it (fun i h=>h.IsListIter it a i) where
 mem:=by simp
 obj:=fun i h st b hb=>by
  have e:b=it:=by simpa using hb
  subst e;obtain ⟨o,e,c,d⟩:=st;exact ⟨o,e,fun v z=>by rw [d] at z;cases z⟩
 keep:=fun i h h' st k=>st.at fun o e=>k it (by simp) o e
 item:=by
  intro X hP hw hK hc i pins s σ H E I hf st hg;subst hP hw hK;obtain ⟨xs,x,hq,hx⟩:=hg;obtain ⟨its,rv,p,hz⟩:=I.list hq;obtain ⟨u,hu,ru⟩:=rv.get hx;obtain ⟨f0,f1,f2,f3,f4,f5⟩:=hf it (by simp);refine wpAny_pyNext_list_item st p.isList (x:=u) (by simpa using hu) fun h' st' sb=> ?_;have I1:Inv X pins σ H {s with heap:=h'}:=I.turned (t':=s.toks) (fun b o hb e=>(sb.2 b hb).trans e) f0 f1 f3 f4 f5;obtain ⟨o,e,c,d⟩:=id st';exact ⟨u,rfl,Il (s:={s with heap:=h'}) e c d (by decide) ⟨x,H,I1,ru,⟨rfl,fun ys hy=>by rw [I.uY hy hq];exact hx⟩,st',fun b hb=>(hf b hb).1⟩⟩
 done:=by
  intro X hP hw hK hc i pins s σ H E I hf st hg;subst hP hw hK;obtain ⟨xs,hq,hx⟩:=hg;obtain ⟨its,rv,p,hz⟩:=I.list hq;obtain ⟨f0,f1,f2,f3,f4,f5⟩:=hf it (by simp);have hl:=rv.length;exact wpAny_pyNext_list_end (I.ok.hd hc) st p.isList (by simp;lia) fun h' eb=>⟨rfl,I.turned (t':=s.toks) (fun b o hb e=>eb b o hb e) f0 f1 f3 f4 f5⟩
 self:=fun _ _ _ _ _ st h=>wpAny_pyIter_listiter st h
theorem Jz {P:Program} {w:World} {K:PySem.W.Frag} {tg:Expr} (a it:Addr):Turn P w K tg (Itt K a) [it] it (fun i h=>h.IsTupleIter it a i) where
 mem:=by simp
 obj:=fun i h st b hb=>by
  have e:b=it:=by simpa using hb
  subst e;obtain ⟨o,e,c,d⟩:=st;exact ⟨o,e,fun v z=>by rw [d] at z;cases z⟩
 keep:=fun i h h' st k=>st.at fun o e=>k it (by simp) o e
 item:=by
  intro X hP hw hK hc i pins s σ H E I hf st hg;subst hP hw hK;obtain ⟨xs,x,hq,hx⟩:=hg;obtain ⟨its,rv,p,hz⟩:=I.tuple hq;obtain ⟨u,hu,ru⟩:=rv.get hx;obtain ⟨f0,f1,f2,f3,f4,f5⟩:=hf it (by simp);refine wpAny_pyNext_tuple_item st (show s.heap.IsTuple a its.toArray from p) (x:=u) (by simpa using hu) fun h' st' sb=> ?_;have I1:Inv X pins σ H {s with heap:=h'}:=I.turned (t':=s.toks) (fun b o hb e=>(sb.2 b hb).trans e) f0 f1 f3 f4 f5;obtain ⟨o,e,c,d⟩:=id st';exact ⟨u,rfl,Il (s:={s with heap:=h'}) e c d (by decide) ⟨x,H,I1,ru,⟨rfl,fun ys hy=>by rw [I.vQ hy hq];exact hx⟩,st',fun b hb=>(hf b hb).1⟩⟩
 done:=by
  intro X hP hw hK hc i pins s σ H E I hf st hg;subst hP hw hK;obtain ⟨xs,hq,hx⟩:=hg;obtain ⟨its,rv,p,hz⟩:=I.tuple hq;obtain ⟨f0,f1,f2,f3,f4,f5⟩:=hf it (by simp);have hl:=rv.length;exact wpAny_pyNext_tuple_end (I.ok.hd hc) st (show s.heap.IsTuple a its.toArray from p) (by simp;lia) fun h' eb=>⟨rfl,I.turned (t':=s.toks) (fun b o hb e=>eb b o hb e) f0 f1 f3 f4 f5⟩
 self:=fun _ _ _ _ _ st h=>wpAny_pyIter_tupleiter st h
theorem JB {P:Program} {w:World} {K:PySem.W.Frag} {tg:Expr} (it:Addr) (lo:Int) (n:Nat):Turn P w K tg (Uc lo n) [it] it (fun i h=>IsRangeIter h it (lo+(i:Nat)*1) ((n:Int) - (i:Nat)) 1) where
 mem:=by simp
 obj:=fun i h st b hb=>by
  have e:b=it:=by simpa using hb
  subst e
  exact ⟨_,st,fun v z=>by
   have z':Data.fields _=Data.cell v:=z;cases z'⟩
 keep:=fun i h h' st k=>k it (by simp) _ st
 item:=by
  intro X hP hw hK hc i pins s σ H E I hf st hg;subst hP hw hK;obtain ⟨f0,f1,f2,f3,f4,f5⟩:=hf it (by simp);have W:=Walks.range (prog:=X.prog) (w:=X.w) (I.ok.hd hc) it lo 1 n;refine W.item i s _ _ hg st fun v h' tk hv st' kk=> ?_;obtain ⟨t,rfl⟩:=hv;have I1:Inv X pins σ H {s with heap:=h',toks:=tk}:=I.turned (fun b o hb e=>kk b o (by simpa using hb) e) f0 f1 f3 f4 f5;refine ⟨_,rfl,Il (s:={s with heap:=h',toks:=tk}) (n:= "range_iterator") st' rfl rfl (by decide) ⟨.int (lo+i),H,I1,⟨t, ?_⟩,⟨rfl,rfl⟩,st',fun b hb=>(hf b hb).1⟩⟩;rw [Int.mul_one]
 done:=by
  intro X hP hw hK hc i pins s σ H E I hf st hg;subst hP hw hK;obtain ⟨f0,f1,f2,f3,f4,f5⟩:=hf it (by simp);exact wpAny_pyNext_range_end (I.ok.hd hc) st (by have:n<=i:=hg;lia) fun h' eb=>⟨rfl,I.turned (t':=s.toks) (fun b o hb e=>eb b o hb e) f0 f1 f3 f4 f5⟩
 self:=fun _ _ _ _ _ st h=>wpAny_pyIter_rangeiter st h
end L2
namespace L2
open PySem PySem.Spec PyProof.Rows
section
variable {X:Cx} {tg:Expr}
def Xa (K:PySem.W.Frag) (tl:TE):TI:=fun σ H R=>tl σ H fun x H1=>∃a,x = .ref a/\(∃xs,bN K H1 a xs)/\R (Wj K a) H1
def ab2 (K:PySem.W.Frag) (tl:TE):TI:=fun σ H R=>tl σ H fun x H1=>∃a,x = .ref a/\(∃xs,cN K H1 a xs)/\R (Itt K a) H1
theorem Ve {l:Expr} {tl:TE} (hl:PE X l tl):PI X tg l (Xa X.K tl):=by
 intro pins s σ H R I h;refine dN (hl pins s σ H _ I h) fun v s1 ⟨x,H1,I1,r1,q1⟩=> ?_;obtain ⟨a,e,⟨xs,hq⟩,q⟩:=q1;subst e;cases r1;obtain ⟨its,rv,p,hz⟩:=I1.list hq;refine wpAny_pyIter_list p.isList ?_;refine ⟨s1.heap.objs.size,[s1.heap.objs.size],_,_,H1,rfl,I1.kept (t':=s1.toks) fun b o e=>Heap.get?_push_of_some _ e,Nf a _,⟨_,Heap.get?_push_size _ rfl,rfl,rfl⟩,fun b hb=> ?_,q⟩;have e:b=s1.heap.objs.size:=by simpa using hb
 subst e;exact I1.Ar (Nat.le_refl _) (I1.hok.fresh (Nat.le_refl _))
theorem YM {l:Expr} {tl:TE} (hl:PE X l tl):PI X tg l (ab2 X.K tl):=by
 intro pins s σ H R I h;refine dN (hl pins s σ H _ I h) fun v s1 ⟨x,H1,I1,r1,q1⟩=> ?_;obtain ⟨a,e,⟨xs,hq⟩,q⟩:=q1;subst e;cases r1;obtain ⟨its,rv,p,hz⟩:=I1.tuple hq;refine wpAny_pyIter_tuple (show s1.heap.IsTuple a its.toArray from p) ?_;refine ⟨s1.heap.objs.size,[s1.heap.objs.size],_,_,H1,rfl,I1.kept (t':=s1.toks) fun b o e=>Heap.get?_push_of_some _ e,Jz a _,⟨_,Heap.get?_push_size _ rfl,rfl,rfl⟩,fun b hb=> ?_,q⟩;have e:b=s1.heap.objs.size:=by simpa using hb
 subst e;exact I1.Ar (Nat.le_refl _) (I1.hok.fresh (Nat.le_refl _))
theorem Hq {pins:List (Addr×Obj)} {σ:St} {H:Hp} {s:Shared} {R:It->Hp->Prop} {E:Value->Shared->Prop} {lo hi:Int} {t u v:Tok} {tk:Nat} (I:Inv X pins σ H s) (h1: -(2 ^ 62)<=lo) (h2:lo<2 ^ 62) (h3: -(2 ^ 62)<=hi) (h4:hi<2 ^ 62)
 (q:R (Uc lo (hi - lo).toNat) H):wpAny (model X.prog X.w) X.A (pyIter (.ref s.heap.objs.size)) (PIE X pins σ tg R) E {s with heap:=s.heap.push {cls:= .type "range",data:= .fields #[.int lo t,.int hi u,.int 1 v]},toks:=tk}:=by
 refine wpAny_pyIter_range (IsRange.new ..) (small_one h1 h2 h3 h4) ?_;have I1:Inv X pins σ H {s with heap:=s.heap.push {cls:= .type "range",data:= .fields #[.int lo t,.int hi u,.int 1 v]},toks:=tk}:=I.kept fun b o e=>Heap.get?_push_of_some _ e
 refine ⟨(s.heap.push {cls:= .type "range",data:= .fields #[.int lo t,.int hi u,.int 1 v]}).objs.size,[(s.heap.push {cls:= .type "range",data:= .fields #[.int lo t,.int hi u,.int 1 v]}).objs.size],_,_,H,rfl,
  I1.kept (t':=tk) fun b o e=>Heap.get?_push_of_some _ e,JB _ lo (hi - lo).toNat, ?_,fun b hb=> ?_,q⟩
 ·have e1:lo+((0:Nat):Int)*1=lo:=by simp
  have e2:(((hi - lo).toNat:Nat):Int) - ((0:Nat):Int)=Builtin.Range.rangeSize lo hi 1:=by rw [rangeSize_one];split<;>lia
  show IsRangeIter _ _ (lo+((0:Nat):Int)*1) ((((hi - lo).toNat:Nat):Int) - ((0:Nat):Int)) 1;rw [e1,e2];exact Heap.get?_push_size _ rfl
 ·have e:b=(s.heap.push {cls:= .type "range",data:= .fields #[.int lo t,.int hi u,.int 1 v]}).objs.size:=by simpa using hb
  subst e;exact I1.Ar (Nat.le_refl _) (I1.hok.fresh (Nat.le_refl _))
def ab4 (ta:TA):TI:=fun σ H R=>ta σ H fun vs H1=>∃j:Int,vs=[.int j] /\ -(2 ^ 62)<=j/\j<2 ^ 62/\R (Uc 0 j.toNat) H1
def ab3 (ta:TA):TI:=fun σ H R=>ta σ H fun vs H1=>∃i j:Int,vs=[.int i,.int j]/\(-(2 ^ 62)<=i/\i<2 ^ 62 /\ -(2 ^ 62)<=j/\j<2 ^ 62)/\R (Uc i (j - i).toNat) H1
theorem jc {a:Expr} {ta:TA} {p pos:Pos} (hg:Gl X "range") (hm:X.mg "range" = none) (ha:PA X [a] ta) (hs:starEach [a] X.env=[(false,eval a X.env)]:=by rfl):PI X tg (.Call (.Name "range" p) [a] [] pos) (ab4 ta):=by
 intro pins s σ H R I h;refine Call_ (tW I hg hm boot_range (PyProof.Rows.callWith_type1 (dN (ha pos pins s σ H _ I h) fun us s1 ⟨vs,H1,I1,r1,q1⟩=> ?_) hs rfl));obtain ⟨j,e,q1,q2,q⟩:=q1;subst e;cases r1 with
 | cons r rr=>
   cases rr;obtain ⟨t,rfl⟩:=r;exact call_range_1 (Hq I1 (by lia) (by lia) q1 q2 (by simpa using q))
theorem Nr {a b:Expr} {ta:TA} {p pos:Pos} (hg:Gl X "range") (hm:X.mg "range" = none) (ha:PA X [a,b] ta) (hs:starEach [a,b] X.env=[(false,eval a X.env),(false,eval b X.env)]:=by rfl) (hs2:starEach [b] X.env=[(false,eval b X.env)]:=by rfl):
 PI X tg (.Call (.Name "range" p) [a,b] [] pos) (ab3 ta):=by
 intro pins s σ H R I h;refine Call_ (tW I hg hm boot_range (PyProof.Rows.callWith_type1 (dN (ha pos pins s σ H _ I h) fun us s1 ⟨vs,H1,I1,r1,q1⟩=> ?_) (by rw [hs,hs2]) (by rw [hs2];rfl)));obtain ⟨i,j,e,⟨q1,q2,q3,q4⟩,q⟩:=q1;subst e;cases r1 with
 | cons r rr=>
   cases rr with
   | cons r' rr=>
     cases rr;obtain ⟨t,rfl⟩:=r;obtain ⟨t',rfl⟩:=r';exact call_range_2 (Hq I1 q1 q2 q3 q4 q)
def afG (wi:TI) (g:TG) (tb:TS):TS:=fun D σ H=>wi σ H fun J H1=>∃W:Nat->Nat->St->Hp->Prop,(∃m,W 0 m σ H1) /\ ∀i m σ H,W i m σ H ->
 (J.stop i H/\D.nx σ H)\/(J.go i H /\ ∃N:St->Hp->Prop,(∀σ' H',N σ' H' -> ∃m',m'<m/\W (i+1) m' σ' H') /\ ∀x H',J.yld i H x H'->g x σ H' fun σ2 H2=>tb {D with nx:=N,ct:=N,bk:=D.nx} σ2 H2)
def z_ (fp:List Addr) (h:Heap):List (Addr×Obj):=fp.filterMap fun b=>(h.get? b).map fun o=>(b,o)
theorem pH {fp:List Addr} {h:Heap} {b:Addr} {o:Obj} (hb:b∈fp) (e:h.get? b=some o):(b,o)∈z_ fp h:=List.mem_filterMap.mpr ⟨b,hb,by rw [e];rfl⟩
theorem N8 {fp:List Addr} {h:Heap} {p:Addr×Obj} (hp:p∈z_ fp h):p.1∈fp/\h.get? p.1=some p.2:=by
 obtain ⟨b,hb,e⟩:=List.mem_filterMap.mp hp;cases q:h.get? b with
 | none=>rw [q] at e;cases e
 | some o=>
   rw [q] at e;have e':(b,o)=p:=Option.some.inj e;subst e';exact ⟨hb,q⟩
theorem Inv.pinned {pins:List (Addr×Obj)} {σ:St} {H:Hp} {s:Shared} {fp:List Addr} (I:Inv X pins σ H s) (hf:∀b∈fp,qW X pins H b) (ho:∀b∈fp,∃o,s.heap.get? b=some o /\ ∀v,o.data ≠ .cell v):Inv X (pins++z_ fp s.heap) σ H s:=
 I.Lq fun p hp=>(List.mem_append.mp hp).elim (fun z=>I.pin p (List.mem_append_right _ z)) fun z=>by
  obtain ⟨hb,e⟩:=N8 z;obtain ⟨f0,f1,f2,_⟩:=hf p.1 hb;obtain ⟨o,e',d⟩:=ho p.1 hb;rw [e] at e';cases e';exact ⟨e,f0,f1,f2,d⟩
theorem Inv.uy {pins pl:List (Addr×Obj)} {σ:St} {H:Hp} {s:Shared} (I:Inv X (pins++pl) σ H s):Inv X pins σ H s:=I.Lq fun p hp=>I.pin p (List.mem_append_right _ (List.mem_append_left _ hp))
theorem tU {iter:Expr} {body:List Stmt} {wi:TI} {g:TG} {tb:TS} {pos:Pos} (hp:PassesOwn (model X.prog X.w) X.A X.env X.xe) (hc:X.calm=true) (hi:PI X tg iter wi) (hg:PG X tg g) (hb:Jp X body tb)
 (hs:∀x,foldedSetIterable iter X.env x=pure x:=by intro _;rfl):PS X (.For tg iter body [] pos) (afG wi g tb):=by
 intro pins s σ H D I h;refine wpAny_For (dN (hi pins s σ H _ I h) fun v s1 h1=>dN h1 fun itv s2 h2=> ?_) hs;obtain ⟨it,fp,tn,J,H2,e,I2,T,st2,f2,W,⟨m0,w0⟩,turn⟩:=h2;subst e;have stat:∀{H':Hp},(∀b∈fp,H' b=none) -> ∀b∈fp,qW X pins H' b:=fun hn b hb=>⟨hn b hb,(f2 b hb).2⟩;refine codeAny_forLoop_any (fun n s'=>∃i σ' H',Inv X pins σ' H' s'/\tn i s'.heap/\(∀b∈fp,H' b=none)/\W i n σ' H') ?_ m0 ⟨0,σ,H2,I2,st2,fun b hb=>(f2 b hb).1,w0⟩;rintro n s3 ⟨i,σ3,H3,I3,st3,fr3,w3⟩;rcases turn i n σ3 H3 w3 with ⟨stop,qn⟩|⟨go,N,hN,step⟩
 ·refine wpAny_passesOwn hp (dN (T.done X rfl rfl rfl hc i pins s3 σ3 H3 X.xe I3 (stat fr3) st3 stop) fun r s4 ⟨hr,I4⟩=> ?_)
  subst hr;exact wpAny_execs_nil ⟨σ3,H3,I4,qn⟩
 ·refine wpAny_passesOwn hp (dN (T.item X rfl rfl rfl hc i pins s3 σ3 H3 X.xe I3 (stat fr3) st3 go) fun r s4 ⟨u,hr,h4⟩=> ?_)
  subst hr;refine wpAny_passesOwn hp (dN h4 fun _ s5 ⟨x,H5,I5,r5,y5,GX,fr5⟩=> ?_);have I5':=I5.pinned (stat fr5) (T.obj _ _ GX);refine wpAny_passesOwn hp (dN (hg _ s5 σ3 H5 x u _ I5' r5 (step x H5 y5)) fun _ s6 ⟨σ6,H6,I6,q6⟩=> ?_);refine wpAny_passesOwn hp (dN (hb _ s6 σ6 H6 _ I6 q6) fun f s7 q7=> ?_)
  have again:∀{σ7:St} {H7:Hp},Inv X (pins++z_ fp s5.heap) σ7 H7 s7->N σ7 H7 -> ∃m,m<n /\ ∃i σ' H',Inv X pins σ' H' s7/\tn i s7.heap/\(∀b∈fp,H' b=none)/\W i m σ' H':=fun {σ7 H7} I7 n7=>by
   obtain ⟨m',hm,w7⟩:=hN σ7 H7 n7;refine ⟨m',hm,i+1,σ7,H7,I7.uy,T.keep _ _ _ GX fun b hb o e=>(I7.pin (b,o) (List.mem_append_right _ (List.mem_append_right _ (pH hb e)))).1,fun b hb=> ?_,w7⟩;obtain ⟨o,e,d⟩:=T.obj _ _ GX b hb;exact (I7.pin (b,o) (List.mem_append_right _ (List.mem_append_right _ (pH hb e)))).2.1
  cases f with
  | next=>obtain ⟨σ7,H7,I7,n7⟩:=q7;exact again I7 n7
  | cont=>obtain ⟨σ7,H7,I7,n7⟩:=q7;exact again I7 n7
  | brk=>obtain ⟨σ7,H7,I7,q7⟩:=q7;exact ⟨σ7,H7,I7.uy,q7⟩
  | ret v=>obtain ⟨x7,σ7,H7,I7,r7,q7⟩:=q7;exact ⟨x7,σ7,H7,I7.uy,r7,q7⟩
end
theorem vg {K:PySem.W.Frag} {a:Addr} {xs:List V} {g:TG} {tb:TS} {D:Ends} {σ:St} {H:Hp} (Pv:Nat->St->Hp->Prop) (h0:Pv 0 σ H) (hl:∀i σ H,i<=xs.length->Pv i σ H->bN K H a xs)
 (hs:∀i x σ H,xs[i]? = some x->Pv i σ H->g x σ H fun σ2 H2=>tb {D with nx:=Pv (i+1),ct:=Pv (i+1),bk:=D.nx} σ2 H2) (hd:∀σ H,Pv xs.length σ H->D.nx σ H):
 ∃W:Nat->Nat->St->Hp->Prop,(∃m,W 0 m σ H) /\ ∀i m σ H,W i m σ H ->
  ((Wj K a).stop i H/\D.nx σ H)\/((Wj K a).go i H /\ ∃N:St->Hp->Prop,(∀σ' H',N σ' H' -> ∃m',m'<m/\W (i+1) m' σ' H') /\ ∀x H',(Wj K a).yld i H x H'->g x σ H' fun σ2 H2=>tb {D with nx:=N,ct:=N,bk:=D.nx} σ2 H2):=by
 refine ⟨fun i m σ H=>m=xs.length - i/\i<=xs.length/\Pv i σ H,⟨xs.length,by simp,Nat.zero_le _,h0⟩, ?_⟩;rintro i m σ H ⟨rfl,hi,p⟩;have q:=hl i σ H hi p
 by_cases hlt:i<xs.length
 ·refine .inr ⟨⟨xs,xs[i],q,by simp [hlt]⟩,Pv (i+1),fun σ' H' p'=>⟨xs.length - (i+1),by lia,rfl,hlt,p'⟩,fun x H' y=> ?_⟩
  obtain ⟨e,y⟩:=y;subst e;exact hs i x σ _ (y xs q) p
 ·have e:i=xs.length:=by lia
  subst e;exact .inl ⟨⟨xs,q,Nat.le_refl _⟩,hd σ H p⟩
theorem Dq {lo:Int} {n:Nat} {g:TG} {tb:TS} {D:Ends} {σ:St} {H:Hp} (Pv:Nat->St->Hp->Prop) (h0:Pv 0 σ H)
 (hs:∀i σ H,i<n->Pv i σ H->g (.int (lo+i)) σ H fun σ2 H2=>tb {D with nx:=Pv (i+1),ct:=Pv (i+1),bk:=D.nx} σ2 H2) (hd:∀σ H,Pv n σ H->D.nx σ H):
 ∃W:Nat->Nat->St->Hp->Prop,(∃m,W 0 m σ H) /\ ∀i m σ H,W i m σ H ->
  ((Uc lo n).stop i H/\D.nx σ H)\/((Uc lo n).go i H /\ ∃N:St->Hp->Prop,(∀σ' H',N σ' H' -> ∃m',m'<m/\W (i+1) m' σ' H') /\ ∀x H',(Uc lo n).yld i H x H'->g x σ H' fun σ2 H2=>tb {D with nx:=N,ct:=N,bk:=D.nx} σ2 H2):=by
 refine ⟨fun i m σ H=>m=n - i/\i<=n/\Pv i σ H,⟨n,by simp,Nat.zero_le _,h0⟩, ?_⟩;rintro i m σ H ⟨rfl,hi,p⟩
 by_cases hlt:i<n
 ·refine .inr ⟨hlt,Pv (i+1),fun σ' H' p'=>⟨n - (i+1),by lia,rfl,hlt,p'⟩,fun x H' y=> ?_⟩
  obtain ⟨e,y⟩:=y;subst e y;exact hs i σ _ hlt p
 ·have e:i=n:=by lia
  subst e;exact .inl ⟨Nat.le_refl _,hd σ H p⟩
end L2
namespace L2
open PySem PySem.Spec PyProof.Rows
abbrev R2:=V->V->Hp->VK->Prop
def rZ (X:Cx) (f:Value->Value->Sem Value) (r:R2):Prop:=
 ∀(pins:List (Addr×Obj)) (s:Shared) (σ:St) (H:Hp) (x y:V) (v u:Value) (Q:VK),Inv X pins σ H s->RelV x v->RelV y u->r x y H Q ->
  wpAny (model X.prog X.w) X.A (f v u) (EP X pins σ Q) X.xe s
def UnR (X:Cx) (f:Value->Sem Value) (r:V->Hp->VK->Prop):Prop:=
 ∀(pins:List (Addr×Obj)) (s:Shared) (σ:St) (H:Hp) (x:V) (v:Value) (Q:VK),Inv X pins σ H s->RelV x v->r x H Q ->
  wpAny (model X.prog X.w) X.A (f v) (EP X pins σ Q) X.xe s
def jy (X:Cx) (f:Value) (r:List V->Hp->VK->Prop):Prop:=
 ∀(pins:List (Addr×Obj)) (s:Shared) (σ:St) (H:Hp) (xs:List V) (us:List Value) (Q:VK),Inv X pins σ H s->Vals xs us->r xs H Q ->
  wpAny (model X.prog X.w) X.A (call f us) (EP X pins σ Q) X.xe s
def amB (X:Cx) (r:V->Hp->(Bool->Hp->Prop)->Prop):Prop:=
 ∀(pins:List (Addr×Obj)) (s:Shared) (σ:St) (H:Hp) (x:V) (v:Value) (Q:Bool->Hp->Prop),Inv X pins σ H s->RelV x v->r x H Q ->
  wpAny (model X.prog X.w) X.A (truthy v) (TP X pins σ Q) X.xe s
def tOp (r:R2) (ta tb:TE):TE:=fun σ H Q=>ta σ H fun x H1=>tb σ H1 fun y H2=>r x y H2 Q
def tUn (r:V->Hp->VK->Prop) (ta:TE):TE:=fun σ H Q=>ta σ H fun x H1=>r x H1 Q
def rI (C:Int->Int->Prop) (g:Int->Int->V):R2:=fun x y H Q=>∃i j,x = .int i/\y = .int j/\C i j/\Q (g i j) H
def WT (g:Int->Int->V):R2:=fun x y H Q=>∃i j,x = .int i/\y = .int j/\Q (g i j) H
def rU (g:Int->V):V->Hp->VK->Prop:=fun x H Q=>∃i,x = .int i/\Q (g i) H
section
variable {X:Cx} {a b c:Expr} {ta tb tc:TE} {pos:Pos}
theorem aad (ha:PE X a ta) (hb:PE X b tb) {pins:List (Addr×Obj)} {s:Shared} {σ:St} {H:Hp} {R:V->V->Hp->Prop} (I:Inv X pins σ H s)
 (h:ta σ H fun x H1=>tb σ H1 fun y H2=>R x y H2) {Q:Value->Shared->Prop} {f:Value->Value->Sem Value}
 (hf:∀v u s2 x y H2,Inv X pins σ H2 s2->RelV x v->RelV y u->R x y H2->wpAny (model X.prog X.w) X.A (f v u) Q X.xe s2):
 wpAny (model X.prog X.w) X.A (eval a X.env) (fun v s₁=>wpAny (model X.prog X.w) X.A (eval b X.env) (fun u s₂=>wpAny (model X.prog X.w) X.A (f v u) Q X.xe s₂) X.xe s₁) X.xe s:=by
 refine dN (ha pins s σ H _ I h) fun v s1 ⟨x,H1,I1,r1,q1⟩=> ?_;refine dN (hb pins s1 σ H1 _ I1 q1) fun u s2 ⟨y,H2,I2,r2,q2⟩=> ?_;exact hf v u s2 x y H2 I2 r1 r2 q2
theorem bY {op:Operator} {r:R2} (ho:rZ X (binaryOp op) r) (ha:PE X a ta) (hb:PE X b tb):PE X (.BinOp a op b pos) (tOp r ta tb):=by
 intro pins s σ H Q I h;exact wpAny_BinOp (aad ha hb I h fun v u s2 x y H2 I2 rx ry q=>ho pins s2 σ H2 x y v u Q I2 rx ry q)
theorem Lx {op:UnaryOp} {r:V->Hp->VK->Prop} (ho:UnR X (unaryOp op) r) (ha:PE X a ta):PE X (.UnaryOp op a pos) (tUn r ta):=by
 intro pins s σ H Q I h;exact UnaryOp_ (dN (ha pins s σ H _ I h) fun v s1 ⟨x,H1,I1,r1,q1⟩=>ho pins s1 σ H1 x v Q I1 r1 q1)
theorem opI {f:Value->Value->Sem Value} {C:Int->Int->Prop} {g:Int->Int->Int}
 (rule:∀(i j:Int) (t u:Tok) (s:Shared) (Q:Value->Shared->Prop) (E:Value->Shared->Prop),C i j->Q (.int (g i j) s.toks) {s with toks:=s.toks+1}->wpAny (model X.prog X.w) X.A (f (.int i t) (.int j u)) Q E s):
 rZ X f (rI C fun i j=> .int (g i j)):=by
 intro pins s σ H x y v u Q I rx ry h;obtain ⟨i,j,rfl,rfl,hc,q⟩:=h;obtain ⟨t,rfl⟩:=rx;obtain ⟨t',rfl⟩:=ry;exact rule i j t t' s _ _ hc ⟨.int (g i j),H,I.tok _,⟨_,rfl⟩,q⟩
theorem abE {f:Value->Value->Sem Value} {g:Int->Int->Int}
 (rule:∀(i j:Int) (t u:Tok) (s:Shared) (Q:Value->Shared->Prop) (E:Value->Shared->Prop),Q (.int (g i j) s.toks) {s with toks:=s.toks+1}->wpAny (model X.prog X.w) X.A (f (.int i t) (.int j u)) Q E s):
 rZ X f (WT fun i j=> .int (g i j)):=by
 intro pins s σ H x y v u Q I rx ry h;obtain ⟨i,j,rfl,rfl,q⟩:=h;obtain ⟨t,rfl⟩:=rx;obtain ⟨t',rfl⟩:=ry;exact rule i j t t' s _ _ ⟨.int (g i j),H,I.tok _,⟨_,rfl⟩,q⟩
theorem Vj {f:Value->Value->Sem Value} {g:Int->Int->Bool}
 (rule:∀(i j:Int) (t u:Tok) (s:Shared) (Q:Value->Shared->Prop) (E:Value->Shared->Prop),Q (.bool (g i j)) s->wpAny (model X.prog X.w) X.A (f (.int i t) (.int j u)) Q E s):
 rZ X f (WT fun i j=> .bl (g i j)):=by
 intro pins s σ H x y v u Q I rx ry h;obtain ⟨i,j,rfl,rfl,q⟩:=h;obtain ⟨t,rfl⟩:=rx;obtain ⟨t',rfl⟩:=ry;exact rule i j t t' s _ _ ⟨.bl (g i j),H,I,rfl,q⟩
def Jt (i j:Int):Prop:=0<=j/\j<=1000000/\i.natAbs<2 ^ 64
def aao (i j:Int):Prop:=(-(2 ^ 64)<i/\i<2 ^ 64)\/(-(2 ^ 64)<j/\j<2 ^ 64)
theorem aao.ok {i j:Int} (h:aao i j):IntMulOk i j:=by
 rcases h with ⟨h1,h2⟩|⟨h1,h2⟩
 ·exact .of_left (intBits_le_64 h1 h2)
 ·exact .of_right (intBits_le_64 h1 h2)
theorem lU:rZ X (binaryOp .Add) (WT fun i j=> .int (i+j)):=abE fun _ _ _ _ _ _ _ q=>add_int q
theorem Ab:rZ X (binaryOp .Sub) (WT fun i j=> .int (i - j)):=abE fun _ _ _ _ _ _ _ q=>sub_int q
theorem Fg:rZ X (binaryOp .Mult) (rI aao fun i j=> .int (i*j)):=opI fun _ _ _ _ _ _ _ hc q=>mul_int q hc.ok
theorem pF:rZ X (binaryOp .Mod) (rI (fun _ j=>0<j) fun i j=> .int (i % j)):=opI fun i j _ _ _ _ _ hc q=>by
 have h1:(0:Int)<j:=hc;exact mod_int' (by lia) (by rw [Int.fmod_eq_emod_of_nonneg i (by lia)];exact q)
theorem qD:rZ X (binaryOp .Pow) (rI Jt fun i j=> .int (i ^ j.toNat)):=opI fun _ _ _ _ _ _ _ hc q=>pow_int_small hc.1 hc.2.1 hc.2.2 q
theorem unI {f:Value->Sem Value} {g:Int->Int}
 (rule:∀(i:Int) (t:Tok) (s:Shared) (Q:Value->Shared->Prop) (E:Value->Shared->Prop),Q (.int (g i) s.toks) {s with toks:=s.toks+1}->wpAny (model X.prog X.w) X.A (f (.int i t)) Q E s):
 UnR X f (rU fun i=> .int (g i)):=by
 intro pins s σ H x v Q I rx h;obtain ⟨i,rfl,q⟩:=h;obtain ⟨t,rfl⟩:=rx;exact rule i t s _ _ ⟨.int (g i),H,I.tok _,⟨_,rfl⟩,q⟩
theorem Eh:UnR X (unaryOp .USub) (rU fun i=> .int (-i)):=unI fun _ _ _ _ _ q=>neg_int q
end
def abm:V->V->Bool
 | .non,.non=>true | .non,.int _=>true | .int _,.non=>true | .non,.bl _=>true | .bl _,.non=>true | .non,.str _=>true | .str _,.non=>true
 | .int _,.int _=>true | .bl _,.bl _=>true | .str _,.str _=>true | .Kz _,.Kz _=>true
 | .int _,.str _=>true | .str _,.int _=>true | .bl _,.str _=>true | .str _,.bl _=>true
 | _,_=>false
def rEq:R2:=fun x y H Q=>abm x y=true/\Q (.bl (decide (x=y))) H
def rNe:R2:=fun x y H Q=>abm x y=true/\Q (.bl (!decide (x=y))) H
theorem Mt {i j:Int}:decide (V.int i=V.int j)=(i==j):=by
 rw [Bool.eq_iff_iff];simp
theorem Sv {i j:Bool}:decide (V.bl i=V.bl j)=(i==j):=by
 rw [Bool.eq_iff_iff];simp
theorem Ms {i j:Str}:decide (V.str i=V.str j)=(i==j):=by
 rw [Bool.eq_iff_iff];simp
theorem Mu {i j:Array UInt8}:decide (V.Kz i=V.Kz j)=(i.toList==j.toList):=by
 rw [Bool.eq_iff_iff];cases i;cases j;simp
section
variable {X:Cx} {a b c:Expr} {ta tb tc:TE} {pos:Pos}
theorem cI {pins:List (Addr×Obj)} {σ:St} {H:Hp} {s:Shared} {Q:VK} {k k':Bool} (I:Inv X pins σ H s) (q:Q (.bl k) H) (e:k=k'):EP X pins σ Q (.bool k') s:=by
 subst e;exact ⟨.bl k,H,I,rfl,q⟩
theorem h_:rZ X (compareOp .Eq) rEq:=by
 intro pins s σ H x y v u Q I rx ry h;obtain ⟨hs,q⟩:=h;cases x with
 | non=>
   cases rx;cases y with
   | non=>cases ry;exact PySem.EqNone.eq_none_none (cI I q (by simp))
   | bl j=>cases ry;exact PySem.EqNone.eq_none_bool (cI I q (by simp))
   | int j=>obtain ⟨t',rfl⟩:=ry;exact PySem.EqNone.eq_none_int (cI I q (by simp))
   | str j=>obtain ⟨t',rfl⟩:=ry;exact PySem.EqNone.eq_none_str (cI I q (by simp))
   | _=>exact absurd (show false=true from hs) Bool.false_ne_true
 | bl i=>
   cases rx;cases y with
   | non=>cases ry;exact PySem.EqNone.eq_bool_none (cI I q (by simp))
   | bl j=>cases ry;exact eq_bool (cI I q Sv)
   | str j=>obtain ⟨t',rfl⟩:=ry;exact PySem.EqMixed.eq_bool_str (cI I q (by simp))
   | _=>exact absurd (show false=true from hs) Bool.false_ne_true
 | int i=>
   obtain ⟨t,rfl⟩:=rx;cases y with
   | non=>cases ry;exact PySem.EqNone.eq_int_none (cI I q (by simp))
   | int j=>obtain ⟨t',rfl⟩:=ry;exact eq_int (cI I q Mt)
   | str j=>obtain ⟨t',rfl⟩:=ry;exact PySem.EqMixed.eq_int_str (cI I q (by simp))
   | _=>exact absurd (show false=true from hs) Bool.false_ne_true
 | str i=>
   obtain ⟨t,rfl⟩:=rx;cases y with
   | non=>cases ry;exact PySem.EqNone.eq_str_none (cI I q (by simp))
   | bl j=>cases ry;exact PySem.EqMixed.eq_str_bool (cI I q (by simp))
   | int j=>obtain ⟨t',rfl⟩:=ry;exact PySem.EqMixed.eq_str_int (cI I q (by simp))
   | str j=>obtain ⟨t',rfl⟩:=ry;exact eq_str (cI I q Ms)
   | _=>exact absurd (show false=true from hs) Bool.false_ne_true
 | Kz i=>
   obtain ⟨t,rfl⟩:=rx;cases y with
   | Kz j=>obtain ⟨t',rfl⟩:=ry;exact PySem.W.eq_bytes (cI I q Mu)
   | _=>exact absurd (show false=true from hs) Bool.false_ne_true
 | _=>cases y<;>exact absurd (show false=true from hs) Bool.false_ne_true
theorem rT:rZ X (compareOp .NotEq) rNe:=by
 intro pins s σ H x y v u Q I rx ry h;obtain ⟨hs,q⟩:=h;cases x with
 | non=>
   cases rx;cases y with
   | non=>cases ry;exact PySem.EqNone.ne_none_none (cI I q (by simp))
   | bl j=>cases ry;exact PySem.EqNone.ne_none_bool (cI I q (by simp))
   | int j=>obtain ⟨t',rfl⟩:=ry;exact PySem.EqNone.ne_none_int (cI I q (by simp))
   | str j=>obtain ⟨t',rfl⟩:=ry;exact PySem.EqNone.ne_none_str (cI I q (by simp))
   | _=>exact absurd (show false=true from hs) Bool.false_ne_true
 | bl i=>
   cases rx;cases y with
   | non=>cases ry;exact PySem.EqNone.ne_bool_none (cI I q (by simp))
   | bl j=>cases ry;exact ne_bool (cI I q (congrArg not Sv))
   | str j=>obtain ⟨t',rfl⟩:=ry;exact PySem.EqMixed.ne_bool_str (cI I q (by simp))
   | _=>exact absurd (show false=true from hs) Bool.false_ne_true
 | int i=>
   obtain ⟨t,rfl⟩:=rx;cases y with
   | non=>cases ry;exact PySem.EqNone.ne_int_none (cI I q (by simp))
   | int j=>obtain ⟨t',rfl⟩:=ry;exact ne_int (cI I q (congrArg not Mt))
   | str j=>obtain ⟨t',rfl⟩:=ry;exact PySem.EqMixed.ne_int_str (cI I q (by simp))
   | _=>exact absurd (show false=true from hs) Bool.false_ne_true
 | str i=>
   obtain ⟨t,rfl⟩:=rx;cases y with
   | non=>cases ry;exact PySem.EqNone.ne_str_none (cI I q (by simp))
   | bl j=>cases ry;exact PySem.EqMixed.ne_str_bool (cI I q (by simp))
   | int j=>obtain ⟨t',rfl⟩:=ry;exact PySem.EqMixed.ne_str_int (cI I q (by simp))
   | str j=>obtain ⟨t',rfl⟩:=ry;exact ne_str (cI I q (congrArg not Ms))
   | _=>exact absurd (show false=true from hs) Bool.false_ne_true
 | Kz i=>
   obtain ⟨t,rfl⟩:=rx;cases y with
   | Kz j=>obtain ⟨t',rfl⟩:=ry;exact PySem.W.ne_bytes (cI I q (congrArg not Mu))
   | _=>exact absurd (show false=true from hs) Bool.false_ne_true
 | _=>cases y<;>exact absurd (show false=true from hs) Bool.false_ne_true
theorem Ac:rZ X (compareOp .Lt) (WT fun i j=> .bl (decide (i<j))):=Vj fun _ _ _ _ _ _ _ q=>lt_int q
theorem WY:rZ X (compareOp .LtE) (WT fun i j=> .bl (decide (i<=j))):=Vj fun _ _ _ _ _ _ _ q=>le_int q
theorem abD:rZ X (compareOp .Gt) (WT fun i j=> .bl (decide (j<i))):=Vj fun _ _ _ _ _ _ _ q=>gt_int q
theorem W0:rZ X (compareOp .GtE) (WT fun i j=> .bl (decide (j<=i))):=Vj fun _ _ _ _ _ _ _ q=>ge_int q
theorem Fi:rZ X (compareOp .Is) (fun x y H Q=>y = .non/\Q (.bl (decide (x = .non))) H):=by
 intro pins s σ H x y v u Q I rx ry h;obtain ⟨rfl,q⟩:=h;cases ry;refine is_none_gen (cI I q ?_)
 cases x<;>first
  | (cases rx;rfl)
  | (obtain ⟨t,rfl⟩:=rx;rfl)
theorem Fe:rZ X (compareOp .IsNot) (fun x y H Q=>y = .non/\Q (.bl (!decide (x = .non))) H):=by
 intro pins s σ H x y v u Q I rx ry h;obtain ⟨rfl,q⟩:=h;cases ry;refine isnot_none_gen (cI I q ?_)
 cases x<;>first
  | (cases rx;rfl)
  | (obtain ⟨t,rfl⟩:=rx;rfl)
def isObj:HO->Bool
 | .lst _=>true
 | .ins _ _ _=>true
 | _=>false
theorem bJ (b:Expr) {op:CmpOp} (h:op ≠ .In:=by decide) (h2:op ≠ .NotIn:=by decide):behindInMarks op b=false:=by
 have e1:(op==CmpOp.In)=false:=by cases op<;>first |rfl|exact absurd rfl h
 have e2:(op==CmpOp.NotIn)=false:=by cases op<;>first |rfl|exact absurd rfl h2
 cases b<;>simp [behindInMarks,e1,e2]
theorem gB {op:CmpOp} {r:R2} (ho:rZ X (compareOp op) r) (ha:PE X a ta) (hb:PE X b tb) (hm:behindInMarks op b=false):PE X (.Compare a [op] [b] pos) (tOp r ta tb):=by
 intro pins s σ H Q I h;exact wpAny_Compare1 (aad ha hb I h fun v u s2 x y H2 I2 rx ry q=>ho pins s2 σ H2 x y v u Q I2 rx ry q) hm
def aa8 (t:TE):TT:=fun σ H Q=>t σ H fun x H'=>∃k,x = .bl k/\Q k H'
theorem bM {op:CmpOp} {r:R2} (ho:rZ X (compareOp op) r) (ha:PE X a ta) (hb:PE X b tb) (hm:behindInMarks op b=false):PT X (.Compare a [op] [b] pos) (aa8 (tOp r ta tb)):=by
 intro pins s σ H Q I h
 refine wpAny_isTrue_Compare1 (dN (ha pins s σ H _ I h) fun v s1 ⟨x,H1,I1,r1,q1⟩=>dN (hb pins s1 σ H1 _ I1 q1) fun u s2 ⟨y,H2,I2,r2,q2⟩=>
  dN (ho pins s2 σ H2 x y v u _ I2 r1 r2 q2) fun c s3 ⟨z,H3,I3,r3,k,e,q3⟩=> ?_) hm
 subst e;cases r3;exact wpAny_truthy_bool ⟨H3,I3,q3⟩
def Yi (r r':R2) (ta tb tc:TE):TE:=fun σ H Q=>ta σ H fun x H1=>tb σ H1 fun y H2=>r x y H2 fun z H3=>∃k,z = .bl k /\
 (if k=true then tc σ H3 fun w' H4=>r' y w' H4 Q else Q (.bl false) H3)
theorem QV {op op':CmpOp} {r r':R2} (ho:rZ X (compareOp op) r) (ho':rZ X (compareOp op') r') (ha:PE X a ta) (hb:PE X b tb) (hc:PE X c tc)
 (hm:lastMarks [op,op'] [b,c]=false:=by with_unfolding_all rfl):PE X (.Compare a [op,op'] [b,c] pos) (Yi r r' ta tb tc):=by
 intro pins s σ H Q I h
 refine Compare_chain (dN (ha pins s σ H _ I h) fun v s1 ⟨x,H1,I1,r1,q1⟩=>chain_link (dN (hb pins s1 σ H1 _ I1 q1) fun u s2 ⟨y,H2,I2,r2,q2⟩=>
  dN (ho pins s2 σ H2 x y v u _ I2 r1 r2 q2) fun d s3 ⟨z,H3,I3,r3,k,e,q3⟩=> ?_)) hm
 subst e;cases r3;refine wpAny_truthy_bool ?_;cases k with
 | false=>exact ite_ff ⟨.bl false,H3,I3,rfl,q3⟩
 | true=>exact ite_tt (chain_last (dN (hc pins s3 σ H3 _ I3 q3) fun w' s4 ⟨z',H4,I4,r4,q4⟩=>ho' pins s4 σ H4 y z' u w' Q I4 r2 r4 q4))
def aag (K:PySem.W.Frag) (x:V) (H:Hp) (k:Bool):Prop:=
 match x with
 | .non=>k=false
 | .bl b=>k=b
 | .int i=>k=(i != 0)
 | .str y=>y.length<=sizeLine/\k=((y.length:Int) != 0)
 | .Kz y=>y.size<=sizeLine/\k=((y.size:Int) != 0)
 | .ref p=>(∃xs,bN K H p xs/\k = !xs.isEmpty)\/(∃xs,cN K H p xs/\k = !xs.isEmpty) \/ ∃kvs,H p=some (.dK kvs)/\k = !kvs.isEmpty
 | _=>False
theorem Ko {κ:Type} {kvs:List (κ×V)} {vs:List (κ×Value)} (r:KV kvs vs):(!vs.isEmpty) = !kvs.isEmpty:=by
 cases r<;>rfl
theorem Ak {xs:List V} {its:List Value} (r:Vals xs its):(!its.toArray.isEmpty) = !xs.isEmpty:=by
 cases r<;>simp
theorem wC:(sizeLine:Nat)<2 ^ 63:=by rw [sizeLine_eq];decide
theorem X3:amB X (fun x H Q=>∃k,aag X.K x H k/\Q k H):=by
 intro pins s σ H x v Q I rx h;obtain ⟨k,e,q⟩:=h;have hl:=wC;have hs:sizeLine=16777216:=sizeLine_eq;cases x with
 | non=>
   cases rx;have e':k=false:=e;subst e';exact truthy_none ⟨H,I,q⟩
 | bl b=>
   cases rx;have e':k=b:=e;subst e';exact wpAny_truthy_bool ⟨H,I,q⟩
 | int i=>
   obtain ⟨t,rfl⟩:=rx;have e':k=(i != 0):=e;subst e';exact PySem.P.truthy_int ⟨H,I,q⟩
 | str y=>
   obtain ⟨t,rfl⟩:=rx;obtain ⟨hy,e'⟩:y.length<=sizeLine/\k=((y.length:Int) != 0):=e;subst e';exact PySem.P.truthy_str (by lia) ⟨H,I.tok _,q⟩
 | Kz y=>
   obtain ⟨t,rfl⟩:=rx;obtain ⟨hy,e'⟩:y.size<=sizeLine/\k=((y.size:Int) != 0):=e;subst e';exact PySem.W.truthy_bytes (by lia) ⟨H,I.tok _,q⟩
 | ref p=>
   cases rx;have e':(∃xs,bN X.K H p xs/\k = !xs.isEmpty)\/(∃xs,cN X.K H p xs/\k = !xs.isEmpty) \/ ∃kvs,H p=some (.dK kvs)/\k = !kvs.isEmpty:=e;rcases e' with ⟨xs,hx,e'⟩|⟨xs,hx,e'⟩|⟨kvs,hx,e'⟩
   ·subst e'
    obtain ⟨its,r,pl,hz⟩:=I.list hx;have hlen:=r.length;exact wpAny_truthy_list pl.isList (by simp only [List.size_toArray];lia) ⟨H,I.tok _,by rw [Ak r];exact q⟩
   ·subst e'
    obtain ⟨its,r,pl,hz⟩:=I.tuple hx;have hlen:=r.length;exact truthy_tuple pl (by simp only [List.size_toArray];lia) ⟨H,I.tok _,by rw [Ak r];exact q⟩
   ·subst e'
    obtain ⟨hz,hS,vs,r,m⟩:kvs.length<=sizeLine/\(p==sysModules)=false /\ ∃vs,KV kvs vs/\s.heap.DictOf (gC X.prog X.w) p vs:=I.hok p _ hx;have hlen:kvs.length=vs.length:=Paired.length r;exact wpAny_truthy_dict hS m (by lia) ⟨H,I.tok _,by rw [Ko r];exact q⟩
 | _=>exact (show False from e).elim
theorem Qy (ha:PE X a ta) (he:∀whole,isTrue a X.env whole=(do let v ←whole;standAt a.pos;holding [v] (truthy v))):
 PT X a (fun σ H Q=>ta σ H fun x H'=>∃k,aag X.K x H' k/\Q k H'):=by
 intro pins s σ H Q I h;exact isTrue_plain (dN (ha pins s σ H _ I h) fun v s1 ⟨x,H1,I1,r1,q1⟩=>X3 pins s1 σ H1 x v Q I1 r1 q1) (he _)
theorem vals1 {x:V} {us:List Value} (r:Vals [x] us):∃u,us=[u]/\RelV x u:=by
 cases r with
 | cons r1 r2=>cases r2;exact ⟨_,rfl,r1⟩
theorem vals2 {x y:V} {us:List Value} (r:Vals [x,y] us):∃u w',us=[u,w']/\RelV x u/\RelV y w':=by
 cases r with
 | cons r1 r2=>
   cases r2 with
   | cons r3 r4=>cases r4;exact ⟨_,_,rfl,r1,r3⟩
theorem DN (hc:X.calm=true):jy X (.builtin "min") (fun xs H Q=>∃i j,xs=[.int i,.int j]/\Q (.int (if j<i then j else i)) H):=by
 intro pins s σ H xs us Q I r h;obtain ⟨i,j,rfl,q⟩:=h;obtain ⟨u,w',rfl,⟨t,rfl⟩,⟨t',rfl⟩⟩:=vals2 r;refine min_two_ints (I.ok.hd hc) fun h' tk k=>⟨_,H,I.kept k, ?_,q⟩
 by_cases hj:j<i
 ·rw [if_pos hj,if_pos hj];exact ⟨_,rfl⟩
 ·rw [if_neg hj,if_neg hj];exact ⟨_,rfl⟩
theorem wL:jy X (.type "int") (fun xs H Q=>(∃i,xs=[.int i]/\Q (.int i) H) \/ ∃k,xs=[.bl k]/\Q (.int (if k then 1 else 0)) H):=by
 intro pins s σ H xs us Q I r h;rcases h with ⟨i,rfl,q⟩|⟨k,rfl,q⟩
 ·obtain ⟨u,rfl,t,rfl⟩:=vals1 r
  exact call_int_int ⟨.int i,H,I,⟨_,rfl⟩,q⟩
 ·obtain ⟨u,rfl,r1⟩:=vals1 r
  cases r1;exact call_int_bool ⟨.int (if k then 1 else 0),H,I.tok _,⟨_,rfl⟩,q⟩
end
end L2
namespace L2
open PySem PySem.Spec PyProof.Rows
structure K4 (h:Heap) (x dx C:Addr) (mA:Str->Option Value):Prop where
 obj:h.get? x=some (PySem.W.instObj C dx)
 ns:h.Ns1 dx mA
 ne:dx≠x
theorem Dd {h:Heap} {dx:Addr} {mA:Str->Option Value} (n:h.Ns1 dx mA):∃od,h.get? dx=some od /\ ∀name,PySem.W.lookIn name od=some (mA name):=by
 obtain ⟨o,es,ep,ho,hd,hk,_,hm⟩:=n;refine ⟨o,ho,fun name=> ?_⟩;have e:=hm name;unfold nsFind findBy at e;rw [←Array.find?_toList] at e;unfold PySem.W.lookIn;rw [hd];dsimp only;split
 ·rename_i y q
  rw [q] at e;exact congrArg some e
 ·rename_i q
  rw [q] at e
  have a:es.toList.any (·.refKey)=false:=by
   rw [List.any_eq_false];intro y hy;obtain ⟨z,t,hkey⟩:=hk y (Array.mem_toList_iff.mp hy);simp [DictEntry.refKey,hkey]
  have a':¬es.toList.any (·.refKey)=true:=by rw [a];exact Bool.false_ne_true
  rw [if_neg a'];exact congrArg some e
theorem K4.look {h:Heap} {x dx C:Addr} {mA:Str->Option Value} (I:K4 h x dx C mA):∃od,PySem.W.InstAt h x (PySem.W.instObj C dx) C (some od) /\ ∀name,PySem.W.lookIn name od=some (mA name):=
 let ⟨od,ho,hl⟩:=Dd I.ns
 ⟨od,⟨I.obj,rfl,rfl,ho⟩,hl⟩
section
variable {prog:Program} {w:World} {A:Around} {E:Value->Shared->Prop} {s:Shared} {K:PySem.W.Frag} {x dx C f:Addr} {mA:Str->Option Value} {name:Str} {v:Value}
theorem get_map {expr:Bool} {Q:Value->Shared->Prop} (X:K.In s.heap) (I:K4 s.heap x dx C mA) (hg:PySem.W.plainGet K C name=true) (hh:PySem.W.hasDictIn K C=true)
 (ha:PySem.W.findIn K (.ref C) name=some none) (hv:mA name=some v) (hv':PySem.W.handedIn v=true) (h:Q v {s with toks:=s.toks+1}):
 wpAny (model prog w) A (getAttr (.ref x) name expr) Q E s:=by
 obtain ⟨od,J,hl⟩:=I.look;exact PySem.W.get_value X J (PySem.W.plainGet_of hg).1 (PySem.W.findObj_own hh ha rfl (by rw [hl,hv])) hv' h
theorem RV {pl:Sem Bool} {Q:Value×List Value->Shared->Prop} (X:K.In s.heap) (I:K4 s.heap x dx C mA) (hg:PySem.W.plainGet K C name=true)
 (hf:PySem.W.findIn K (.ref C) name=some (some (.ref f))) (ht:PySem.W.isFn K (.ref f)=true) (hv:mA name=none) (h:Q (.ref f,[.ref x]) s):
 wpAny (model prog w) A (getMethod (.ref x) name pl) Q E s:=by
 obtain ⟨od,J,hl⟩:=I.look;exact PySem.W.method_fn X J (PySem.W.plainGet_of hg).1 (PySem.W.plainGet_of hg).2 hf (beq_iff_eq.mp ht) (by show (PySem.W.lookIn name od).map (·.isSome)=some false;rw [hl,hv];rfl) h
theorem Uz {ns:List Str} {Q:Unit->Shared->Prop} (X:K.In s.heap) (I:K4 s.heap x dx C mA)
 (hs:PySem.W.findIn K (.ref C) "__setattr__" = some (some (.builtin "object.__setattr__"))) (hp:PySem.W.plainOver K C=true) (ht:PySem.W.takerIn K C name=some none) (hh:PySem.W.hasDictIn K C=true)
 (hw:PySem.Within mA ns) (hsz:ns.length<=sizeLine)
 (h:∀h',K4 h' x dx C (fun y=>if y=name then some v else mA y)->Heap.SameBut dx s.heap h'->Q () {s with heap:=h',toks:=s.toks+2}):
 wpAny (model prog w) A (setAttr (.ref x) name v) Q E s:=by
 obtain ⟨od,J,hl⟩:=I.look;refine PySem.W.set_plain X J hs (PySem.W.osa_open (s:={s with toks:=s.toks+1}) (r:=none) X J hp ht fun b=> ?_);obtain ⟨cd,hc,hd'⟩:=PySem.W.any_some hh;have hx:s.heap.get? x=some ⟨.ref C,some dx,.plain, #[]⟩:=I.obj;refine wpAny_bind (wpAny_pure (wpAny_bind (wpAny_bind (wpAny_loadPart hx (wpAny_bind (PySem.W.Looks.here (s:={s with toks:=s.toks+1}) (PySem.W.looks_clsIn X hc) ?_))))));rw [hd'];refine wpAny_pure (a:=some dx) (wpAny_bind (wpAny_pure (wpAny_bind ?_)));refine wpAny_nsSet1 (s:={s with toks:=s.toks+1}) I.ns fun h' hn2 hs2=> ?_;obtain ⟨oD,esD,epD,hoD,hdD,hcD⟩:=hn2.count (PySem.Within.cons name v hw);refine wpAny_bind (wpAny_lookBehind hoD (by rw [hdD];exact pastItsLine_dict (Nat.le_trans hcD (by rw [List.length_cons];lia))) ?_);exact wpAny_pure (h _ ⟨(hs2.2 _ (Ne.symm I.ne)).trans I.obj,hn2,I.ne⟩ hs2)
theorem Ro {R:Result->Shared->Prop} {vs:List Value} {kw:List (Str×Value)} (X:K.In s.heap) (hm:PySem.W.makesIn K C=true)
 (hi:PySem.W.findIn K (.ref C) "__init__" = some (some (.ref f))) (hf:PySem.W.typeIn K (.ref f)=some (.type "function"))
 (h:codeAny (model prog w) (A.under (.builtin "type.__call__" ⟨.ref C::vs,kw⟩)) (.call (.ref f) ⟨.ref (s.heap.objs.size+1)::vs,kw⟩) (PySem.W.InitBack (s.heap.objs.size+1) R)
   {s with heap:=(s.heap.push PySem.W.emptyDict).push (PySem.W.instObj C s.heap.objs.size)}):
 codeAny (model prog w) A (.call (.ref C) ⟨vs,kw⟩) R s:=by
 obtain ⟨hh,g,d,t,os⟩:=s;exact PySem.W.make_core (PySem.W.makes_of X hm) (PySem.W.looks_findIn X hi) (fun self=>PySem.W.bind_fn X self hf) (.inl rfl) h
end
def cH (f:Str) (v:V):List (Str×V)->List (Str×V)
 | []=>[(f,v)]
 | (g,x)::r=>if g=f then (g,v)::r else (g,x)::cH f v r
theorem xg (f g:Str) (v:V):∀fs:List (Str×V),(cH f v fs).lookup g=if g=f then some v else fs.lookup g
 | []=>by
   show List.lookup g [(f,v)]=_
   by_cases h:g=f
   ·have hb:(g==f)=true:=beq_iff_eq.mpr h
    simp only [List.lookup,hb,if_pos h]
   ·have hb:(g==f)=false:=beq_eq_false_iff_ne.mpr h
    simp only [List.lookup,hb,if_neg h]
 | (k,x)::r=>by
   have ih:=xg f g v r;rw [show cH f v ((k,x)::r)=(if k=f then (k,v)::r else (k,x)::cH f v r) from rfl]
   by_cases hk:k=f
   ·rw [if_pos hk]
    by_cases h:g=k
    ·have hb:(g==k)=true:=beq_iff_eq.mpr h
     simp only [List.lookup,hb,if_pos (h.trans hk)]
    ·have hb:(g==k)=false:=beq_eq_false_iff_ne.mpr h
     simp only [List.lookup,hb,if_neg (fun e:g=f=>h (e.trans hk.symm))]
   ·rw [if_neg hk]
    by_cases h:g=k
    ·have hb:(g==k)=true:=beq_iff_eq.mpr h
     simp only [List.lookup,hb,if_neg (fun e:g=f=>hk (h.symm.trans e))]
    ·have hb:(g==k)=false:=beq_eq_false_iff_ne.mpr h
     simp only [List.lookup,hb];exact ih
theorem wD (f:Str) (v:V):∀fs:List (Str×V),f∈(cH f v fs).map (·.1) /\ ∀g,g∈fs.map (·.1)->g∈(cH f v fs).map (·.1)
 | []=>⟨by simp [cH],fun g h=>by simp at h⟩
 | (k,x)::r=>by
   obtain ⟨i1,i2⟩:=wD f v r;rw [show cH f v ((k,x)::r)=(if k=f then (k,v)::r else (k,x)::cH f v r) from rfl]
   by_cases hk:k=f
   ·rw [if_pos hk]
    subst hk;exact ⟨by simp,fun g h=>by simpa using h⟩
   ·rw [if_neg hk]
    refine ⟨?_,fun g h=> ?_⟩
    ·rw [List.map_cons]
     exact List.mem_cons_of_mem _ i1
    ·rw [List.map_cons] at h ⊢
     rcases List.mem_cons.mp h with e|e
     ·exact List.mem_cons.mpr (.inl e)
     ·exact List.mem_cons_of_mem _ (i2 g e)
theorem xu (f:Str) (v:V):∀fs:List (Str×V),(cH f v fs).length<=fs.length+1
 | []=>by simp [cH]
 | (k,x)::r=>by
   have ih:=xu f v r;rw [show cH f v ((k,x)::r)=(if k=f then (k,v)::r else (k,x)::cH f v r) from rfl]
   by_cases hk:k=f
   ·rw [if_pos hk,List.length_cons,List.length_cons];lia
   ·rw [if_neg hk,List.length_cons,List.length_cons];lia
theorem nu.some_of {v:V} {o:Option Value} (r:nu (some v) o):∃u,o=some u/\RelV v u:=by
 cases o with
 | none=>exact (show False from r).elim
 | some u=>exact ⟨u,rfl,r⟩
theorem nu.none_of {o:Option Value} (r:nu none o):o=none:=by
 cases o with
 | none=>rfl
 | some u=>exact (show False from r).elim
theorem Dn {v:V} {u:Value} (r:RelV v u):PySem.W.handedIn u=true:=by
 cases v with
 | non=>cases (show u=Value.none from r);rfl
 | bl b=>cases (show u=Value.bool b from r);rfl
 | int i=>obtain ⟨t,e⟩:=(show ∃t,u=Value.int i t from r);cases e;rfl
 | str x=>obtain ⟨t,e⟩:=(show ∃t,u=Value.str x t from r);cases e;rfl
 | Kz b=>obtain ⟨t,e⟩:=(show ∃t,u=Value.bytes b t from r);cases e;rfl
 | flt b=>obtain ⟨t,e⟩:=(show ∃t,u=Value.float b t from r);cases e;rfl
 | ref a=>cases (show u=Value.ref a from r);rfl
 | ty n=>cases (show u=Value.type n from r);rfl
section
variable {P:Program} {w:World} {H H':Hp} {h h':Heap} {a C dx:Addr} {fs fs':List (Str×V)}
theorem u6 (hok:rN P w H h) (e:H a=some (.ins C dx fs)):∃mA,K4 h a dx C mA/\(∀f,nu (fs.lookup f) (mA f))/\PySem.Within mA (fs.map (·.1))/\fs.length<=1000/\H dx=some (.own a):=by
 obtain ⟨d,z,ne,ob,mA,n,r,q⟩:=(show dg P w H h a (.ins C dx fs) from hok a _ e);exact ⟨mA,⟨ob,n,ne⟩,r,q,z,d⟩
end
structure Cls (K:PySem.W.Frag) (C:Addr):Prop where
 pg:PySem.W.plainGet K C Str.empty=true
 hd:PySem.W.hasDictIn K C=true
 po:PySem.W.plainOver K C=true
 sa:PySem.W.findIn K (.ref C) "__setattr__" = some (some (.builtin "object.__setattr__"))
theorem Cls.get {K:PySem.W.Frag} {C:Addr} (c:Cls K C) (f:Str):PySem.W.plainGet K C f=true:=c.pg
def eN (K:PySem.W.Frag) (C:Addr) (f:Str):Prop:=PySem.W.findIn K (.ref C) f=some none
theorem eN.taker {K:PySem.W.Frag} {C:Addr} {f:Str} (n:eN K C f):PySem.W.takerIn K C f=some none:=by
 unfold PySem.W.takerIn;rw [show PySem.W.findIn K (.ref C) f=some none from n];rfl
structure Meth (K:PySem.W.Frag) (C:Addr) (m:Str) (f:Addr):Prop where
 at_:PySem.W.findIn K (.ref C) m=some (some (.ref f))
 fn:PySem.W.isFn K (.ref f)=true
 kp:PySem.W.keepIn K (.ref f)=true
section
variable {X:Cx} {pins:List (Addr×Obj)} {σ:St} {H:Hp} {s:Shared} {a C dx:Addr} {fs:List (Str×V)} {f:Str} {v:V} {A:Around} {E:Value->Shared->Prop}
theorem Ao {b:Bool} {Q:Value->Shared->Prop} (I:Inv X pins σ H s) (e:H a=some (.ins C dx fs)) (c:Cls X.K C) (n:eN X.K C f) (l:fs.lookup f=some v)
 (h:∀u s',Inv X pins σ H s'->RelV v u->Q u s'):wpAny (model X.prog X.w) A (getAttr (.ref a) f b) Q E s:=by
 obtain ⟨mA,O,r,_,_,_⟩:=u6 I.hok e;obtain ⟨u,hu,ru⟩:=nu.some_of (v:=v) (o:=mA f) (by rw [←l];exact r f);exact get_map I.nM O (c.get f) c.hd n hu (Dn ru) (h u _ (I.tok _) ru)
theorem tZ {m:Str} {g:Addr} {pl:Sem Bool} {Q:Value×List Value->Shared->Prop} (I:Inv X pins σ H s) (e:H a=some (.ins C dx fs)) (c:Cls X.K C) (k:Meth X.K C m g) (l:fs.lookup m=none)
 (h:Q (.ref g,[.ref a]) s):wpAny (model X.prog X.w) A (getMethod (.ref a) m pl) Q E s:=by
 obtain ⟨mA,O,r,_,_,_⟩:=u6 I.hok e;have hn:mA m=none:=nu.none_of (by rw [←l];exact r m);exact RV I.nM O (c.get m) k.at_ k.fn hn h
theorem zO {y:V} {u:Value} {Q:Unit->Shared->Prop} (I:Inv X pins σ H s) (e:H a=some (.ins C dx fs)) (c:Cls X.K C) (n:eN X.K C f) (hl:fs.length<1000) (ry:RelV y u)
 (h:∀s',Inv X pins σ (upd H a (.ins C dx (cH f y fs))) s'->Q () s'):wpAny (model X.prog X.w) A (setAttr (.ref a) f u) Q E s:=by
 obtain ⟨mA,O,r,wi,_,ho⟩:=u6 I.hok e;have hz:(fs.map (·.1)).length<=sizeLine:=by rw [List.length_map,sizeLine_eq];lia
 refine Uz I.nM O c.sa c.po n.taker c.hd wi hz fun h' O' sb=>h _ ?_;have hd:∃o,h'.get? dx=some o:=let ⟨o,_,_,e',_⟩:=O'.ns;⟨o,e'⟩
 refine I.write (x:=a) (e:=dx) (by rw [e];exact True.intro) (.inr ho) (fun b q hb z=>(sb.2 b hb).trans z) hd ?_;refine ⟨by rw [aD O.ne];exact ho, ?_,O.ne,O'.obj,_,O'.ns,fun g=> ?_,fun g hg=> ?_⟩
 ·have:=xu f y fs;lia
 ·show nu ((cH f y fs).lookup g) (if g=f then some u else mA g)
  rw [xg]
  by_cases q:g=f
  ·rw [if_pos q,if_pos q];exact ry
  ·rw [if_neg q,if_neg q];exact r g
 ·by_cases q:g=f
  ·rw [q];exact (wD f y fs).1
  ·refine (wD f y fs).2 g (wi g fun z=>hg ?_)
   show (if g=f then some u else mA g)=none;rw [if_neg q];exact z
theorem Inv.made (I:Inv X pins σ H s):Inv X pins σ (upd (upd H s.heap.objs.size (.own (s.heap.objs.size+1))) (s.heap.objs.size+1) (.ins C s.heap.objs.size []))
 {s with heap:=(s.heap.push PySem.W.emptyDict).push (PySem.W.instObj C s.heap.objs.size)}:=by
 have e1:(s.heap.push PySem.W.emptyDict).get? s.heap.objs.size=some PySem.W.emptyDict:=Heap.get?_push_size s.heap rfl
 have e2:((s.heap.push PySem.W.emptyDict).push (PySem.W.instObj C s.heap.objs.size)).get? (s.heap.objs.size+1)=some (PySem.W.instObj C s.heap.objs.size):=by
  have:=Heap.get?_push_size (s.heap.push PySem.W.emptyDict) (o:=PySem.W.instObj C s.heap.objs.size) rfl;rwa [Heap.size_push] at this
 have e3:(s.heap.push PySem.W.emptyDict).Ns s.heap.objs.size (fun _=>none):=⟨PySem.W.emptyDict, #[],_,e1,rfl,(fun e he=>absurd he (by simp)),fun _=>rfl⟩;have I1:=I.laid (a:=s.heap.objs.size) (o:= .own (s.heap.objs.size+1)) (h':=s.heap.push PySem.W.emptyDict) (t':=s.toks) (fun b u q=>Heap.get?_push_of_some _ q) (Nat.le_refl _) ⟨_,e1⟩;refine I1.laid (a:=s.heap.objs.size+1) (o:= .ins C s.heap.objs.size []) (t':=s.toks) (fun b u q=>Heap.get?_push_of_some _ q) (Nat.le_of_eq (Heap.size_push _ _)) ?_;have ne:s.heap.objs.size≠s.heap.objs.size+1:=Nat.ne_of_lt (Nat.lt_succ_self _);refine ⟨by rw [aD ne,ak],Nat.zero_le _,ne,e2,fun _=>none,(Heap.Ns1.of_empty e3).at fun o q=>Heap.get?_push_of_some _ q,fun _=>True.intro,fun y hy=>absurd rfl hy⟩
theorem MN {prog:Program} {w:World} {env:Env} {e:Expr} {f:Str} {pos:Pos} {s:Shared} {Q:Value->Shared->Prop} (hb:attributeBase e f env (eval e env)=eval e env)
 (h:wpAny (model prog w) A (eval e env) (fun o s₁=>wpAny (model prog w) A (getAttr o f true) Q E s₁) E s):wpAny (model prog w) A (eval (.Attribute e f pos) env) Q E s:=
 Attribute_any_ h (by rw [arm_eval_Attribute,hb])
end
def abd (K:PySem.W.Frag) (ta:TE) (f:Str):TE:=fun σ H Q=>ta σ H fun x H1=>∃a C dx fs v,x = .ref a/\H1 a=some (.ins C dx fs)/\Cls K C/\eN K C f/\fs.lookup f=some v/\Q v H1
def abo (K:PySem.W.Frag) (ta tv:TE) (f:Str):TS:=fun D σ H=>tv σ H fun y H1=>ta σ H1 fun x H2=>∃a C dx fs,x = .ref a/\H2 a=some (.ins C dx fs)/\Cls K C/\eN K C f/\fs.length<1000 /\
 D.nx σ (upd H2 a (.ins C dx (cH f y fs)))
def adR (X:Cx) (op:Operator) (rd:V->V->Hp->VK->Prop):Prop:=
 ∀(pins:List (Addr×Obj)) (s:Shared) (σ:St) (H:Hp) (x y:V) (u v:Value) (Q:VK),Inv X pins σ H s->RelV x u->RelV y v->rd x y H Q->wpAny (model X.prog X.w) X.A (inplaceOp op u v) (EP X pins σ Q) X.xe s
def Lj (K:PySem.W.Frag) (ta tv:TE) (rd:V->V->Hp->VK->Prop) (f:Str):TS:=fun D σ H=>ta σ H fun x H1=>∃a C dx fs v,x = .ref a/\H1 a=some (.ins C dx fs)/\Cls K C/\eN K C f/\fs.lookup f=some v /\
 tv σ H1 fun y H2=>rd v y H2 fun z H3=>∃Z5 fs',H3 a=some (.ins C Z5 fs')/\fs'.length<1000/\D.nx σ (upd H3 a (.ins C Z5 (cH f z fs')))
section
variable {X:Cx} {o e value:Expr} {f:Str} {pos pos' tpos:Pos} {ta tv:TE}
theorem YX (he:PE X e ta) (hb:attributeBase e f X.env (eval e X.env)=eval e X.env):PE X (.Attribute e f pos) (abd X.K ta f):=by
 intro pins s σ H Q I h;refine MN hb (dN (he pins s σ H _ I h) fun u s1 ⟨x,H1,I1,rx,a,C,dx,fs,v,ex,ea,c,n,l,q⟩=> ?_);subst ex;obtain rfl:u=Value.ref a:=rx;exact Ao I1 ea c n l fun u' s2 I2 ru=>⟨v,H1,I2,ru,q⟩
theorem YK (ha:PE X o ta) (hv:PE X value tv) (hs:swapsWith value (some (.Attribute o f pos')) pos.line X.env=pure false):PS X (.Assign [.Attribute o f pos'] value pos) (abo X.K ta tv f):=by
 intro pins s σ H D I h;refine plainObj_wpAny_Assign_Attribute (dN (hv pins s σ H _ I h) fun u s1 ⟨y,H1,I1,ry,q⟩=>dN (ha pins s1 σ H1 _ I1 q) fun ov s2 ⟨x,H2,I2,rx,a,C,dx,fs,ex,ea,c,n,l,q2⟩=> ?_) hs;subst ex;obtain rfl:ov=Value.ref a:=rx;exact zO I2 ea c n l ry fun s3 I3=>⟨σ,_,I3,q2⟩
theorem Np {op:Operator} {rd:V->V->Hp->VK->Prop} (ha:PE X o ta) (hv:PE X value tv) (hop:adR X op rd):PS X (.AugAssign (.Attribute o f tpos) op value pos) (Lj X.K ta tv rd f):=by
 intro pins s σ H D I h;refine wpAny_AugAssign_AttributeAny (dN (ha pins s σ H _ I h) fun ov s1 ⟨x,H1,I1,rx,a,C,dx,fs,v,ex,ea,c,n,l,q⟩=> ?_);subst ex;obtain rfl:ov=Value.ref a:=rx;refine Ao I1 ea c n l fun u s2 I2 ru=>dN (hv pins s2 σ H1 _ I2 q) fun w3 s3 ⟨y,H2,I3,ry,q3⟩=>dN (hop pins s3 σ H2 v y u w3 _ I3 ru ry q3) fun w4 s4 ⟨z,H3,I4,rz,Z5,fs',ea',l',q4⟩=> ?_;exact zO I4 ea' c n l' rz fun s5 I5=>⟨σ,_,I5,q4⟩
end
section
variable {X:Cx} {pins:List (Addr×Obj)} {σ:St} {H:Hp} {s:Shared} {A:Around} {E:Value->Shared->Prop} {Q:Value->Shared->Prop} {c:Value} {b:Bool}
inductive vD (K:PySem.W.Frag) (H:Hp):V->Value->Prop where
 | non:vD K H .non (.type "NoneType")
 | bl (x:Bool):vD K H (.bl x) (.type "bool")
 | int (i:Int):vD K H (.int i) (.type "int")
 | str (x:Str):vD K H (.str x) (.type "str")
 | flt (x:UInt64):vD K H (.flt x) (.type "float")
 | lst {a:Addr} {xs:List V} (e:H a=some (.lst xs)):vD K H (.ref a) (.type "list")
 | Io {a:Addr} {o:Obj} {xs:List V} (e:H a=some (.Io o (.lst xs))):vD K H (.ref a) (.type "list")
 | tup {a:Addr} {xs:List V} (e:H a=some (.tup xs)):vD K H (.ref a) (.type "tuple")
 | dK {a:Addr} {kvs:List (Key×V)} (e:H a=some (.dK kvs)):vD K H (.ref a) (.type "dict")
 | dT {a:Addr} {kvs:List (List Key×V)} (e:H a=some (.dT kvs)):vD K H (.ref a) (.type "dict")
 | ins {a C dx:Addr} {fs:List (Str×V)} (e:H a=some (.ins C dx fs)) (cl:Cls K C) (ha:PySem.W.findIn K (.ref C) "__class__" = some (some (.builtin "object.__class__")))
    (hn:PySem.W.specialIn K (.builtin "object.__class__") "__get__" = some (some (.builtin "getset_descriptor.__get__"))) (htk:PySem.W.takesIn K (.builtin "object.__class__")=some true)
    (hm:PySem.W.mroIn K C (.type "object")=some true):vD K H (.ref a) (.ref C)
theorem Oh {x:V} {u t:Value} (I:Inv X pins σ H s) (rx:RelV x u) (ty:vD X.K H x t) (e:PySem.W.kitOne X.K t c=some b) (h:∀tk,Q (.bool b) {s with toks:=tk}):
 wpAny (model X.prog X.w) A (call (.builtin "isinstance") [u,c]) Q E s:=by
 cases ty with
 | non=>cases (show u=Value.none from rx);exact PySem.W.kia_one PySem.W.kitx_none I.nM True.intro e (fun z=>nomatch z) h
 | bl y=>cases (show u=Value.bool y from rx);exact PySem.W.kia_one PySem.W.kitx_bool I.nM True.intro e (fun z=>nomatch z) h
 | int i=>obtain ⟨t,q⟩:=(show ∃t,u=Value.int i t from rx);cases q;exact PySem.W.kia_one PySem.W.kitx_int I.nM True.intro e (fun z=>nomatch z) h
 | str y=>obtain ⟨t,q⟩:=(show ∃t,u=Value.str y t from rx);cases q;exact PySem.W.kia_one PySem.W.kitx_str I.nM True.intro e (fun z=>nomatch z) h
 | flt y=>obtain ⟨t,q⟩:=(show ∃t,u=Value.float y t from rx);cases q;exact PySem.W.kia_one PySem.W.kitx_float I.nM True.intro e (fun z=>nomatch z) h
 | @lst a xs ea=>
   cases (show u=Value.ref a from rx);obtain ⟨_,_,n,_,h1⟩:=(show dg X.prog X.w H s.heap a (.lst xs) from I.hok a _ ea);exact PySem.W.kia_one PySem.W.kitx_list I.nM ⟨_,h1,rfl⟩ e (fun z=>nomatch z) h
 | @Io a ob xs ea=>
   cases (show u=Value.ref a from rx);obtain ⟨_,_,_,n,_,h1⟩:=(show dg X.prog X.w H s.heap a (.Io ob (.lst xs)) from I.hok a _ ea);exact PySem.W.kia_one PySem.W.kitx_list I.nM ⟨_,h1,rfl⟩ e (fun z=>nomatch z) h
 | @tup a xs ea=>
   cases (show u=Value.ref a from rx);obtain ⟨_,_,_,p⟩:=(show dg X.prog X.w H s.heap a (.tup xs) from I.hok a _ ea);obtain ⟨o,h1,h2,_⟩:=p;exact PySem.W.kia_one PySem.W.kitx_tuple I.nM ⟨o,h1,h2⟩ e (fun z=>nomatch z) h
 | @dK a kvs ea=>
   cases (show u=Value.ref a from rx);obtain ⟨_,_,vs,_,p⟩:=(show dg X.prog X.w H s.heap a (.dK kvs) from I.hok a _ ea);obtain ⟨o,es,ep,h1,h2,_⟩:=p;exact PySem.W.kia_one PySem.W.kitx_dict I.nM ⟨o,h1,h2.1⟩ e (fun z=>nomatch z) h
 | @dT a kvs ea=>
   cases (show u=Value.ref a from rx);obtain ⟨_,_,xs,_,o,es,ep,h1,h2,_⟩:=(show dg X.prog X.w H s.heap a (.dT kvs) from I.hok a _ ea);exact PySem.W.kia_one PySem.W.kitx_dict I.nM ⟨o,h1,h2.1⟩ e (fun z=>nomatch z) h
 | @ins a C dx fs ea cl ha hn htk hm=>
   cases (show u=Value.ref a from rx);obtain ⟨mA,O,_⟩:=u6 I.hok ea;obtain ⟨od,J,_⟩:=O.look;exact PySem.W.kia_one (PySem.W.kitx_own (cl.get _) cl.hd ha hn htk hm) I.nM J e (fun z=>nomatch z) h
end
end L2
namespace L2
open PySem PySem.Spec PyProof.Rows
structure fL (k:Nat) (A:Around):Prop where
 hd:A.handled=none
 dp:A.depth+3*k+5<recursionLimit
 un:A.units+16*k+200<cLine
theorem fL.mono {j k:Nat} {A:Around} (r:fL k A) (h:j<=k):fL j A:=⟨r.hd,by have:=r.dp;lia,by have:=r.un;lia⟩
theorem fL.deeper {k:Nat} {A:Around} (r:fL (k+1) A) (env:Env):fL k (A.deeper env):=
 ⟨r.hd,by have:=r.dp;show A.depth+1+3*k+5<_;lia,by have:=r.un;show A.units+3+16*k+200<_;lia⟩
theorem fL.in1 {k:Nat} {A:Around} (r:fL (k+1) A):fL k A.in1:=
 ⟨r.hd,by have:=r.dp;show A.depth+3*k+5<_;lia,by have:=r.un;show A.units+1+16*k+200<_;lia⟩
theorem Kf {A:Around} {C:Addr} {us:List Value} {kw:List (Str×Value)}:(A.under (.builtin "type.__call__" ⟨.ref C::us,kw⟩)).depth=A.depth+1:=by
 first |rfl|simp [Around.under,Code.weight,Code.isCreation,Code.isGuard,Code.isCaller,Code.frames,Code.isFrame,guardIds]
theorem Ke {A:Around} {C:Addr} {us:List Value} {kw:List (Str×Value)}:(A.under (.builtin "type.__call__" ⟨.ref C::us,kw⟩)).units=A.units+1:=by
 first |rfl|simp [Around.under,Code.cUnits,Code.frames,Code.isFrame]
theorem fL.make {k:Nat} {A:Around} (r:fL (k+1) A) (C:Addr) (us:List Value) (kw:List (Str×Value)):fL k (A.under (.builtin "type.__call__" ⟨.ref C::us,kw⟩)):=
 ⟨r.hd,by have:=r.dp;rw [Kf];lia,by have:=r.un;rw [Ke];lia⟩
theorem fL.depth {k:Nat} {A:Around} (r:fL k A):A.depth<recursionLimit:=by have:=r.dp;lia
theorem fL.units {k:Nat} {A:Around} (r:fL k A):A.units+64<cLine:=by have:=r.un;lia
def Qk:TA:=fun _ H Q=>Q [] H
def abe (ta:TE) (tr:TA):TA:=fun σ H Q=>ta σ H fun x H1=>tr σ H1 fun xs H2=>Q (x::xs) H2
section
variable {X:Cx} {e:Expr} {es:List Expr} {te:TE} {t:TA} {pos:Pos}
theorem aC:PA X [] Qk:=fun _ _ _ _ H Q I h=>Calls.spliced_nil ⟨[],H,I,.nil,h⟩
theorem aj (ha:PE X e te) (hr:PA X es t) (hs:starEach (e::es) X.env=(false,eval e X.env)::starEach es X.env:=by rfl):PA X (e::es) (abe te t):=by
 intro pos pins s σ H Q I h;rw [hs];show wpAny _ _ (spliced ((false,eval e X.env)::backTo pos (starEach es X.env))) _ _ s;refine Calls.spliced_cons (dN (ha pins s σ H _ I h) fun u s1 ⟨x,H1,I1,r1,q1⟩=> ?_);exact dN (hr pos pins s1 σ H1 _ I1 q1) fun us s2 ⟨xs,H2,I2,r2,q2⟩=>⟨x::xs,H2,I2,.cons r1 r2,q2⟩
def afx (t:TA):TE:=fun σ H Q=>t σ H fun xs H1=>xs.length<=sizeLine /\ ∀p,H1 p=none->Q (.ref p) (upd H1 p (.tup xs))
def afD (t:TA):TE:=fun σ H Q=>t σ H fun xs H1=>xs.length<=sizeLine /\ ∀p,H1 p=none->Q (.ref p) (upd H1 p (.lst xs))
theorem jF {x1} (h:PA X es t):PE X (.Tuple es x1 pos) (afx t):=by
 intro pins s σ H Q I hq;refine wpAny_Tuple_spliced (dN (h pos pins s σ H _ I hq) fun us s1 ⟨xs,H1,I1,r,z,q⟩=>⟨by rw [←r.length];exact z, ?_⟩);have hf:H1 s1.heap.objs.size=none:=I1.hok.fresh (Nat.le_refl _);refine ⟨.ref s1.heap.objs.size,upd H1 s1.heap.objs.size (.tup xs),I1.laid (t':=s1.toks) (fun b u e=>Heap.get?_push_of_some _ e) (Nat.le_refl _) ?_,rfl,q _ hf⟩;exact ⟨z,us,r,⟨_,Heap.get?_push_size _ rfl,rfl,_,rfl⟩⟩
theorem eO (h:PA X es t):PE X (.List es pos) (afD t):=by
 intro pins s σ H Q I hq;refine wpAny_List_spliced (dN (h pos pins s σ H _ I hq) fun us s1 ⟨xs,H1,I1,r,z,q⟩=>⟨by rw [←r.length];exact z, ?_⟩);have hf:H1 s1.heap.objs.size=none:=I1.hok.fresh (Nat.le_refl _);refine ⟨.ref s1.heap.objs.size,upd H1 s1.heap.objs.size (.lst xs),I1.laid (t':=s1.toks) (fun b u e=>Heap.get?_push_of_some _ e) (Nat.le_refl _) ?_,rfl,q _ hf⟩;exact ⟨z,us,0,r,Heap.get?_push_size _ rfl⟩
end
abbrev Sp:=List V->Hp->VK->XK->Prop
abbrev Pj:=List Env->Hp->Shared->XK->Value->Shared->Prop
structure Cu (P:Program) (w:World) (K:PySem.W.Frag) (mg:Str->Option Value) (base:Heap) (A:Around) (outer:List Env) (s:Shared) (H:Hp):Prop where
 frames:A.frames=some outer
 mod:Mod K mg base
 bs:∀b o,base.get? b=some o->s.heap.get? b=some o/\H b=none
 KC:base.objs.size<=s.heap.objs.size
 pZ:s.heap.FunFrames base outer
 Pa:∀b∈frs outer,H b=none
 hok:rN P w H s.heap
 bare:AllBare s.gens
def CE (outer:List Env) (P:Program) (w:World) (H:Hp) (s:Shared) (Q:VK) (u:Value) (s':Shared):Prop:=
 ∃v H',s'.os=s.os/\AllBare s'.gens/\Un (frs outer) [] H H' s.heap s'.heap/\rN P w H' s'.heap/\RelV v u/\Q v H'
def CR (CX:Pj) (outer:List Env) (P:Program) (w:World) (H:Hp) (s:Shared) (Q:VK) (E:XK) (r:Result) (s':Shared):Prop:=
 match r with
 | .ok (.ret u)=>CE outer P w H s Q u s'
 | .ok _=>False
 | .error e=>CX outer H s E e s'
structure bZ (P:Program) (w:World) (K:PySem.W.Frag) (mg:Str->Option Value) (base:Heap) (CX:Pj) (k:Nat) (f:Addr) (fd:FuncData) (ps:List Str) (sp:Sp):Prop where
 len:∀vs H Q E,sp vs H Q E->vs.length=ps.length
 run:∀(A:Around) (outer:List Env) (s:Shared) (H:Hp) (args:Args) (us:List Value) (vs:List V) (Q:VK) (E:XK),fL k A->Cu P w K mg base A outer s H->BindsTo s fd args (ps.zip us)->Vals vs us->sp vs H Q E ->
  codeAny (model P w) A (.call (.ref f) args) (CR CX outer P w H s Q E) s
theorem Cu.make {P:Program} {w:World} {K:PySem.W.Frag} {mg:Str->Option Value} {base:Heap} {A:Around} {outer:List Env} {s:Shared} {H:Hp} (e:Cu P w K mg base A outer s H) (C:Addr) (us:List Value) (kw:List (Str×Value)):
 Cu P w K mg base (A.under (.builtin "type.__call__" ⟨.ref C::us,kw⟩)) outer s H:=⟨by first |exact e.frames|(simpa [Around.under,Code.envs,Code.isFrame,pushEnvs] using e.frames),e.mod,e.bs,e.KC,e.pZ,e.Pa,e.hok,e.bare⟩
theorem Cu.in1 {P:Program} {w:World} {K:PySem.W.Frag} {mg:Str->Option Value} {base:Heap} {A:Around} {outer:List Env} {s:Shared} {H:Hp} (e:Cu P w K mg base A outer s H):
 Cu P w K mg base A.in1 outer s H:=⟨e.frames,e.mod,e.bs,e.KC,e.pZ,e.Pa,e.hok,e.bare⟩
section
variable {X:Cx} {pins:List (Addr×Obj)} {σ:St} {H:Hp} {s s':Shared}
theorem Inv.env0 (I:Inv X pins σ H s):Cu X.prog X.w X.K X.mg X.base X.A X.stack s H:=
 ⟨I.ok.frames,I.ok.mod,I.bs,Nat.le_trans I.ok.KC I.sz,I.stack,I.Ej,I.hok,I.bare⟩
theorem Inv.after {Q:VK} {u:Value} (I:Inv X pins σ H s) (h:CE X.stack X.prog X.w H s Q u s'):EP X pins σ Q u s':=by
 obtain ⟨v,H',os,bare,un,hok,r,q⟩:=h;obtain ⟨hh,g,d,t,os'⟩:=s';obtain rfl:os'=s.os:=os;exact ⟨v,H',I.call (h':=hh) (g':=g) (d':=d) (t':=t) (ch:=[]) un hok bare (fun b z=>absurd z (by simp)),r,q⟩
end
def WD (sp:Sp) (uc:List V) (E:XK) (t:TA):TE:=fun σ H Q=>t σ H fun vs H1=>sp (vs++uc) H1 Q E
def Lb (C:Addr) (m:Str) (sp:Sp) (uc:List V) (E:XK) (ta:TE) (t:TA):TE:=fun σ H Q=>ta σ H fun x H1=>∃a dx fs,x = .ref a/\H1 a=some (.ins C dx fs)/\fs.lookup m=none /\
 t σ H1 fun vs H2=>sp (x::(vs++uc)) H2 Q E
def Wy (C:Addr) (sp:Sp) (uc:List V) (E:XK) (t:TA):TE:=fun σ H Q=>t σ H fun vs H1=>∀x dx,H1 x=none->H1 dx=none->dx≠x ->
 sp (.ref x::(vs++uc)) (upd (upd H1 dx (.own x)) x (.ins C dx [])) (fun v H2=>v = .non/\Q (.ref x) H2) E
def Binds (K:PySem.W.Frag) (fd:FuncData) (ps:List Str) (ds:List Value):Prop:=
 ∀(s:Shared) (us:List Value),K.In s.heap->(us++ds).length=ps.length->BindsTo s fd ⟨us,[]⟩ (ps.zip (us++ds))
theorem Binds.all {K:PySem.W.Frag} {fd:FuncData} {ps:List Str} (h:∀us:List Value,us.length=ps.length->bindArgs fd ⟨us,[]⟩=pure (ps.zip us)):Binds K fd ps []:=fun s us _ hl=>by
 rw [List.append_nil] at hl ⊢;exact .of_eq (h us hl)
def Passes (CX:Pj) (X:Cx) (E:XK):Prop:=∀(pins:List (Addr×Obj)) (σ:St) (H:Hp) (s:Shared) (e:Value) (s':Shared),Inv X pins σ H s->CX X.stack H s E e s'->X.xe e s'
section
variable {X:Cx} {CX:Pj} {k:Nat} {f C:Addr} {fd:FuncData} {ps:List Str} {sp:Sp} {uc:List V} {ds:List Value} {E:XK} {x m:Str} {p pos apos:Pos} {e o:Expr} {es:List Expr} {ta:TE} {t:TA}
theorem JQ {pins:List (Addr×Obj)} {σ:St} {H:Hp} {s:Shared} {Q:VK} {us:List Value} {vs:List V} (F:bZ X.prog X.w X.K X.mg X.base CX k f fd ps sp) (hr:fL k X.A) (hb:Binds X.K fd ps ds) (hd:Vals uc ds) (hx:Passes CX X E)
 (I:Inv X pins σ H s) (r:Vals vs us) (h:sp (vs++uc) H Q E):wpAny (model X.prog X.w) X.A (call (.ref f) us) (EP X pins σ Q) X.xe s:=by
 have r2:Vals (vs++uc) (us++ds):=r.append hd;have hl:(us++ds).length=ps.length:=by rw [←r2.length];exact F.len _ _ _ _ h
 refine wpAny_call (codeAny_mono (F.run X.A X.stack s H ⟨us,[]⟩ (us++ds) (vs++uc) Q E hr I.env0 (hb s us I.nM hl) r2 h) fun r s' hq=> ?_);cases r with
 | error e=>exact hx pins σ H s e s' I hq
 | ok fl=>
   cases fl with
   | ret u=>exact I.after hq
   | next=>exact False.elim hq
   | brk=>exact False.elim hq
   | cont=>exact False.elim hq
theorem Vh (F:bZ X.prog X.w X.K X.mg X.base CX k f fd ps sp) (hr:fL k X.A) (hg:Gl X x) (hm:X.mg x=some (.ref f)) (hk:PySem.W.keepIn X.K (.ref f)=true) (hb:Binds X.K fd ps ds) (hd:Vals uc ds) (hx:Passes CX X E)
 (ha:PA X (e::es) t) (hdb:(x==("__debug__" :Str))=false:=by decide) (he:starEach (e::es) X.env=(false,eval e X.env)::starEach es X.env:=by rfl) (hpl:(backTo pos (starEach es X.env)).any (·.1)=false:=by rfl):
 PE X (.Call (.Name x p) (e::es) [] pos) (WD sp uc E t):=by
 intro pins s σ H Q I h;refine wpAny_Call_Name_kw (mO I hg hm ?_ hdb);refine PySem.W.callWith_K (h₀:=X.base) I.ok.mod.RB hk (dN (ha pos pins s σ H _ I h) fun us s1 ⟨vs,H1,I1,r,q⟩=>⟨I1.nM, ?_⟩) he hpl;exact JQ F hr hb hd hx I1 r q
theorem Vf {pl:Sem Bool} (he:PE X o ta) (c:Cls X.K C) (hm:Meth X.K C m f) (F:bZ X.prog X.w X.K X.mg X.base CX k f fd ps sp) (hr:fL k X.A) (hb:Binds X.K fd ps ds) (hd:Vals uc ds) (hx:Passes CX X E) (ha:PA X (e::es) t)
 (hst:starEach (e::es) X.env=(false,eval e X.env)::starEach es X.env:=by rfl) (hpl:(backTo pos (starEach es X.env)).any (·.1)=false:=by rfl)
 (ht:eval (.Call (.Attribute o m apos) (e::es) [] pos) X.env=(do
   let ov ←eval o X.env
   standAt apos.atName
   let (f,first) ←holding [ov] (getMethod ov m pl)
   callWith pos f first (backTo pos (starEach (e::es) X.env)) (backToKw pos (keywordEach [] X.env))):=by rfl):
 PE X (.Call (.Attribute o m apos) (e::es) [] pos) (Lb C m sp uc E ta t):=by
 intro pins s σ H Q I h;refine PySem.W.methodCall_KW (pl:=pl) (dN (he pins s σ H _ I h) fun u s1 ⟨x,H1,I1,rx,a,dx,fs,ex,ea,l,q⟩=> ?_) ht;subst ex;obtain rfl:u=Value.ref a:=rx;refine tZ I1 ea c hm l ?_;refine PySem.W.callWith_K (first:=[.ref a]) (h₀:=X.base) I.ok.mod.RB hm.kp (dN (ha pos pins s1 σ H1 _ I1 q) fun us s2 ⟨vs,H2,I2,r,q2⟩=>⟨I2.nM, ?_⟩) hst hpl;exact JQ (us:= .ref a::us) (vs:= .ref a::vs) F hr hb hd hx I2 (.cons rfl r) q2
theorem QK {pl:Sem Bool} (he:PE X o ta) (c:Cls X.K C) (hm:Meth X.K C m f) (F:bZ X.prog X.w X.K X.mg X.base CX k f fd ps sp) (hr:fL k X.A) (hb:Binds X.K fd ps ds) (hd:Vals uc ds) (hx:Passes CX X E)
 (ht:eval (.Call (.Attribute o m apos) [] [] pos) X.env=(do
   let ov ←eval o X.env
   standAt apos.atName
   let (f,first) ←holding [ov] (getMethod ov m pl)
   callWith pos f first (backTo pos (starEach [] X.env)) (backToKw pos (keywordEach [] X.env))):=by rfl):
 PE X (.Call (.Attribute o m apos) [] [] pos) (Lb C m sp uc E ta Qk):=by
 intro pins s σ H Q I h;refine PySem.W.methodCall_KW (pl:=pl) (dN (he pins s σ H _ I h) fun u s1 ⟨x,H1,I1,rx,a,dx,fs,ex,ea,l,q⟩=> ?_) ht;subst ex;obtain rfl:u=Value.ref a:=rx;refine tZ I1 ea c hm l ?_;exact PySem.W.callWith_K0 (first:=[.ref a]) I1.nM hm.kp (JQ (us:=[.ref a]) (vs:=[.ref a]) F hr hb hd hx I1 (.cons rfl .nil) q)
structure Mk (K:PySem.W.Frag) (C f:Addr):Prop where
 makes:PySem.W.makesIn K C=true
 init:PySem.W.findIn K (.ref C) "__init__" = some (some (.ref f))
 fn:PySem.W.isFn K (.ref f)=true
 kp:PySem.W.keepIn K (.ref C)=true
theorem Qs {pins:List (Addr×Obj)} {σ:St} {H:Hp} {s:Shared} {Q:VK} {us:List Value} {vs:List V} (M:Mk X.K C f) (F:bZ X.prog X.w X.K X.mg X.base CX k f fd ps sp) (hr:fL (k+1) X.A) (hb:Binds X.K fd ps ds) (hd:Vals uc ds)
 (hx:Passes CX X E) (I:Inv X pins σ H s) (r:Vals vs us)
 (h:∀x dx,H x=none->H dx=none->dx≠x->sp (.ref x::(vs++uc)) (upd (upd H dx (.own x)) x (.ins C dx [])) (fun v H2=>v = .non/\Q (.ref x) H2) E):
 wpAny (model X.prog X.w) X.A (call (.ref C) us) (EP X pins σ Q) X.xe s:=by
 have hq:=h (s.heap.objs.size+1) s.heap.objs.size (I.hok.fresh (Nat.le_succ _)) (I.hok.fresh (Nat.le_refl _)) (Nat.ne_of_lt (Nat.lt_succ_self _));have I2:=Inv.made (C:=C) I;have r2:Vals (V.ref (s.heap.objs.size+1)::(vs++uc)) (Value.ref (s.heap.objs.size+1)::(us++ds)):= .cons rfl (r.append hd)
 have hl:(Value.ref (s.heap.objs.size+1)::us++ds).length=ps.length:=by
  have e:=r2.length;rw [F.len _ _ _ _ hq] at e;exact e.symm
 refine wpAny_call (Ro (f:=f) I.nM M.makes M.init (beq_iff_eq.mp M.fn) (codeAny_mono (F.run _ X.stack _ _ ⟨Value.ref (s.heap.objs.size+1)::us,[]⟩ (Value.ref (s.heap.objs.size+1)::(us++ds)) _ _ E (hr.make C us [])
  (I2.env0.make C us []) (hb _ (Value.ref (s.heap.objs.size+1)::us) I2.nM hl) r2 hq) fun r s' hq'=> ?_))
 cases r with
 | error e=>exact hx pins σ _ _ e s' I2 hq'
 | ok fl=>
   cases fl with
   | ret u=>
     obtain ⟨v,H',I3,rv,ev,q3⟩:=I2.after hq';subst ev;exact ⟨rv,⟨V.ref (s.heap.objs.size+1),H',I3,rfl,q3⟩⟩
   | next=>exact False.elim hq'
   | brk=>exact False.elim hq'
   | cont=>exact False.elim hq'
theorem Vg (M:Mk X.K C f) (F:bZ X.prog X.w X.K X.mg X.base CX k f fd ps sp) (hr:fL (k+1) X.A) (hg:Gl X x) (hm:X.mg x=some (.ref C)) (hb:Binds X.K fd ps ds) (hd:Vals uc ds) (hx:Passes CX X E)
 (ha:PA X (e::es) t) (hdb:(x==("__debug__" :Str))=false:=by decide) (he:starEach (e::es) X.env=(false,eval e X.env)::starEach es X.env:=by rfl) (hpl:(backTo pos (starEach es X.env)).any (·.1)=false:=by rfl):
 PE X (.Call (.Name x p) (e::es) [] pos) (Wy C sp uc E t):=by
 intro pins s σ H Q I h;refine wpAny_Call_Name_kw (mO I hg hm ?_ hdb);refine PySem.W.callWith_K (h₀:=X.base) I.ok.mod.RB M.kp (dN (ha pos pins s σ H _ I h) fun us s1 ⟨vs,H1,I1,r,q⟩=>⟨I1.nM, ?_⟩) he hpl;exact Qs M F hr hb hd hx I1 r q
end
section
variable {X:Cx} {CX:Pj} {k:Nat} {f C:Addr} {fd:FuncData} {ps ks:List Str} {sp:Sp} {E:XK} {x m:Str} {p pos apos kpos:Pos} {e o:Expr} {es:List Expr} {kws:List Keyword} {te ta:TE} {t tk:TA} {nm:Option Str}
variable {g:List Value->List Value->List Value} {gV:List V->List V->List V}
end
structure bG (N P:List Str) (sc:Scope):Prop where
 kind:sc.kind = .function
 co:sc.isCoroutine=false
 gen:sc.isGenerator=false
 nd:N.Nodup
 pre:N.take P.length=P
 par:∀x∈P,sc.names.lookup x=some .local\/sc.names.lookup x=some .cell
 Ze:∀y∈sc.names,y.2 ≠ .free
theorem DQ {kindOf:Str->Option NameKind} {x:Str}:∀{binds:List (Str×Value)} {m:Str->Option Value},(∀v,(x,v)∉binds)->bindL kindOf binds m x=m x
 | [],_,_=>rfl
 | (n,v)::r,m,h=>by
   unfold bindL;rw [DQ fun w hw=>h w (List.mem_cons_of_mem _ hw)];split
   ·have:x≠n:=by rintro rfl;exact h v List.mem_cons_self
    simp [this]
   ·rfl
theorem DW {kindOf:Str->Option NameKind} {x:Str}:∀{binds:List (Str×Value)} {m:Str->Option Value},(∀v,(x,v)∉binds)->bindC kindOf binds m x=m x
 | [],_,_=>rfl
 | (n,v)::r,m,h=>by
   unfold bindC;rw [DW fun w hw=>h w (List.mem_cons_of_mem _ hw)];split
   ·rfl
   ·have:x≠n:=by rintro rfl;exact h v List.mem_cons_self
    simp [this]
theorem DR {kindOf:Str->Option NameKind} {x:Str} {v:Value}:∀{P:List Str} {vs:List Value} {i:Nat} {m:Str->Option Value},P.Nodup->P[i]? = some x->vs[i]? = some v->kindOf x=some .local ->
 bindL kindOf (P.zip vs) m x=some v
 | [],_,_,_,_,h,_,_=>by simp at h
 | _::_,[],_,_,_,_,h,_=>by simp at h
 | p::P,w::vs,0,m,nd,h1,h2,hk=>by
   simp at h1 h2;subst h1;subst h2;show bindL kindOf ((p,w)::P.zip vs) m p=_;unfold bindL;rw [DQ fun v hv=>(List.nodup_cons.mp nd).1 (List.of_mem_zip hv).1,if_pos hk];simp
 | p::P,w::vs,i+1,m,nd,h1,h2,hk=>by
   show bindL kindOf ((p,w)::P.zip vs) m x=_;unfold bindL;exact DR (i:=i) (List.nodup_cons.mp nd).2 (by simpa using h1) (by simpa using h2) hk
theorem DX {kindOf:Str->Option NameKind} {x:Str} {v:Value}:∀{P:List Str} {vs:List Value} {i:Nat} {m:Str->Option Value},P.Nodup->P[i]? = some x->vs[i]? = some v->kindOf x≠some .local ->
 bindC kindOf (P.zip vs) m x=some v
 | [],_,_,_,_,h,_,_=>by simp at h
 | _::_,[],_,_,_,_,h,_=>by simp at h
 | p::P,w::vs,0,m,nd,h1,h2,hk=>by
   simp at h1 h2;subst h1;subst h2;show bindC kindOf ((p,w)::P.zip vs) m p=_;unfold bindC;rw [DW fun v hv=>(List.nodup_cons.mp nd).1 (List.of_mem_zip hv).1,if_neg hk];simp
 | p::P,w::vs,i+1,m,nd,h1,h2,hk=>by
   show bindC kindOf ((p,w)::P.zip vs) m x=_;unfold bindC;exact DX (i:=i) (List.nodup_cons.mp nd).2 (by simpa using h1) (by simpa using h2) hk
def start (N:List Str) (vs:List V):St:=vs.map some++List.replicate (N.length - vs.length) none
def p7 (CX:Pj) (P:Program) (w:World) (K:PySem.W.Frag) (mg:Str->Option Value) (base:Heap) (N:List Str) (qual:Str) (scope:Scope) (f:Addr) (cd:Value) (A:Around) (outer:List Env) (s:Shared) (H:Hp) (E:XK):Cx where
 prog:=P
 w:=w
 K:=K
 mg:=mg
 base:=base
 A:=A.deeper (envOfC qual scope s.heap.objs.size f cd)
 N:=N
 s₀:=s
 H₀:=H
 env:=envOfC qual scope s.heap.objs.size f cd
 outer:=outer
 stack:=envOfC qual scope s.heap.objs.size f cd::outer
 ex:=[]
 calm:=true
 fn:=fun _=>true
 pn:=[]
 xe:=fun e s'=>wpAny (model P w) (A.deeper (envOfC qual scope s.heap.objs.size f cd)) (leaving (envOfC qual scope s.heap.objs.size f cd) e) (fun _ s''=>CX outer H s E e s'') (fun e' s''=>CX outer H s E e' s'') s'
theorem Ja {sc:Scope} {n:Nat} {x:Str} (h:sc.names.lookup x=some .cell):∃c,(cellsFrom n sc.names []).lookup x=some c:=by
 have q:=PySem.W.cellsFrom_some sc.names n [] (.inl h);exact Option.isSome_iff_exists.mp q
theorem Oj {CX:Pj} {P:Program} {w:World} {K:PySem.W.Frag} {mg:Str->Option Value} {base:Heap} {N ps:List Str} {qual:Str} {scope:Scope} {f:Addr} {cd:Value} {A:Around} {outer:List Env} {s s1:Shared} {H:Hp} {E:XK} {us:List Value} {vs:List V}
 (S:bG N ps scope) (hd:A.handled=none) (e0:Cu P w K mg base A outer s H) (hl:vs.length=ps.length) (r:Vals vs us)
 (x:InCallC s s.heap.objs.size (bindL (envOfC qual scope s.heap.objs.size f cd).kindOf (ps.zip us) fun _=>none) (cellsFrom (s.heap.objs.size+1) scope.names []) (bindC (envOfC qual scope s.heap.objs.size f cd).kindOf (ps.zip us) fun _=>none) s1):
 Inv (p7 CX P w K mg base N qual scope f cd A outer s H E) [] (start N vs) H s1:=by
 have hpl:ps.length<=N.length:=by have:=congrArg List.length S.pre;rw [List.length_take] at this;lia
 obtain ⟨h1,tk,rfl,hk⟩:=x.done;have noA:∀b:Addr,b∉(p7 CX P w K mg base N qual scope f cd A outer s H E).ex:=fun b z=>absurd (show b∈([]:List Addr) from z) (by simp)
 refine ⟨⟨e0.mod,S.kind,rfl,rfl,Nat.le_refl _,fun y z c h1 h2=> ?_,fun y hy=> ?_,fun y c _ h=> ?_,fun _=>hd,Around.frames_deeper e0.frames,.inr ⟨rfl,rfl⟩,fun b z=>absurd z (noA b),e0.bs,e0.KC,fun b _ _=>noA b,fun b z=>absurd z (noA b),e0.pZ,e0.Pa⟩,
  rfl,e0.bare,Un.kept hk,⟨_,x.toInCall.ns,fun i y v h1 h2 h3=> ?_⟩,fun y c h=>⟨_,x.cell y c h⟩,e0.hok.fresh (Nat.le_refl _),fun y c h=> ?_,fun p hp=>absurd (show p∈([]:List (Addr×Obj)) from hp) (by simp),e0.hok.kept hk, ?_⟩
 ·exact name_of_addr x.apart (PySem.mem_of_lookup h1) (PySem.mem_of_lookup h2)
 ·have hy:scope.names.lookup y=some .cell\/scope.names.lookup y=some .free:=hy
  rcases hy with hy|hy
  ·exact Ja hy
  ·exact absurd rfl (S.Ze _ (PySem.mem_of_lookup hy))
 ·exact Nat.le_of_lt (x.above y c (PySem.mem_of_lookup h))
 ·have hi:i<vs.length:=by
   unfold start at h2
   by_cases hi:i<vs.length
   ·exact hi
   ·rw [List.getElem?_append_right (by simpa using hi)] at h2
    rw [List.getElem?_replicate] at h2;split at h2<;>cases h2
  have ha:vs[i]? = some v:=by
   unfold start at h2;rw [List.getElem?_append_left (by simpa using hi),List.getElem?_map] at h2;cases e:vs[i]? with
   | none=>rw [e] at h2;cases h2
   | some a=>rw [e] at h2;cases h2;rfl
  obtain ⟨u,hu,rv⟩:=r.get ha
  have hp:ps[i]? = some y:=by
   rw [←S.pre,List.getElem?_take_of_lt (by lia)];exact h1
  have ndP:ps.Nodup:=by rw [←S.pre];exact S.nd.sublist (List.take_sublist _ _)
  refine ⟨u,rv, ?_⟩;rcases S.par y (List.mem_of_getElem? hp) with k|k
  ·exact .inl ⟨k,DR ndP hp hu k⟩
  ·obtain ⟨c,e⟩:=Ja (n:=s.heap.objs.size+1) k
   refine .inr ⟨.inl k,c,e, ?_⟩;have q:=x.cell y c e;rw [DX ndP hp hu (by show scope.names.lookup y≠_;rw [k];decide)] at q;exact q
 ·exact e0.hok.fresh (Nat.le_of_lt (x.above y c (PySem.mem_of_lookup h)))
 ·unfold start
  show _=N.length;rw [List.length_append,List.length_map,List.length_replicate];lia
theorem R0 {CX:Pj} {P:Program} {w:World} {K:PySem.W.Frag} {mg:Str->Option Value} {base:Heap} {k:Nat} {f:Addr} {name qual:Str} {params:Arguments} {body:List Stmt} {scope:Scope} {dV kV doc pm cdv ct oc:Value} {an od:Option Addr}
 {osl:Array (Option Value)} {N ps:List Str} {sp:Sp} (lk:K.lookup f=some ⟨oc,od,.func (PySem.W.fnOf name qual params body scope dV kV doc pm an cdv ct),osl⟩) (hcd:PySem.W.codeIn K cdv qual=true) (S:bG N ps scope)
 (len:∀vs H Q E,sp vs H Q E->vs.length=ps.length)
 (hbody:∀(A:Around) (outer:List Env) (s:Shared) (H:Hp) (vs:List V) (Q:VK) (E:XK),fL k (A.deeper (envOfC qual scope s.heap.objs.size f cdv))->sp vs H Q E ->
   ∃t,Jp (p7 CX P w K mg base N qual scope f cdv A outer s H E) body t/\t {nx:=fun _ H'=>Q .non H',rt:=Q} (start N vs) H):
 bZ P w K mg base CX (k+1) f (PySem.W.fnOf name qual params body scope dV kV doc pm an cdv ct) ps sp:=by
 refine ⟨len,fun A outer s H args us vs Q E hr e0 hb r hsp=> ?_⟩;have hl:=len _ _ _ _ hsp;have KX:K.In s.heap:=e0.mod.RB.keeps fun b o e=>(e0.bs b o e).1;have lim:s.heap.NoLimit:=e0.mod.nolimit.keeps fun b o e=>(e0.bs b o e).1
 have hkind:∀y∈ps.zip us,scope.names.lookup y.1=some .local\/(scope.names.lookup y.1=some .cell/\((cellsFrom (s.heap.objs.size+1) scope.names []).lookup y.1).isSome=true):=fun ⟨n,v⟩ hy=>by
  rcases S.par n (List.of_mem_zip hy).1 with q|q
  ·exact .inl q
  ·exact .inr ⟨q,PySem.W.cellsFrom_some _ _ _ (.inl q)⟩
 refine codeAny_call_function hr.depth (KX _ _ lk) rfl S.co S.gen rfl (PySem.W.codeRec_of KX hcd) (hb _ _ _ _ ?_);refine wpAny_newFunctionEnv_cells S.kind hkind fun env he s1 x=> ?_;subst he;refine ⟨lim.keeps x.toInCall.keep,codeAny_func ?_⟩;obtain ⟨t,ht,hq⟩:=hbody A outer s H vs Q E (hr.deeper _) hsp;have I:Inv (p7 CX P w K mg base N qual scope f cdv A outer s H E) [] (start N vs) H s1:=Oj S hr.hd e0 hl r x;refine wpAny_mono (ht [] s1 (start N vs) H _ I hq) (fun fl s' hs=> ?_) fun e s' hs=>hs
 have fin:∀{σ':St} {H':Hp} {v:V} {u:Value},Inv (p7 CX P w K mg base N qual scope f cdv A outer s H E) [] σ' H' s'->RelV v u->Q v H'->CE outer P w H s Q u s':=
  fun {σ' H' v u} J rv q=>⟨v,H',J.os,J.bare,J.base,J.hok,rv,q⟩
 cases fl with
 | ret u=>
   obtain ⟨v,σ',H',J,rv,q⟩:=hs;exact fin J rv q
 | next=>
   obtain ⟨σ',H',J,q⟩:=hs;exact fin (v:=V.non) (u:=Value.none) J rfl q
 | brk=>
   obtain ⟨_,_,_,q⟩:=hs;exact False.elim q
 | cont=>
   obtain ⟨_,_,_,q⟩:=hs;exact False.elim q
end L2
namespace L2
open PySem PySem.Spec PyProof.Rows
section
variable {X:Cx} {x:Str} {p pos:Pos} {e:Expr} {es:List Expr} {t:TA} {id T:String} {r:List V->Hp->VK->Prop}
def tCB (r:List V->Hp->VK->Prop) (t:TA):TE:=fun σ H Q=>t σ H fun vs H1=>r vs H1 Q
theorem aQ (hc:jy X (.builtin id) r) (hg:Gl X x) (hm:X.mg x=none) (hv:bootBuiltins x=some (.builtin id)) (ha:PA X (e::es) t) (hn:x ≠ "__name__" :=by decide) (hdb:(x==("__debug__" :Str))=false:=by decide)
 (he:starEach (e::es) X.env=(false,eval e X.env)::starEach es X.env:=by rfl) (hpl:(backTo pos (starEach es X.env)).any (·.1)=false:=by rfl):PE X (.Call (.Name x p) (e::es) [] pos) (tCB r t):=by
 intro pins s σ H Q I h;refine wpAny_Call_Name_kw (tW I hg hm hv ?_ hn hdb);exact PyProof.Rows.callWith_builtin1 (dN (ha pos pins s σ H _ I h) fun us s1 ⟨vs,H1,I1,r1,q1⟩=>hc pins s1 σ H1 vs us Q I1 r1 q1) he hpl
theorem eV (hc:jy X (.type T) r) (hg:Gl X x) (hm:X.mg x=none) (hv:bootBuiltins x=some (.type T)) (ha:PA X (e::es) t) (hn:x ≠ "__name__" :=by decide) (hdb:(x==("__debug__" :Str))=false:=by decide)
 (he:starEach (e::es) X.env=(false,eval e X.env)::starEach es X.env:=by rfl) (hpl:(backTo pos (starEach es X.env)).any (·.1)=false:=by rfl):PE X (.Call (.Name x p) (e::es) [] pos) (tCB r t):=by
 intro pins s σ H Q I h;refine wpAny_Call_Name_kw (tW I hg hm hv ?_ hn hdb);exact PyProof.Rows.callWith_type1 (dN (ha pos pins s σ H _ I h) fun us s1 ⟨vs,H1,I1,r1,q1⟩=>hc pins s1 σ H1 vs us Q I1 r1 q1) he hpl
end
end L2
namespace HT
open PySem PyProof.Rows
section
open PySem.SeqAt
open PySem.AutoSeq1 (wpAny_loadPart')
open PySem.MeetsSeq PySem.MeetsSeq2 PySem.MeetsSeq3
end
section
variable {prog:Program} {w:World} {A:Around} {E:Value->Shared->Prop} {s:Shared}
theorem Wb {t b:Addr} {vs ws:List Value} {Q:Value->Shared->Prop} (ht:IsTup s.heap t vs.toArray) (hb:IsTup s.heap b ws.toArray) (hv:vs≠[])
 (h1:ws=[]->Q (.ref t) s) (h2:ws≠[]->Q (.ref s.heap.objs.size) {s with heap:=s.heap.push {cls:= .type "tuple",data:= .seq (vs++ws).toArray}})
 (hsz:vs.length+ws.length<=sizeLine):wpAny (model prog w) A (binaryOp .Add (.ref t) (.ref b)) Q E s:=by
 obtain ⟨⟨cls,dd,data,sl⟩,ho,hc,n,hd⟩:=id ht;obtain ⟨⟨cls2,dd2,data2,sl2⟩,ho2,hc2,n2,hd2⟩:=id hb;simp only at hc hd hc2 hd2;subst hc hd hc2 hd2;have e:vs.toArray++ws.toArray=(vs++ws).toArray:=by simp
 by_cases hw:ws=[]
 ·exact concat_meets ⟨_,ho,rfl⟩ ⟨_,ho2,rfl⟩ noFill_tuple_add seq_tuple_add PySem.F.slot_tuple_add PySem.F.entry_tuple_add (PySem.F.args_tuple_add_2 _ _)
   (tuple_addW1 t b vs.toArray ws.toArray n n2 dd dd2 sl sl2 (by simpa using hv) (by simp [hw])) ⟨ho,ho2,h1 hw⟩
 ·refine concat_meets ⟨_,ho,rfl⟩ ⟨_,ho2,rfl⟩ noFill_tuple_add seq_tuple_add PySem.F.slot_tuple_add PySem.F.entry_tuple_add (PySem.F.args_tuple_add_2 _ _)
   (tuple_addW2 t b vs.toArray ws.toArray n n2 dd dd2 sl sl2 (by simpa using hv) (by simpa using hw) (by rw [List.size_toArray,List.size_toArray];exact hsz)) ⟨ho,ho2, ?_⟩
  rw [e];exact h2 hw
def ju (n d:Nat):Option Int->Nat
 | none=>d
 | some v=>if v<0 then (v+(n:Int)).toNat else min v.toNat n
theorem zU (n d:Nat):ju n d none=d:=rfl
theorem E_ (n d k:Nat):ju n d (some (k:Int))=min k n:=by
 show (if (k:Int)<0 then ((k:Int)+(n:Int)).toNat else min (k:Int).toNat n)=min k n;rw [if_neg (by lia),Int.toNat_natCast]
theorem Yt (n d:Nat) (hd:d<=n) (o:Option Int):ju n d o<=n:=by
 cases o with
 | none=>exact hd
 | some v=>
   show (if v<0 then (v+(n:Int)).toNat else min v.toNat n)<=n
   by_cases hv:v<0
   ·rw [if_pos hv];lia
   ·rw [if_neg hv];exact Nat.min_le_right _ _
theorem Mz (v:Int) (n d:Nat):(if v<0 then max (v+(n:Int)) 0 else min v (n:Int))=((ju n d (some v):Nat):Int):=by
 show (if v<0 then max (v+(n:Int)) 0 else min v (n:Int))=(((if v<0 then (v+(n:Int)).toNat else min v.toNat n):Nat):Int)
 by_cases hv:v<0
 ·simp only [if_pos hv];lia
 ·simp only [if_neg hv];lia
theorem K1 (lo hi:Option Int) (n:Nat):Builtin.Slice.sliceAdjust lo hi 1 (n:Int)=(((ju n 0 lo:Nat):Int),((ju n n hi:Nat):Int)):=by
 have h1:¬((1:Int)<0):=by lia
 unfold Builtin.Slice.sliceAdjust;simp only [h1,if_false];refine Prod.ext ?_ ?_
 ·cases lo with
  | none=>rfl
  | some v=>exact Mz v n 0
 ·cases hi with
  | none=>rfl
  | some v=>exact Mz v n n
theorem JW (i j:Nat):Builtin.Slice.slicePlaces (i:Int) (j:Int) 1=j - i:=by
 unfold Builtin.Slice.slicePlaces;have h1:(1:Int)>0:=by lia
 simp only [h1,if_true,Int.ediv_one];split<;>lia
theorem zN {v:Value} {o:Option Int} {Q:Option Int->Shared->Prop} (p:IsPart v o) (h:Q o s):wpAny (model prog w) A (Builtin.Slice.slicePartIndex v) Q E s:=by
 cases p with
 | none=>exact slicePart_none h
 | int i t=>exact slicePart_int h
theorem vZ {sl:Addr} {vl vu:Value} {lo hi:Option Int} {n:Nat} {Q:Int×Int×Nat->Shared->Prop} (hs:s.heap.IsSliceOf sl vl vu .none) (pl:IsPart vl lo) (pu:IsPart vu hi)
 (h:Q (((ju n 0 lo:Nat):Int),1,ju n n hi - ju n 0 lo) s):wpAny (model prog w) A (Builtin.Slice.sliceApplied (.ref sl) (pure (n:Int))) Q E s:=by
 obtain ⟨os,hos,hcs,hds⟩:=id hs;unfold Builtin.Slice.sliceApplied Builtin.Slice.sliceFields;refine wpAny_bind (wpAny_bind (wpAny_field hos hds (x:=vl) rfl (wpAny_bind (wpAny_field hos hds (x:=vu) rfl (wpAny_bind (wpAny_field hos hds (x:= .none) rfl (wpAny_pure ?_)))))));refine wpAny_bind (slicePart_none ?_);show wpAny _ _ (if ((1:Int)==0)=true then _ else _) _ _ s;rw [if_neg (by decide)];refine wpAny_bind (zN pl (wpAny_bind (zN pu (wpAny_bind (wpAny_pure ?_)))));show wpAny _ _ (match Builtin.Slice.sliceAdjust lo hi 1 (n:Int) with |(lo,hi)=>pure (lo,(1:Int),Builtin.Slice.slicePlaces lo hi 1)) _ _ s;rw [K1 lo hi n];show wpAny _ _ (pure (((ju n 0 lo:Nat):Int),(1:Int),Builtin.Slice.slicePlaces ((ju n 0 lo:Nat):Int) ((ju n n hi:Nat):Int) 1)) _ _ s;rw [JW];exact wpAny_pure h
theorem QG (xs:Array Value) (i k:Nat):((List.range k).filterMap fun (m:Nat)=>xs[((i:Int)+(m:Int)*1).toNat]?).toArray=((xs.toList.drop i).take k).toArray:=by
 have e:(fun (m:Nat)=>xs[((i:Int)+(m:Int)*1).toNat]?)=fun m=>xs[i+m]? :=by
  funext m;have:((i:Int)+(m:Int)*1).toNat=i+m:=by lia
  rw [this]
 rw [e];have:=pick_run xs i k;rw [List.filterMap_map] at this;have e2:((fun x=>xs[x]?)∘fun x=>i+x)=fun m=>xs[i+m]? :=rfl;rw [e2] at this;rw [this]
theorem vd {t sl:Addr} {items:Array Value} {vl vu:Value} {lo hi:Option Int} {Q:Value->Shared->Prop} (ht:IsTup s.heap t items) (hs:s.heap.IsSliceOf sl vl vu .none) (pl:IsPart vl lo) (pu:IsPart vu hi)
 (hw:¬(ju items.size 0 lo=0/\ju items.size items.size hi=items.size))
 (h:Q (.ref s.heap.objs.size) {s with heap:=s.heap.push {cls:= .type "tuple",data:= .seq ((items.toList.drop (ju items.size 0 lo)).take (ju items.size items.size hi - ju items.size 0 lo)).toArray}})
 (hsz:items.size<=sizeLine):wpAny (model prog w) A (getItem (.ref t) (.ref sl)) Q E s:=by
 have Mq:sizeOk (.seq ((items.toList.drop (ju items.size 0 lo)).take (ju items.size items.size hi - ju items.size 0 lo)).toArray):=by
  show ((items.toList.drop (ju items.size 0 lo)).take (ju items.size items.size hi - ju items.size 0 lo)).toArray.size<=sizeLine;rw [List.size_toArray,List.length_take,List.length_drop,Array.length_toList];lia
 have hj:ju items.size items.size hi<=items.size:=Yt _ _ (Nat.le_refl _) hi;obtain ⟨os,hos,hcs,hds⟩:=id hs;have hTs:s.TypeIs (.ref sl) "slice" :=⟨os,hos,hcs⟩;unfold getItem
 try with_reducible refine wpAny_holding ?_
 first |refine wpAny_bind (wpAny_pure ?_)|skip
 refine wpAny_bind (wpAny_sequenceKey ht.typeIs (by decide) ?_)
 refine wpAny_bind (wpAny_callSpecial?_slot (name:=Str.ofString "__getitem__") ht.typeIs PyProof.Rows.slot_tuple_getitem
  (wpAny_call_entry PyProof.Rows.slot_tuple_getitem ht.typeIs entry_tuple_getitem ?_ (args_tuple_getitem _ _)))
 show wpAny _ _ (Builtin.Tuple.tupleItemsOf (.ref t) >>= _) _ _ s;refine wpAny_bind (tupleItemsOf_ ht ?_);refine wpAny_bind (wpAny_typeOf hTs ?_);rw [if_pos (by decide)];refine wpAny_bind (vZ hs pl pu ?_)
 have hno:¬((((ju items.size 0 lo:Nat):Int)==0&&(1:Int)==1&&(ju items.size items.size hi - ju items.size 0 lo)==items.size)=true):=by
  intro q;rw [Bool.and_eq_true,Bool.and_eq_true] at q;have q1:((ju items.size 0 lo:Nat):Int)=0:=eq_of_beq q.1.1;have q2:ju items.size items.size hi - ju items.size 0 lo=items.size:=eq_of_beq q.2;exact hw ⟨by lia,by lia⟩
 show wpAny _ _ (if (((ju items.size 0 lo:Nat):Int)==0&&(1:Int)==1&&(ju items.size items.size hi - ju items.size 0 lo)==items.size)=true then _ else _) _ _ s;rw [if_neg hno,QG]
 first
  | exact wpAny_bind (m:=Builtin.Tuple.tupleExact _) (wpAny_newObj_type (wpAny_pure ⟨_,rfl,wpAny_pure h⟩) Mq)
  | exact wpAny_bind (m:=Builtin.Tuple.tupleExact _) (wpAny_newObj_type (wpAny_bind (wpAny_pure (wpAny_pure ⟨_,rfl,wpAny_pure h⟩))) Mq)
  | exact wpAny_bind (wpAny_bind (m:=Builtin.Tuple.tupleExact _) (wpAny_newObj_type (wpAny_pure (wpAny_pure ⟨_,rfl,wpAny_pure h⟩)) Mq))
  | exact wpAny_bind (wpAny_bind (m:=Builtin.Tuple.tupleExact _) (wpAny_newObj_type (wpAny_pure ⟨_,rfl,wpAny_pure h⟩) Mq))
end
end HT
namespace L2
open PySem PySem.Spec PyProof.Rows
abbrev TO:=St->Hp->(Option Int->Hp->Prop)->Prop
def PO (X:Cx) (e:Option Expr) (t:TO):Prop:=
 ∀(pins:List (Addr×Obj)) (s:Shared) (σ:St) (H:Hp) (Q:Option Int->Hp->Prop),Inv X pins σ H s->t σ H Q ->
  wpAny (model X.prog X.w) X.A (evalPart e X.env) (fun u s'=>∃o H',Inv X pins σ H' s'/\IsPart u o/\Q o H') X.xe s
def Uu:TO:=fun _ H Q=>Q none H
def aa_ (t:TE):TO:=fun σ H Q=>t σ H fun x H1=>∃i,x = .int i/\Q (some i) H1
section
variable {X:Cx} {e:Expr} {te:TE} {lo hi:Option Expr} {tl th:TO} {pos p2:Pos}
theorem rE:PO X none Uu:=by
 intro pins s σ H Q I h;rw [evalPart_none];exact wpAny_pure ⟨none,H,I,.none,h⟩
theorem rD (h:PE X e te):PO X (some e) (aa_ te):=by
 intro pins s σ H Q I hw;rw [evalPart_some];refine dN (h pins s σ H _ I hw) fun u s1 ⟨x,H1,I1,r1,q1⟩=> ?_;obtain ⟨i,rfl,q⟩:=q1;obtain ⟨t,rfl⟩:=r1;exact ⟨some i,H1,I1,.int i t,q⟩
def SlR (X:Cx) (r:V->Option Int->Option Int->Hp->VK->Prop):Prop:=
 ∀(pins:List (Addr×Obj)) (s:Shared) (σ:St) (H:Hp) (x:V) (v vl vu:Value) (lo hi:Option Int) (sl:Addr) (Q:VK),Inv X pins σ H s->RelV x v->s.heap.IsSliceOf sl vl vu .none->IsPart vl lo->IsPart vu hi->r x lo hi H Q ->
  ∃T id,typeLookup (.type T) "__getitem__" = pure (some (.builtin id))/\s.TypeIs v T/\wpAny (model X.prog X.w) X.A (getItem v (.ref sl)) (EP X pins σ Q) X.xe s
def tSl (r:V->Option Int->Option Int->Hp->VK->Prop) (te:TE) (tl th:TO):TE:=fun σ H Q=>te σ H fun x H1=>tl σ H1 fun l H2=>th σ H2 fun u H3=>r x l u H3 Q
theorem nU {r:V->Option Int->Option Int->Hp->VK->Prop} (hr:SlR X r) (he:PE X e te) (hl:PO X lo tl) (hu:PO X hi th):PE X (.Subscript e (.Slice lo hi none p2) pos) (tSl r te tl th):=by
 intro pins s σ H Q I h;refine Subscript_ (dN (he pins s σ H _ I h) fun v s1 ⟨x,H1,I1,r1,q1⟩=> ?_);refine wpAny_Slice (dN (hl pins s1 σ H1 _ I1 q1) fun vl s2 ⟨l,H2,I2,pl,q2⟩=>dN (hu pins s2 σ H2 _ I2 q2) fun vu s3 ⟨u,H3,I3,pu,q3⟩=> ?_);rw [evalPart_none];refine wpAny_pure ?_;have I4:Inv X pins σ H3 {s3 with heap:=s3.heap.push {cls:= .type "slice",data:= .fields #[vl,vu,.none]}}:=I3.kept (t':=s3.toks) fun b ob q=>Heap.get?_push_of_some _ q;obtain ⟨T,id,hT,ht,hg⟩:=hr pins {s3 with heap:=s3.heap.push {cls:= .type "slice",data:= .fields #[vl,vu,.none]}} σ H3 x v vl vu l u s3.heap.objs.size Q I4 r1 (Heap.IsSliceOf.new ..) pl pu q3;show wpAny (model X.prog X.w) X.A (subscriptTail e (.Slice lo hi none p2) v (.ref s3.heap.objs.size)) (EP X pins σ Q) X.xe {s3 with heap:=s3.heap.push {cls:= .type "slice",data:= .fields #[vl,vu,.none]}};exact tail_any (ops:=[.ref s3.heap.objs.size,v]) ht hT hg (by with_unfolding_all rfl)
def qK (xs:List V) (lo hi:Option Int):List V:=(xs.drop (HT.ju xs.length 0 lo)).take (HT.ju xs.length xs.length hi - HT.ju xs.length 0 lo)
theorem xK (xs:List V) (lo hi:Option Int):(qK xs lo hi).length<=xs.length:=by
 unfold qK;rw [List.length_take,List.length_drop];lia
def abq (K:PySem.W.Frag):V->Option Int->Option Int->Hp->VK->Prop:=fun x lo hi H Q=>∃a xs,x = .ref a/\cN K H a xs /\
 ¬(HT.ju xs.length 0 lo=0/\HT.ju xs.length xs.length hi=xs.length) /\ ∀p,H p=none->Q (.ref p) (upd H p (.tup (qK xs lo hi)))
theorem Yq:SlR X (abq X.K):=by
 intro pins s σ H x v vl vu lo hi sl Q I rx hs pl pu h;obtain ⟨a,xs,rfl,hx,hw,q⟩:=h;cases rx;obtain ⟨its,r,ht,hz⟩:=I.tuple hx;have hlen:its.toArray.size=xs.length:=by rw [List.size_toArray];exact r.length.symm
 refine ⟨"tuple",_,PyProof.Rows.slot_tuple_getitem.lookup,ht.typeIs, ?_⟩;refine HT.vd ht hs pl pu (by rw [hlen];exact hw) ?_ (by rw [hlen];exact hz);rw [hlen];refine ⟨.ref s.heap.objs.size,_,I.laid (t':=s.toks) (o:= .tup (qK xs lo hi)) (fun b ob q=>Heap.get?_push_of_some _ q) (Nat.le_refl _) ?_,rfl,q _ (I.hok.fresh (Nat.le_refl _))⟩;exact ⟨Nat.le_trans (xK xs lo hi) hz,_,(r.drop (HT.ju xs.length 0 lo)).take (HT.ju xs.length xs.length hi - HT.ju xs.length 0 lo),IsTup.new _ _⟩
theorem Vals.L_ {xs:List V} {us:List Value} (r:Vals xs us):us=[]↔xs=[]:=by
 cases r with
 | nil=>simp
 | cons _ _=>simp
end
end L2
namespace L2
open PySem PySem.Spec PyProof.Rows
def Km (n:Nat) (i:Int):Option Nat:=if 0<=i then (if i<n then some i.toNat else none) else if -(n:Int)<=i then some (i+n).toNat else none
def KZ {α:Type} (xs:List α) (i:Int):Option α:=(Km xs.length i).bind fun j=>xs[j]?
theorem Mj {n:Nat} {i:Int} {j:Nat} (h:Km n i=some j):seqIndex? i n=some j/\j<n /\ -(n:Int)<=i/\i<n:=by
 unfold Km at h
 by_cases h0:0<=i
 ·rw [if_pos h0] at h
  by_cases h1:i<n
  ·rw [if_pos h1] at h
   have e:i.toNat=j:=Option.some.inj h;exact ⟨by rw [seqIndex_of h0 h1,e],by lia,by lia,h1⟩
  ·rw [if_neg h1] at h;cases h
 ·rw [if_neg h0] at h
  by_cases h1: -(n:Int)<=i
  ·rw [if_pos h1] at h
   have e:(i+n).toNat=j:=Option.some.inj h;exact ⟨by rw [seqIndex_neg (by lia) h1,e],by lia,h1,by lia⟩
  ·rw [if_neg h1] at h;cases h
theorem M4 {α:Type} {xs:List α} {i:Int} {v:α} (h:KZ xs i=some v):∃j,seqIndex? i xs.length=some j/\xs[j]? = some v/\j<xs.length /\ -(xs.length:Int)<=i/\i<xs.length:=by
 unfold KZ at h;cases e:Km xs.length i with
 | none=>rw [e] at h;cases h
 | some j=>
   rw [e] at h;obtain ⟨h1,h2,h3,h4⟩:=Mj e;exact ⟨j,h1,h,h2,h3,h4⟩
theorem gD {α:Type} {xs:List α} {j:Nat} {v:α} (h:xs[j]? = some v):KZ xs (j:Int)=some v:=by
 have hj:j<xs.length:=(List.getElem?_eq_some_iff.mp h).1
 have e:Km xs.length (j:Int)=some j:=by
  unfold Km;rw [if_pos (by lia),if_pos (by lia)];simp
 unfold KZ;rw [e];exact h
theorem Jk {α:Type} (xs:List α) (v:α):KZ (xs++[v]) (-1)=some v:=by
 have hl:(xs++[v]).length=xs.length+1:=by simp
 have e:Km (xs++[v]).length (-1)=some xs.length:=by
  unfold Km;rw [hl,if_neg (by decide),if_pos (by lia)];congr 1;lia
 unfold KZ;rw [e];show (xs++[v])[xs.length]? = some v;simp
def Wg (b:Expr):Prop:=∀o i,subscripted b false o i=operate [o,i] (getItem o i)
def IxR (X:Cx) (r:R2):Prop:=
 ∀(value slice:Expr) (pins:List (Addr×Obj)) (s:Shared) (σ:St) (H:Hp) (x y:V) (v u:Value) (Q:VK),Inv X pins σ H s->RelV x v->RelV y u->r x y H Q ->
  subscripted slice false v u=operate [v,u] (getItem v u)->wpAny (model X.prog X.w) X.A (subscriptTail value slice v u) (EP X pins σ Q) X.xe s
def MtR (X:Cx) (id:String) (r:V->List V->Hp->VK->Prop):Prop:=
 ∀(pins:List (Addr×Obj)) (s:Shared) (σ:St) (H:Hp) (x:V) (xs:List V) (v:Value) (us:List Value) (Q:VK),Inv X pins σ H s->RelV x v->Vals xs us->r x xs H Q ->
  wpAny (model X.prog X.w) X.A (call (.builtin id) (v::us)) (EP X pins σ Q) X.xe s
section
variable {X:Cx} {a b:Expr} {ta tb:TE} {pos:Pos}
theorem aW {r:R2} (hr:IxR X r) (ha:PE X a ta) (hb:PE X b tb) (hs:Wg b):PE X (.Subscript a b pos) (tOp r ta tb):=by
 intro pins s σ H Q I h;exact Subscript_ (aad ha hb I h fun v u s2 x y H2 I2 rx ry q=>hr a b pins s2 σ H2 x y v u Q I2 rx ry q (hs _ _))
def abw (K:PySem.W.Frag):R2:=fun x y H Q=>∃p xs i v,x = .ref p/\y = .int i/\bN K H p xs/\KZ xs i=some v/\Q v H
def abv (K:PySem.W.Frag):R2:=fun x y H Q=>∃p xs i v,x = .ref p/\y = .int i/\cN K H p xs/\KZ xs i=some v/\Q v H
theorem Vx:IxR X (abw X.K):=by
 intro value slice pins s σ H x y v u Q I rx ry h hs;obtain ⟨p,xs,i,z,rfl,rfl,hq,he,q⟩:=h;cases rx;obtain ⟨t,rfl⟩:=ry;obtain ⟨its,r,pl,hz⟩:=I.list hq;obtain ⟨j,h1,h2,h3,h4,h5⟩:=M4 he;obtain ⟨w,ew,rw'⟩:=r.get h2;have hl:=r.length;have hn:=wC;have fin:EP X pins σ Q w s:=⟨z,H,I,rw',q⟩
 by_cases h0:0<=i
 ·have hj:i.toNat=j:=by
   rw [seqIndex_of h0 h5] at h1;exact Option.some.inj h1
  exact item_listR pl.isList h0 (by lia) (by rw [hj];simpa using ew) fin hs
 ·have hj:(i+(its.toArray.size:Int)).toNat=j:=by
   rw [seqIndex_neg (by lia) h4] at h1;rw [List.size_toArray,←hl];exact Option.some.inj h1
  exact subscriptTail_builtinR (x:=w) pl.isList.typeIs slot_list_getitem.lookup
   (wpAny_getItem_list_neg (Q:=fun r s'=>r=w/\EP X pins σ Q r s') pl.isList (by lia) (by rw [List.size_toArray]<;>lia) (by lia) (by rw [hj];simpa using ew) ⟨rfl,fin⟩) hs
theorem Zu:IxR X (abv X.K):=by
 intro value slice pins s σ H x y v u Q I rx ry h hs;obtain ⟨p,xs,i,z,rfl,rfl,hq,he,q⟩:=h;cases rx;obtain ⟨t,rfl⟩:=ry;obtain ⟨its,r,pl,hz⟩:=I.tuple hq;obtain ⟨j,h1,h2,h3,h4,h5⟩:=M4 he;obtain ⟨w,ew,rw'⟩:=r.get h2;have hl:=r.length;have hn:=wC;have fin:EP X pins σ Q w s:=⟨z,H,I,rw',q⟩
 exact subscriptTail_builtinR (x:=w) pl.typeIs slot_tuple_getitem.lookup
  (getItem_tuple (j:=j) (Q:=fun r s'=>r=w/\EP X pins σ Q r s') pl (by lia) (by lia) (by rw [List.size_toArray,←hl];exact h1) (by simpa using ew) ⟨rfl,fin⟩) hs
theorem Kd (its:List Value) (n j:Nat) (u:Value):Obj.mapSeq (·.setIfInBounds j u) {cls:= .type "list",data:= .seq its.toArray n}={cls:= .type "list",data:= .seq (its.set j u).toArray n}:=by
 simp [Obj.mapSeq]
theorem Inv.lst {pins:List (Addr×Obj)} {σ:St} {H:Hp} {s:Shared} {p:Addr} {xs:List V} (I:Inv X pins σ H s) (h:H p=some (.lst xs)):
 ∃(its:List Value) (n:Nat),Vals xs its/\s.heap.get? p=some {cls:= .type "list",data:= .seq its.toArray n}/\xs.length<=sizeLine:=by
 obtain ⟨z,its,n,r,e⟩:=I.hok p _ h;exact ⟨its,n,r,e,z⟩
theorem Inv.Zk {pins:List (Addr×Obj)} {σ:St} {H:Hp} {s:Shared} {p:Addr} {xs ys:List V} {its its':List Value} {n n':Nat} {f:Obj->Obj} (I:Inv X pins σ H s) (h:H p=some (.lst xs))
 (ho:s.heap.get? p=some {cls:= .type "list",data:= .seq its.toArray n}) (hf:f {cls:= .type "list",data:= .seq its.toArray n}={cls:= .type "list",data:= .seq its'.toArray n'}) (r:Vals ys its') (hz:ys.length<=sizeLine) (t:Nat):
 Inv X pins σ (upd H p (.lst ys)) {s with heap:=s.heap.update p f,toks:=t}:=by
 have e:(s.heap.update p f).get? p=some {cls:= .type "list",data:= .seq its'.toArray n'}:=by
  rw [Heap.get?_update_self f ho (by rw [hf]<;>rfl),hf]
 refine I.write (x:=p) (e:=p) (by rw [h];trivial) (.inl rfl) (fun b u hb q=>(Heap.get?_update_other _ _ (Ne.symm hb)).trans q) ⟨_,e⟩ ?_;exact ⟨hz,its',n',r,e⟩
def abt:V->V->V->Hp->(Hp->Prop)->Prop:=fun o i v H Q=>∃p xs k j,o = .ref p/\i = .int k/\H p=some (.lst xs)/\Km xs.length k=some j/\Q (upd H p (.lst (xs.set j v)))
theorem set_list:aal X abt:=by
 intro pins s σ H o i v ov iv u Q I ro ri rv h;obtain ⟨p,xs,k,j,rfl,rfl,hp,hj,q⟩:=h;cases ro;obtain ⟨t,rfl⟩:=ri;obtain ⟨its,n,r,ho,hz⟩:=I.lst hp;obtain ⟨h1,h2,h3,h4⟩:=Mj hj;have hl:=r.length;have hn:=wC
 have I':Inv X pins σ (upd H p (.lst (xs.set j v))) {s with heap:=s.heap.update p (Obj.mapSeq (·.setIfInBounds j u))}:=
  I.Zk hp ho (Kd its n j u) (r.set rv j) (by rw [List.length_set];exact hz) s.toks
 by_cases h0:0<=k
 ·have hk:k.toNat=j:=by
   rw [seqIndex_of h0 h4] at h1;exact Option.some.inj h1
  exact PySem.W.ki_setAt ho h0 (by lia) (by rw [List.size_toArray,←hl];exact h4) (by rw [hk];exact ⟨_,I',q⟩)
 ·have hk:(k+(its.toArray.size:Int)).toNat=j:=by
   rw [seqIndex_neg (by lia) h3] at h1;rw [List.size_toArray,←hl];exact Option.some.inj h1
  exact PySem.W.ki_setBack ho (by lia) (by rw [List.size_toArray,←hl];exact h3) (by lia) (by rw [hk];exact ⟨_,I',q⟩)
theorem Eu (lo hi:Option Int) (n:Nat):(sliceBounds lo hi none n).1=((HT.ju n 0 lo:Nat):Int)/\(sliceBounds lo hi none n).2.1=((HT.ju n n hi:Nat):Int)/\(sliceBounds lo hi none n).2.2=1:=by
 refine ⟨?_, ?_,rfl⟩
 ·cases lo with
  | none=>simp [sliceBounds,HT.ju]
  | some i=>
    simp only [sliceBounds,HT.ju,Option.getD_none,show (1:Int)>0 by decide,if_true]
    by_cases h:i<0
    ·simp only [h,if_true]<;>lia
    ·simp only [h,if_false]<;>lia
 ·cases hi with
  | none=>simp [sliceBounds,HT.ju]
  | some i=>
    simp only [sliceBounds,HT.ju,Option.getD_none,show (1:Int)>0 by decide,if_true]
    by_cases h:i<0
    ·simp only [h,if_true]<;>lia
    ·simp only [h,if_false]<;>lia
theorem BR (its:List Value) (lo hi:Option Int):slicePick its.toArray lo hi none=((its.drop (HT.ju its.length 0 lo)).take (HT.ju its.length its.length hi - HT.ju its.length 0 lo)).toArray:=by
 obtain ⟨h1,h2,h3⟩:=Eu lo hi its.toArray.size;unfold slicePick;rw [h1,h2,h3];simp only [sliceRange_one,pick_run,List.size_toArray]<;>rfl
def abr (K:PySem.W.Frag):V->Option Int->Option Int->Hp->VK->Prop:=fun x lo hi H Q=>∃a xs,x = .ref a/\bN K H a xs /\ ∀p,H p=none->Q (.ref p) (upd H p (.lst (qK xs lo hi)))
theorem Uy:SlR X (abr X.K):=by
 intro pins s σ H x v vl vu lo hi sl Q I rx hs pl pu h;obtain ⟨a,xs,rfl,hx,q⟩:=h;cases rx;obtain ⟨its,r,ht,hz⟩:=I.list hx;have hlen:=r.length;refine ⟨"list",_,slot_list_getitem.lookup,ht.isList.typeIs, ?_⟩;refine wpAny_getItem_list_slice ht.isList hs pl pu .none (by simp) ?_ (by rw [List.size_toArray]<;>lia);rw [BR,←hlen];refine ⟨.ref s.heap.objs.size,_,I.laid (t':=s.toks) (o:= .lst (qK xs lo hi)) (fun b ob q=>Heap.get?_push_of_some _ q) (Nat.le_refl _) ?_,rfl,q _ (I.hok.fresh (Nat.le_refl _))⟩;exact ⟨Nat.le_trans (xK xs lo hi) hz,_,0,(r.drop (HT.ju xs.length 0 lo)).take (HT.ju xs.length xs.length hi - HT.ju xs.length 0 lo),Heap.get?_push_size _ rfl⟩
def xJ:V->Bool
 | .non=>true
 | .bl _=>true
 | .int _=>true
 | .str _=>true
 | _=>false
def V4:V->V->Bool
 | .non,.non=>true
 | .bl a,.bl b=>a==b
 | .bl a,.int b=>(if a then 1 else 0)==b
 | .int a,.bl b=>a==(if b then 1 else 0)
 | .int a,.int b=>a==b
 | .str a,.str b=>a==b
 | _,_=>false
theorem ZX {A:Around} {s:Shared} {y x:V} {u v:Value} (ry:RelV y u) (rx:RelV x v) (fy:xJ y=true) (fx:xJ x=true):SeqAt.EqAt A s u v (V4 y x):=by
 cases y with
 | non=>
   cases ry;cases x with
   | non=>cases rx;exact SeqAt.EqAt.same _
   | bl b=>cases rx;exact SeqAt.EqAt.none_bool b
   | int b=>obtain ⟨t,rfl⟩:=rx;exact SeqAt.EqAt.none_int b t
   | str b=>obtain ⟨t,rfl⟩:=rx;exact SeqAt.EqAt.none_str b t
   | _=>exact absurd (show false=true from fx) Bool.false_ne_true
 | bl a=>
   cases ry;cases x with
   | non=>cases rx;exact SeqAt.EqAt.bool_none a
   | bl b=>cases rx;exact SeqAt.EqAt.bool_bool a b
   | int b=>obtain ⟨t,rfl⟩:=rx;exact SeqAt.EqAt.bool_int a b t
   | str b=>obtain ⟨t,rfl⟩:=rx;exact SeqAt.EqAt.bool_str a b t
   | _=>exact absurd (show false=true from fx) Bool.false_ne_true
 | int a=>
   obtain ⟨t',rfl⟩:=ry;cases x with
   | non=>cases rx;exact SeqAt.EqAt.int_none a t'
   | bl b=>cases rx;exact SeqAt.EqAt.int_bool a t' b
   | int b=>obtain ⟨t,rfl⟩:=rx;exact SeqAt.EqAt.int_int a t' b t
   | str b=>obtain ⟨t,rfl⟩:=rx;exact SeqAt.EqAt.int_str a t' b t
   | _=>exact absurd (show false=true from fx) Bool.false_ne_true
 | str a=>
   obtain ⟨t',rfl⟩:=ry;cases x with
   | non=>cases rx;exact SeqAt.EqAt.str_none a t'
   | bl b=>cases rx;exact SeqAt.EqAt.str_bool a t' b
   | int b=>obtain ⟨t,rfl⟩:=rx;exact SeqAt.EqAt.str_int a t' b t
   | str b=>obtain ⟨t,rfl⟩:=rx;exact SeqAt.EqAt.str_str a t' b t
   | _=>exact absurd (show false=true from fx) Bool.false_ne_true
 | _=>exact absurd (show false=true from fy) Bool.false_ne_true
def V5 (x:V) (u:Value):Bool:=match u with
 | .none=>V4 .non x
 | .bool b=>V4 (.bl b) x
 | .int i _=>V4 (.int i) x
 | .str z _=>V4 (.str z) x
 | _=>false
theorem Sh {x y:V} {u:Value} (r:RelV y u) (f:xJ y=true):V5 x u=V4 y x:=by
 cases y with
 | non=>cases r;rfl
 | bl b=>cases r;rfl
 | int i=>obtain ⟨t,rfl⟩:=r;rfl
 | str z=>obtain ⟨t,rfl⟩:=r;rfl
 | _=>exact absurd (show false=true from f) Bool.false_ne_true
theorem Gx {x:V}:∀{xs:List V} {us:List Value},Vals xs us->xs.all xJ=true->us.any (V5 x)=xs.any fun y=>V4 y x
 | _,_,.nil,_=>rfl
 | y::xs,u::us,.cons r t,f=>by
   rw [List.all_cons,Bool.and_eq_true] at f;rw [List.any_cons,List.any_cons,Sh r f.1,Gx t f.2]
theorem Ah {A:Around} {s:Shared} {x:V} {v:Value} (rx:RelV x v) (fx:xJ x=true):∀{xs:List V} {us:List Value},Vals xs us->xs.all xJ=true -> ∀u∈us,SeqAt.EqAt A s u v (V5 x u)
 | _,_,.nil,_=>fun u hu=>by cases hu
 | y::xs,u::us,.cons r t,f=>fun u' hu=>by
   rw [List.all_cons,Bool.and_eq_true] at f;rcases List.mem_cons.mp hu with rfl|hu
   ·rw [Sh r f.1];exact ZX r rx f.1 fx
   ·exact Ah rx fx t f.2 u' hu
def inV (x:V) (xs:List V):Bool:=xs.any fun y=>V4 y x
def rIn (K:PySem.W.Frag) (neg:Bool):R2:=fun x y H Q=>∃p xs,y = .ref p/\(bN K H p xs\/cN K H p xs)/\xJ x=true/\xs.all xJ=true/\Q (.bl (if neg then !inV x xs else inV x xs)) H
theorem Nu:rZ X (compareOp .In) (rIn X.K false):=by
 intro pins s σ H x y v u Q I rx ry h;obtain ⟨p,xs,rfl,hq,fx,fs,q⟩:=h;cases ry;rcases hq with hq|hq
 ·obtain ⟨its,r,pl,hz⟩:=I.list hq
  refine SeqAt.in_listAt (V5 x) pl.isList (fun w hw=>Ah rx fx r fs w (by simpa using hw)) ⟨.bl _,H,I,rfl, ?_⟩;rw [show its.toArray.any (V5 x)=its.any (V5 x) by simp,Gx r fs];exact q
 ·obtain ⟨its,r,pl,hz⟩:=I.tuple hq
  refine SeqAt.in_tupleAt (V5 x) pl (fun w hw=>Ah rx fx r fs w (by simpa using hw)) ⟨.bl _,H,I,rfl, ?_⟩;rw [show its.toArray.any (V5 x)=its.any (V5 x) by simp,Gx r fs];exact q
theorem Gi:jy X (.builtin "len") (fun xs H Q=>∃p ys,xs=[.ref p]/\(bN X.K H p ys\/cN X.K H p ys)/\Q (.int ys.length) H):=by
 intro pins s σ H xs us Q I r h;obtain ⟨p,ys,rfl,hq,q⟩:=h;obtain ⟨u,rfl,rx⟩:=vals1 r;cases rx;have hn:=wC;rcases hq with hq|hq
 ·obtain ⟨its,r',pl,hz⟩:=I.list hq
  have hlen:=r'.length;exact Calls.call_len_list pl.isList (by simp only [List.size_toArray]<;>lia) ⟨.int ys.length,H,I.tok _,⟨s.toks+1,by rw [List.size_toArray,hlen]⟩,q⟩
 ·obtain ⟨its,r',pl,hz⟩:=I.tuple hq
  have hlen:=r'.length;exact len_tuple pl (by simp only [List.size_toArray]<;>lia) ⟨.int ys.length,H,I.tok _,⟨s.toks+1,by rw [List.size_toArray,hlen]⟩,q⟩
theorem Gh:jy X (.type "list") (fun xs H Q=>∃p ys,xs=[.ref p]/\(bN X.K H p ys\/cN X.K H p ys) /\ ∀l,H l=none->Q (.ref l) (upd H l (.lst ys))):=by
 intro pins s σ H xs us Q I r h;obtain ⟨p,ys,rfl,hq,q⟩:=h;obtain ⟨u,rfl,rx⟩:=vals1 r;cases rx
 have fin:∀(its:List Value),Vals ys its->ys.length<=sizeLine -> ∀(h':Heap) (c':Nat),(∀b o',s.heap.get? b=some o'->h'.get? b=some o') ->
  h'.get? s.heap.objs.size=some {cls:= .type "list",dict:=none,data:= .seq its.toArray c',slots:= #[]}->EP X pins σ Q (.ref s.heap.objs.size) {s with heap:=h'}:=fun its r' hz h' c' kp e=>
  ⟨.ref s.heap.objs.size,_,I.laid (t':=s.toks) kp (Nat.le_refl _) (show dg X.prog X.w _ h' _ (.lst ys) from ⟨hz,its,c',r',e⟩),rfl,q _ (I.hok.fresh (Nat.le_refl _))⟩
 rcases hq with hq|hq
 ·obtain ⟨its,r',pl,hz⟩:=I.list hq
  have hlen:=r'.length;obtain ⟨o,ho,hc,n,hd⟩:=pl.isList;exact call_list_seq p (.inl rfl) ho hc hd (fun h' c' kp e=>fin its r' hz h' c' kp e) (by simp only [List.size_toArray]<;>lia)
 ·obtain ⟨its,r',pl,hz⟩:=I.tuple hq
  have hlen:=r'.length;obtain ⟨o,ho,hc,n,hd⟩:=pl;exact call_list_seq p (.inr rfl) ho hc hd (fun h' c' kp e=>fin its r' hz h' c' kp e) (by simp only [List.size_toArray]<;>lia)
def tyV (K:PySem.W.Frag) (T:String) (x:V) (H:Hp):Prop:=match x with
 | .str _=>T = "str"
 | .int _=>T = "int"
 | .ref p=>(T = "list" /\ ∃xs,bN K H p xs)\/(T = "tuple" /\ ∃o,K.lookup p=some o/\o.cls = .type "tuple" /\ o.dict=none) \/
    (T = "dict" /\ ((∃kvs,H p=some (.dK kvs)) \/ ∃kvs,H p=some (.dT kvs)))\/(T = "set" /\ ∃S n,H p=some (.set S n))
 | _=>False
theorem Qa {pins:List (Addr×Obj)} {σ:St} {H:Hp} {s:Shared} {T:String} {x:V} {v:Value} (I:Inv X pins σ H s) (r:RelV x v) (ty:tyV X.K T x H):
 s.TypeIs v T /\ ∀a,v = .ref a -> ∃ob,s.heap.get? a=some ob/\ob.dict=none:=by
 cases x with
 | str z=>
   obtain ⟨t,rfl⟩:=r;cases (show T = "str" from ty);exact ⟨typeIs_str s z t,fun _ e=>nomatch e⟩
 | int i=>
   obtain ⟨t,rfl⟩:=r;cases (show T = "int" from ty);exact ⟨typeIs_int s i t,fun _ e=>nomatch e⟩
 | ref p=>
   cases r;rcases ty with ⟨rfl,xs,hq⟩|⟨rfl,o,hk,hc,hd⟩|⟨rfl,hk⟩|⟨rfl,S,n,hk⟩
   ·obtain ⟨its,_,pl,_⟩:=I.list hq
    refine ⟨pl.isList.typeIs,fun a e=> ?_⟩;cases e;obtain ⟨o,n,e,c,hd,_⟩:=pl;exact ⟨o,e,hd⟩
   ·refine ⟨⟨o,I.nM p o hk,hc⟩,fun a e=> ?_⟩
    cases e;exact ⟨o,I.nM _ o hk,hd⟩
   ·have z:∃o,s.heap.get? p=some o/\o.ExactDict:=by
     rcases hk with ⟨kvs,hk⟩|⟨kvs,hk⟩
     ·obtain ⟨_,_,_,_,o,_,_,e,ex,_⟩:=I.hok p _ hk
      exact ⟨o,e,ex⟩
     ·obtain ⟨_,_,_,_,o,_,_,e,ex,_⟩:=I.hok p _ hk
      exact ⟨o,e,ex⟩
    obtain ⟨o,e,ex⟩:=z;refine ⟨⟨o,e,ex.1⟩,fun a e2=> ?_⟩;cases e2;exact ⟨o,e,ex.2.1⟩
   ·obtain ⟨o,_,_,_,e,ex,_⟩:=I.hok p _ hk
    refine ⟨⟨o,e,ex.1⟩,fun a e2=> ?_⟩;cases e2;exact ⟨o,e,ex.2.1⟩
 | _=>exact False.elim ty
def abf (K:PySem.W.Frag) (T:String) (r:V->List V->Hp->VK->Prop) (to:TE):TE:=fun σ H Q=>to σ H fun x H1=>tyV K T x H1/\r x [] H1 Q
def tBM (K:PySem.W.Frag) (T:String) (r:V->List V->Hp->VK->Prop) (to:TE) (t:TA):TE:=fun σ H Q=>to σ H fun x H1=>tyV K T x H1/\t σ H1 fun xs H2=>r x xs H2 Q
variable {o e:Expr} {es:List Expr} {to:TE} {t:TA} {name:Str} {apos cpos:Pos} {T id:String} {r:V->List V->Hp->VK->Prop}
theorem YZ (pa:PlainAttrs T) (slot:Slot T name id) (hty:typeOf (.builtin id)=pure (.type "method_descriptor")) (hm:MtR X id r) (ho:PE X o to)
 (hbase:attributeBase o name X.env (eval o X.env)=eval o X.env:=by rfl) (hline:(apos.endLine==cpos.line)=true:=by rfl):PE X (.Call (.Attribute o name apos) [] [] cpos) (abf X.K T r to):=by
 intro pins s σ H Q I h;refine wpAny_Call_method0_late hbase hline (dN (ho pins s σ H _ I h) fun v s1 ⟨x,H1,I1,r1,ty,q1⟩=> ?_);obtain ⟨h1,h2⟩:=Qa I1 r1 ty;exact ⟨T,id,pa,slot,hty,h1,h2,Calls.callWith_builtin rfl (PySem.evalArgs_none (hm pins s1 σ H1 x [] v [] Q I1 r1 .nil q1))⟩
theorem WX (pa:PlainAttrs T) (slot:Slot T name id) (hty:typeOf (.builtin id)=pure (.type "method_descriptor")) (hm:MtR X id r) (ho:PE X o to) (ha:PA X (e::es) t)
 (hbase:attributeBase o name X.env (eval o X.env)=eval o X.env:=by rfl)
 (hfew:((backTo cpos (starEach (e::es) X.env)).all (fun x=> !x.1)&&(backToKw cpos (keywordEach [] X.env)).all (fun x=>x.1.isSome)
   && decide ((e::es).length+([]:List Keyword).length+(if ([]:List Keyword).isEmpty then 0 else 1)<30))=true:=by rfl)
 (hline:(apos.endLine==cpos.line)=true:=by rfl) (hs:starEach (e::es) X.env=(false,eval e X.env)::starEach es X.env:=by rfl) (hplain:(backTo cpos (starEach es X.env)).any (·.1)=false:=by rfl):
 PE X (.Call (.Attribute o name apos) (e::es) [] cpos) (tBM X.K T r to t):=by
 intro pins s σ H Q I h;refine wpAny_Call_method_late hbase hfew hline rfl (dN (ho pins s σ H _ I h) fun v s1 ⟨x,H1,I1,r1,ty,q1⟩=> ?_);obtain ⟨h1,h2⟩:=Qa I1 r1 ty;refine ⟨T,id,pa,slot,hty,h1,h2, ?_⟩;have hA:=ha cpos pins s1 σ H1 _ I1 q1;rw [hs] at hA ⊢;refine Calls.callWith_builtin (by show (false||(backTo cpos (starEach es X.env)).any (·.1))=false;rw [hplain]<;>rfl) (Calls.evalArgs_plain ?_);exact dN hA fun us s2 ⟨vs,H2,I2,r2,q2⟩=>hm pins s2 σ H2 x vs v us Q I2 r1 r2 q2
end
end L2
namespace L2
open PySem PySem.Spec PyProof.Rows
def MtM (X:Cx) (id:String) (r:V->List V->Hp->VK->Prop):Prop:=
 ∀(pins:List (Addr×Obj)) (s:Shared) (σ:St) (H:Hp) (x:V) (xs:List V) (v:Value) (us:List Value) (Q:VK),Inv X pins σ H s->RelV x v->Vals xs us->r x xs H Q ->
  wpAny (model X.prog X.w) X.A (call (.builtin id) (v::us)) (EP X pins σ Q) X.xe s
theorem Vals.one {x:V} {us:List Value} (h:Vals [x] us):∃u,us=[u]/\RelV x u:=by
 cases h with
 | cons r t=>cases t;exact ⟨_,rfl,r⟩
theorem Vals.zero:∀{us:List Value},Vals [] us->us=[]
 | _,.nil=>rfl
theorem Vals.eraseIdx:∀{xs:List V} {us:List Value} (i:Nat),Vals xs us->Vals (xs.eraseIdx i) (us.eraseIdx i)
 | _,_,_,.nil=> .nil
 | _,_,0,.cons _ t=>t
 | _,_,i+1,.cons r t=> .cons r (Vals.eraseIdx i t)
theorem Vals.rep {xs:List V} {us:List Value} (h:Vals xs us):∀k:Nat,Vals (List.replicate k xs).flatten (List.replicate k us).flatten
 | 0=> .nil
 | k+1=>by
   rw [List.replicate_succ,List.replicate_succ,List.flatten_cons,List.flatten_cons];exact Vals.append h (Vals.rep h k)
theorem Df {α:Type}:∀(l:List α) (i:Nat),(l.eraseIdx i).length<=l.length
 | [],_=>Nat.le_refl _
 | _::_,0=>Nat.le_succ _
 | _::r,i+1=>Nat.succ_le_succ (Df r i)
theorem foldl_rep (its:List Value):∀(k:Nat) (acc:List Value),
 List.foldl (fun x1 x2=>x1++x2) acc.toArray (List.replicate k its.toArray)=(acc++(List.replicate k its).flatten).toArray
 | 0,acc=>by simp
 | k+1,acc=>by
   have e:acc.toArray++its.toArray=(acc++its).toArray:=by simp
   have e2:(acc++its)++(List.replicate k its).flatten=acc++(List.replicate (k+1) its).flatten:=by
    rw [List.replicate_succ,List.flatten_cons,List.append_assoc]
   rw [←e2,←foldl_rep its k (acc++its),←e,List.replicate_succ,List.foldl_cons]
section
variable {X:Cx} {pins:List (Addr×Obj)} {σ:St} {H:Hp} {s:Shared} {l b:Addr} {xs ys zs:List V}
theorem Inv.Vu {its its':List Value} {n:Nat} {f:Array Value->Array Value} {t':Nat} (I:Inv X pins σ H s) (hH:H l=some (.lst xs))
 (e:s.heap.get? l=some {cls:= .type "list",data:= .seq its.toArray n}) (hf:f its.toArray=its'.toArray) (hv:Vals ys its') (hz:ys.length<=sizeLine):
 Inv X pins σ (upd H l (.lst ys)) {s with heap:=s.heap.update l (Obj.mapSeq f),toks:=t'}:=by
 have q:=PySem.IsL.update e f;rw [hf] at q;refine I.write (x:=l) (e:=l) (by rw [hH];exact trivial) (.inl rfl) (fun b' u hb hu=>(Heap.get?_update_other s.heap (Obj.mapSeq f) (Ne.symm hb)).trans hu) ⟨_,q⟩ ?_;exact ⟨hz,its',_,hv,q⟩
theorem Inv.abT {its:List Value} {t':Nat} (I:Inv X pins σ H s) (hv:Vals ys its) (hz:ys.length<=sizeLine):
 Inv X pins σ (upd H s.heap.objs.size (.lst ys)) {s with heap:=s.heap.push {cls:= .type "list",data:= .seq its.toArray},toks:=t'}:=
 I.laid (fun _ _ q=>Heap.get?_push_of_some _ q) (Nat.le_refl _) ⟨hz,its,0,hv,Heap.get?_push_size _ rfl⟩
theorem Inv.fresh (I:Inv X pins σ H s):H s.heap.objs.size=none:=I.hok.fresh (Nat.le_refl _)
theorem Inv.HY (I:Inv X pins σ H s) (hH:H l=some (.lst xs)):xs.length<=sizeLine /\ ∃(its:List Value) (n:Nat),Vals xs its/\xs.length=its.length/\s.heap.get? l=some {cls:= .type "list",data:= .seq its.toArray n}:=by
 obtain ⟨z,its,n,r,e⟩:=I.hok l _ hH;exact ⟨z,its,n,r,r.length,e⟩
theorem Hz {n:Nat} (h:n<=sizeLine):Builtin.List.listTooLong n=false:=by
 unfold Builtin.List.listTooLong;exact decide_eq_false (by lia)
end
section
variable {X:Cx}
def Ln:V->List V->Hp->VK->Prop:=fun x vs H Q=>∃l xs y,x = .ref l/\vs=[y]/\H l=some (.lst xs)/\xs.length<sizeLine/\Q .non (upd H l (.lst (xs++[y])))
theorem C_:MtM X "list.append" Ln:=by
 intro pins s σ H x vs v us Q I rx rv h;obtain ⟨l,xs,y,rfl,rfl,hH,hz,q⟩:=h;cases rx;obtain ⟨u,rfl,ru⟩:=rv.one;obtain ⟨z,its,n,r,hl,e⟩:=I.HY hH;refine call_meets F.slot_list_append ⟨_,e,rfl⟩ F.entry_list_append (F.args_list_append_2 _ _) (PySem.list_append l its.toArray n u (by rw [List.size_toArray];lia)) ⟨e, ?_⟩;refine ⟨.non,_,I.Vu (its':=its++[u]) hH e (by simp) (r.append (.cons ru .nil)) ?_,rfl,q⟩;rw [List.length_append,List.length_singleton];lia
def U5:V->List V->Hp->VK->Prop:=fun x vs H Q=>∃l b xs zs,x = .ref l/\vs=[.ref b]/\H l=some (.lst xs)/\H b=some (.lst zs)/\xs.length+zs.length<=sizeLine/\Q .non (upd H l (.lst (xs++zs)))
theorem Ob:MtM X "list.extend" U5:=by
 intro pins s σ H x vs v us Q I rx rv h;obtain ⟨l,b,xs,zs,rfl,rfl,hH,hB,hz,q⟩:=h;cases rx;obtain ⟨u,rfl,ru⟩:=rv.one;cases ru;obtain ⟨z,its,n,r,hl,e⟩:=I.HY hH;obtain ⟨z2,its2,n2,r2,hl2,e2⟩:=I.HY hB;have hsz:its.toArray.size+its2.toArray.size<=sizeLine:=by rw [List.size_toArray,List.size_toArray];lia
 have RK:¬(!its.toArray.isEmpty&&Builtin.List.listTooLong (its.toArray.size+its2.toArray.size))=true:=by
  rw [Hz hsz,Bool.and_false];exact Bool.false_ne_true
 refine call_meets F.slot_list_extend ⟨_,e,rfl⟩ F.entry_list_extend (F.args_list_extend_2 _ _)
  (AutoSeq1.list_extend_list_list_0 l its.toArray n b its2.toArray n2 RK (by rw [List.size_toArray];lia) (by lia)) ⟨e,e2, ?_⟩
 refine ⟨.non,_,I.Vu (its':=its++its2) hH e (by simp) (r.append r2) ?_,rfl,q⟩;rw [List.length_append];lia
def Yz:V->List V->Hp->VK->Prop:=fun x vs H Q=>∃l xs i k y,x = .ref l/\vs=[.int i]/\H l=some (.lst xs) /\ -(2 ^ 63)<=i/\i<2 ^ 63/\seqIndex? i xs.length=some k/\xs[k]? = some y/\Q y (upd H l (.lst (xs.eraseIdx k)))
theorem Rj:MtM X "list.pop" Yz:=by
 intro pins s σ H x vs v us Q I rx rv h;obtain ⟨l,xs,i,k,y,rfl,rfl,hH,h1,h2,hk,hy,q⟩:=h;cases rx;obtain ⟨u,rfl,ru⟩:=rv.one;obtain ⟨t,rfl⟩:=ru;obtain ⟨z,its,n,r,hl,e⟩:=I.HY hH;obtain ⟨w,hw,rw'⟩:=r.get hy
 refine call_meets F.slot_list_pop ⟨_,e,rfl⟩ F.entry_list_pop (F.args_list_pop_2 _ _)
  (MeetsSeq.list_pop_at l its.toArray n i t k w (fitsIndex_both h1 h2) (by rw [List.size_toArray,←hl];exact hk) (by rw [←Array.getElem?_toList];exact hw) (by rw [List.size_toArray];lia)) ⟨e, ?_⟩
 refine ⟨y,_,I.Vu (its':=its.eraseIdx k) hH e ?_ (r.eraseIdx k) ?_,rw',q⟩
 ·show its.toArray.eraseIdxIfInBounds k=(its.eraseIdx k).toArray
  rw [List.eraseIdxIfInBounds_toArray]
 ·have:=Df xs k
  lia
def YC:V->List V->Hp->VK->Prop:=fun x vs H Q=>∃l xs,x = .ref l/\vs=[]/\H l=some (.lst xs)/\Q .non (upd H l (.lst []))
theorem Rm:MtM X "list.clear" YC:=by
 intro pins s σ H x vs v us Q I rx rv h;obtain ⟨l,xs,rfl,rfl,hH,q⟩:=h;cases rx;have hus:=rv.zero;subst hus;obtain ⟨z,its,n,r,hl,e⟩:=I.HY hH;refine call_meets F.slot_list_clear ⟨_,e,rfl⟩ F.entry_list_clear (F.args_list_clear_1 _) (AutoSeq1.list_clear_list_0 l its.toArray n (by rw [List.size_toArray];lia)) ⟨e, ?_⟩;exact ⟨.non,_,I.Vu (its':=[]) (ys:=[]) hH e rfl .nil (Nat.zero_le _),rfl,q⟩
def agC:R2:=fun x y H Q=>∃l b xs zs,x = .ref l/\y = .ref b/\H l=some (.lst xs)/\H b=some (.lst zs)/\xs.length+zs.length<=sizeLine /\ ∀p,H p=none->Q (.ref p) (upd H p (.lst (xs++zs)))
theorem J0:rZ X (binaryOp .Add) agC:=by
 intro pins s σ H x y v u Q I rx ry h;obtain ⟨l,b,xs,zs,rfl,rfl,hH,hB,hz,q⟩:=h;cases rx;cases ry;obtain ⟨z,its,n,r,hl,e⟩:=I.HY hH;obtain ⟨z2,its2,n2,r2,hl2,e2⟩:=I.HY hB;refine PySem.P.add_list e e2 ?_ (by rw [List.size_toArray,List.size_toArray];lia);have ea:its.toArray++its2.toArray=(its++its2).toArray:=by simp
 rw [ea];exact ⟨.ref _,_,I.abT (t':=s.toks) (r.append r2) (by rw [List.length_append];lia),rfl,q _ I.fresh⟩
def agz:R2:=fun x y H Q=>∃l k xs,x = .ref l/\y = .int k/\H l=some (.lst xs) /\ -(2 ^ 63)<=k/\k<2 ^ 63/\xs.length*k.toNat<=sizeLine /\
 ∀p,H p=none->Q (.ref p) (upd H p (.lst (List.replicate k.toNat xs).flatten))
theorem len_rep {α:Type} (xs:List α) (k:Nat):(List.replicate k xs).flatten.length=k*xs.length:=by
 induction k with
 | zero=>simp
 | succ k ih=>rw [List.replicate_succ,List.flatten_cons,List.length_append,ih,Nat.succ_mul,Nat.add_comm]
theorem Fd:rZ X (binaryOp .Mult) agz:=by
 intro pins s σ H x y v u Q I rx ry h;obtain ⟨l,k,xs,rfl,rfl,hH,h1,h2,hz,q⟩:=h;cases rx;obtain ⟨t,rfl⟩:=ry;obtain ⟨z,its,n,r,hl,e⟩:=I.HY hH;have hlen:its.toArray.size*k.toNat<=sizeLine:=by rw [List.size_toArray,←hl];exact hz
 have hcap:¬its.toArray.size*k.toNat>(2 ^ 63 - 1) / 8:=by
  have:(sizeLine:Nat)<=(2 ^ 63 - 1) / 8:=by decide
  lia
 have hfit:¬(!Builtin.List.listFitsIndex k)=true:=by
  rw [fitsIndex_both h1 h2];exact Bool.false_ne_true
 have RK:¬Builtin.List.listTooLong (its.toArray.size*k.toNat)=true:=by
  rw [Hz hlen];exact Bool.false_ne_true
 have hnew:List.foldl (fun x1 x2=>x1++x2) #[] (List.replicate (if its.toArray.isEmpty=true then 0 else k.toNat) its.toArray)=(List.replicate k.toNat its).flatten.toArray:=by
  have f0:∀m:Nat,List.foldl (fun x1 x2=>x1++x2) #[] (List.replicate m its.toArray)=(List.replicate m its).flatten.toArray:=fun m=>by
   have:=foldl_rep its m [];rw [List.nil_append] at this;exact this
  rw [f0];cases its with
  | nil=>simp
  | cons a r'=>rw [if_neg (by simp)]
 refine wpAny_binaryOp_repeat_ref (T:= "list") (U:= "int") (by decide) ⟨_,e,rfl⟩ (fun s'=>typeIs_int s' k t) noFill_list_mul F.fills_int_mul F.slot_int_rmul repeat_list F.slot_int_index.lookup
  (call_meets F.slot_int_rmul (typeIs_int s k t) F.entry_int_rmul (F.args_int_rmul_2 _ _) (int___rmul___int_list k t l its.toArray n)
    ⟨e,rfl,⟨_,e,rfl⟩,call_meets F.slot_list_mul ⟨_,e,rfl⟩ F.entry_list_mul (F.args_list_mul_2 _ _) (AutoListH.list___mul___list_int_3 l its.toArray n k t hfit hcap RK) ⟨e, ?_⟩⟩)
 rw [hnew];exact ⟨.ref _,_,I.abT (t':=s.toks) (r.rep k.toNat) (by rw [len_rep,Nat.mul_comm];exact hz),rfl,q _ I.fresh⟩
end
section
variable {prog:Program} {w:World} {A:Around} {E:Value->Shared->Prop} {s:Shared}
end
section
variable {X:Cx}
end
end L2
namespace L2
open PySem PySem.Spec PyProof.Rows
section
variable {κ:Type} [DecidableEq κ]
def gH (kvs:List (κ×V)) (k:κ):Option V:=(kvs.find? fun kv=>decide (kv.1=k)).map (·.2)
def putK (kvs:List (κ×V)) (k:κ) (v:V):List (κ×V):=
 if (kvs.any fun kv=>decide (kv.1=k))=true then kvs.map (fun kv=>if kv.1=k then (kv.1,v) else kv) else kvs++[(k,v)]
theorem gZ {p:κ×V} {r:List (κ×V)} {k:κ} (e:p.1=k):gH (p::r) k=some p.2:=by simp [gH,List.find?_cons,e]
theorem g_ {p:κ×V} {r:List (κ×V)} {k:κ} (e:¬p.1=k):gH (p::r) k=gH r k:=by simp [gH,List.find?_cons,e]
theorem ux (k:κ):∀kvs:List (κ×V),(kvs.any fun kv=>decide (kv.1=k))=(gH kvs k).isSome
 | []=>rfl
 | p::r=>by
   rw [List.any_cons]
   by_cases e:p.1=k
   ·simp only [gZ e,decide_eq_true e,Bool.true_or,Option.isSome_some]
   ·rw [g_ e,decide_eq_false e,Bool.false_or];exact ux k r
theorem G9 (k j:κ) (y:V):∀kvs:List (κ×V),gH (kvs.map fun kv=>if kv.1=k then (kv.1,y) else kv) j=(gH kvs j).map fun x=>if j=k then y else x
 | []=>rfl
 | p::r=>by
   have ih:=G9 k j y r;rw [List.map_cons]
   by_cases h:p.1=k
   ·rw [if_pos h]
    by_cases e:p.1=j
    ·rw [gZ (p:=(p.1,y)) e,gZ e,Option.map_some,if_pos (e.symm.trans h)]
    ·rw [g_ (p:=(p.1,y)) e,g_ e,ih]
   ·rw [if_neg h]
    by_cases e:p.1=j
    ·rw [gZ (p:=p) e,gZ e,Option.map_some,if_neg (fun z=>h (e.trans z))]
    ·rw [g_ (p:=p) e,g_ e,ih]
theorem Cw (k j:κ) (y:V):∀kvs:List (κ×V),gH kvs k=none->gH (kvs++[(k,y)]) j=if j=k then some y else gH kvs j
 | [],_=>by
   by_cases e:k=j
   ·rw [if_pos e.symm];exact gZ (p:=(k,y)) e
   ·rw [if_neg (fun z=>e z.symm)];exact g_ (p:=(k,y)) e
 | p::r,hn=>by
   rw [List.cons_append];have hk:¬p.1=k:=fun z=>by rw [gZ z] at hn;cases hn
   rw [g_ hk] at hn;have ih:=Cw k j y r hn
   by_cases e:p.1=j
   ·rw [gZ e,gZ e,if_neg (fun z=>hk (e.trans z))]
   ·rw [g_ e,g_ e,ih]
theorem zy (kvs:List (κ×V)) (k j:κ) (y:V):gH (putK kvs k y) j=if j=k then some y else gH kvs j:=by
 unfold putK
 by_cases a:(kvs.any fun kv=>decide (kv.1=k))=true
 ·rw [if_pos a,G9]
  rw [ux] at a
  by_cases e:j=k
  ·obtain ⟨x,hx⟩:=Option.isSome_iff_exists.mp a
   rw [if_pos e,e,hx,Option.map_some,if_pos rfl]
  ·rw [if_neg e]
   cases gH kvs j with
   | none=>rfl
   | some x=>rw [Option.map_some,if_neg e]
 ·rw [if_neg a]
  refine Cw k j y kvs ?_;rw [ux] at a;cases q:gH kvs k with
  | none=>rfl
  | some x=>rw [q] at a;exact (a rfl).elim
theorem xq (kvs:List (κ×V)) (k:κ) (v:V):(putK kvs k v).length<=kvs.length+1:=by
 unfold putK;split
 ·rw [List.length_map];lia
 ·rw [List.length_append,List.length_cons,List.length_nil];lia
theorem nu.Oi {o:Option V} {u:Option Value} (r:nu o u):o.isSome=u.isSome:=by
 cases o with
 | none=>cases u with
   | none=>rfl
   | some _=>exact (show False from r).elim
 | some _=>cases u with
   | none=>exact (show False from r).elim
   | some _=>rfl
theorem nu.getD {o:Option V} {u:Option Value} {d:V} {d':Value} (r:nu o u) (rd:RelV d d'):RelV (o.getD d) (u.getD d'):=by
 cases o with
 | none=>cases u with
   | none=>exact rd
   | some _=>exact (show False from r).elim
 | some _=>cases u with
   | none=>exact (show False from r).elim
   | some _=>exact r
theorem KV.val {kvs:List (κ×V)} {vs:List (κ×Value)} (r:KV kvs vs) (k:κ):nu (gH kvs k) (valueAt vs k):=by
 unfold KV at r
 induction r with
 | nil=>exact True.intro
 | @cons p q ps qs h t ih=>
   obtain ⟨h1,h2⟩:=h
   by_cases e:p.1=k
   ·have e':q.1=k:=h1.symm.trans e
    have b:valueAt (q::qs) k=some q.2:=by simp [valueAt,List.find?_cons,e']
    rw [gZ e,b];exact h2
   ·have e':¬q.1=k:=fun z=>e (h1.trans z)
    have b:valueAt (q::qs) k=valueAt qs k:=by simp [valueAt,List.find?_cons,e']
    rw [g_ e,b];exact ih
end
theorem W8 {P:Program} {w:World} {k:Key} {u:Value} (r:RelV (kV k) u):(gC P w).is k u=true:=by
 cases k with
 | inl i=>obtain ⟨t,e⟩:=(show ∃t,u=Value.int i t from r);subst e;exact HJ P w i t
 | inr x=>obtain ⟨t,e⟩:=(show ∃t,u=Value.str x t from r);subst e;exact HF P w x t
theorem Dj {P:Program} {w:World}:∀{ks:List Key} {us:List Value},Vals (ks.map kV) us->ItemsAre (gC P w) ks us
 | [],_,r=>by rw [List.map_nil] at r;cases r;exact .nil
 | k::ks,_,r=>by
   rw [List.map_cons] at r;cases r with
   | cons h t=>exact .cons (W8 h) (Dj t)
abbrev KT (H:Hp):List (List Key×V)->List (List Key×Addr×Value)->Prop:=Paired fun p q=>p.1=q.1/\H q.2.1=some (.tup (p.1.map kV))/\RelV p.2 q.2.2
theorem KT.val {H:Hp} {kvs:List (List Key×V)} {xs:List (List Key×Addr×Value)} (r:KT H kvs xs) (k:List Key):nu (gH kvs k) ((atKey xs k).map (·.2)):=by
 induction r with
 | nil=>exact True.intro
 | @cons p q ps qs h t ih=>
   obtain ⟨h1,_,h2⟩:=h
   by_cases e:p.1=k
   ·have e':q.1=k:=h1.symm.trans e
    have b:atKey (q::qs) k=some q.2:=by simp [atKey,List.find?_cons,e']
    rw [gZ e,b];exact h2
   ·have e':¬q.1=k:=fun z=>e (h1.trans z)
    have b:atKey (q::qs) k=atKey qs k:=by simp [atKey,List.find?_cons,e']
    rw [g_ e,b];exact ih
theorem KT.repl {H:Hp} {kvs:List (List Key×V)} {xs:List (List Key×Addr×Value)} (r:KT H kvs xs) (k:List Key) {y:V} {u:Value} (ry:RelV y u):
 KT H (kvs.map fun kv=>if kv.1=k then (kv.1,y) else kv) (xs.map (putAt k u)):=by
 induction r with
 | nil=>exact .nil
 | @cons p q ps qs h t ih=>
   rw [List.map_cons,List.map_cons];refine .cons ?_ ih;obtain ⟨h1,h2,h3⟩:=h;unfold putAt
   by_cases e:p.1=k
   ·rw [if_pos e,if_pos (h1.symm.trans e)];exact ⟨h1,h2,ry⟩
   ·rw [if_neg e,if_neg (fun z=>e (h1.trans z))];exact ⟨h1,h2,h3⟩
theorem KT.put {H:Hp} {kvs:List (List Key×V)} {xs:List (List Key×Addr×Value)} (r:KT H kvs xs) (k:List Key) {b:Addr} {y:V} {u:Value} (hb:H b=some (.tup (k.map kV))) (ry:RelV y u):
 KT H (putK kvs k y) (storedH xs k b u):=by
 have e:(kvs.any fun kv=>decide (kv.1=k))=(atKey xs k).isSome:=by
  rw [ux,(r.val k).Oi,Option.isSome_map]
 unfold putK storedH;rw [e]
 by_cases q:(atKey xs k).isSome=true
 ·rw [if_pos q,if_pos q];exact r.repl k ry
 ·rw [if_neg q,if_neg q];exact Paired.snoc r ⟨rfl,hb,ry⟩
theorem KT.keeps {H H':Hp} {kvs:List (List Key×V)} {xs:List (List Key×Addr×Value)} (r:KT H kvs xs) (ht:∀b ys,H b=some (.tup ys)->H' b=some (.tup ys)):KT H' kvs xs:=
 Paired.abS r fun _ _ z=>⟨z.1,ht _ _ z.2.1,z.2.2⟩
section
variable {P:Program} {w:World} {H:Hp} {h:Heap} {a:Addr}
theorem WR {u:HO} (ok:rN P w H h) (e:Rd H a u):dg P w H h a u:=e.ok ok
theorem Xm {kvs:List (Key×V)} (ok:rN P w H h) (e:Rd H a (.dK kvs)):kvs.length<=sizeLine/\(a==sysModules)=false /\ ∃vs,KV kvs vs/\h.DictOf (gC P w) a vs:=
 show dg P w H h a (.dK kvs) from WR ok e
theorem Kl {ks:List Key} (ok:rN P w H h) (e:H a=some (.tup (ks.map kV))):(tupleKind (gC P w)).is h ks a:=by
 obtain ⟨_,its,r,o,h1,h2,n,h3⟩:=(show dg P w H h a (.tup (ks.map kV)) from ok a _ e);exact ⟨o,its.toArray,n,h1,h2,h3,by simpa using Dj r⟩
theorem Sq {kvs:List (List Key×V)} (ok:rN P w H h) (e:Rd H a (.dT kvs)):kvs.length<=sizeLine/\(a==sysModules)=false /\
 ∃xs,KT H kvs xs/\h.DictOfH (tupleKind (gC P w)) a xs:=by
 obtain ⟨z,y,xs,r,o,es,ep,h1,h2,h3,h4,h5⟩:=(show dg P w H h a (.dT kvs) from WR ok e);refine ⟨z,y,xs,r,o,es,ep,h1,h2,h3,h4,fun x hx=> ?_,h5⟩
 have all:∀{l:List (List Key×V)} {m:List (List Key×Addr×Value)},KT H l m -> ∀x∈m,(tupleKind (gC P w)).is h x.1 x.2.1:=by
  intro l m q
  induction q with
  | nil=>intro x hx;exact nomatch hx
  | @cons p q ps qs hq t ih=>
    intro x hx;rcases List.mem_cons.mp hx with e|hx
    ·subst e
     exact Kl ok (by rw [←hq.1];exact hq.2.1)
    ·exact ih x hx
 exact all r x hx
theorem acQ {kvs:List (List Key×V)} (ok:rN P w H h) (e:H a=some (.dT kvs)):kvs.length<=sizeLine/\(a==sysModules)=false /\
 ∃xs,KT H kvs xs/\h.DictOfH (tupleKind (gC P w)) a xs:=Sq ok (.inl e)
end
def TQ (H:Hp) (a:Addr) (y:V) (r:Option V):Prop:=
 (∃kvs k,Rd H a (.dK kvs)/\y=kV k/\r=gH kvs k) \/ ∃kvs k b,Rd H a (.dT kvs)/\y = .ref b/\H b=some (.tup (k.map kV))/\r=gH kvs k
theorem TQ.t {H:Hp} {a b:Addr} {kvs:List (List Key×V)} {k:List Key} (e:H a=some (.dT kvs)) (eb:H b=some (.tup (k.map kV))):TQ H a (.ref b) (gH kvs k):= .inr ⟨kvs,k,b,.inl e,rfl,eb,rfl⟩
section
variable {X:Cx} {pins:List (Addr×Obj)} {σ:St} {H:Hp} {s:Shared} {a:Addr} {y v:V} {u r:Value} {o:Option V} {A:Around} {E:Value->Shared->Prop}
theorem Inv.big (I:Inv X pins σ H s):sysModules<s.heap.objs.size:=by
 have h:mainGlobals<s.heap.objs.size:=(I.mod.glob.keeps I.bk).lt;exact Nat.lt_trans (by decide) h
theorem V9 {h':Heap} {t':Nat} {ob:HO} (I:Inv X pins σ H s) (mu:Mut (H a)) (hs:Heap.SameBut a s.heap h') (he:∃q,h'.get? a=some q) (new:dg X.prog X.w (upd H a ob) h' a ob):
 Inv X pins σ (upd H a ob) {s with heap:=h',toks:=t'}:=
 I.write (x:=a) (e:=a) mu (.inl rfl) (fun b q hb z=>(hs.2 b hb).trans z) he new
end
section
variable {X:Cx} {pins:List (Addr×Obj)} {σ:St} {H:Hp} {s:Shared} {a:Addr} {kvs:List (Key×V)} {k:Key} {u:Value} {A:Around} {E:Value->Shared->Prop}
end
section
variable {X:Cx} {o i e value:Expr} {pos pos' tpos:Pos} {td ty tv:TE}
end
theorem Ss {P:Program} {w:World} {H:Hp} (h:Heap) (hb:sysModules<h.objs.size):dg P w H (h.push {cls:= .type "dict",data:= .dict #[]}) h.objs.size (.dT []):=
 ⟨Nat.zero_le _,beq_eq_false_iff_ne.mpr (Ne.symm (Nat.ne_of_lt hb)),[],.nil,_, #[],0,Heap.get?_push_size _ rfl,⟨rfl,rfl,rfl⟩,rfl,rfl,List.nodup_nil⟩
def Yg:TE:=fun _ H Q=>∀p,H p=none->Q (.ref p) (upd H p (.dT []))
section
variable {X:Cx} {pos:Pos}
theorem QS:PE X (.Dict [] [] pos) Yg:=fun pins s σ H Q I h=>
 wpAny_Dict_empty ⟨.ref s.heap.objs.size,_,I.laid (a:=s.heap.objs.size) (o:= .dT []) (t':=s.toks) (fun _ _ q=>Heap.get?_push_of_some _ q) (Nat.le_refl _) (Ss s.heap I.big),rfl,h _ (I.hok.fresh (Nat.le_refl _))⟩
end
structure M1 (X:Cx) (o:Expr) (m:Str) (apos:Pos) (e:Expr) (cpos:Pos):Prop where
 base:attributeBase o m X.env (eval o X.env)=eval o X.env
 few:((backTo cpos (starEach [e] X.env)).all (fun x=> !x.1)&&(backToKw cpos (keywordEach [] X.env)).all (fun x=>x.1.isSome)
  && decide (([e]:List Expr).length+([]:List Keyword).length+(if ([]:List Keyword).isEmpty then 0 else 1)<30))=true
 line:(apos.endLine==cpos.line)=true
 trees:backTo cpos (starEach [e] X.env)=[(false,eval e X.env)]
structure M2 (X:Cx) (o:Expr) (m:Str) (apos:Pos) (e f:Expr) (cpos:Pos):Prop where
 base:attributeBase o m X.env (eval o X.env)=eval o X.env
 few:((backTo cpos (starEach [e,f] X.env)).all (fun x=> !x.1)&&(backToKw cpos (keywordEach [] X.env)).all (fun x=>x.1.isSome)
  && decide (([e,f]:List Expr).length+([]:List Keyword).length+(if ([]:List Keyword).isEmpty then 0 else 1)<30))=true
 line:(apos.endLine==cpos.line)=true
 trees:backTo cpos (starEach [e,f] X.env)=[(false,eval e X.env),(false,eval f X.env)]
def IsD (H:Hp) (a:Addr):Prop:=(∃kvs,Rd H a (.dK kvs)) \/ ∃kvs,Rd H a (.dT kvs)
theorem RD {X:Cx} {pins:List (Addr×Obj)} {σ:St} {H:Hp} {s:Shared} {a:Addr} (I:Inv X pins σ H s) (d:IsD H a):
 s.TypeIs (.ref a) "dict" /\ (∀b,Value.ref a = .ref b -> ∃ob,s.heap.get? b=some ob/\ob.dict=none)/\(a==sysModules)=false:=by
 rcases d with ⟨kvs,e⟩|⟨kvs,e⟩
 ·obtain ⟨_,hd,vs,_,dd⟩:=Xm I.hok e
  refine ⟨dd.typeIs,fun b q=> ?_,hd⟩;cases q;obtain ⟨ob,_,_,h1,h2,_⟩:=dd;exact ⟨ob,h1,h2.2.1⟩
 ·obtain ⟨_,hd,xs,_,dd⟩:=Sq I.hok e
  refine ⟨dd.typeIs,fun b q=> ?_,hd⟩;cases q;obtain ⟨ob,_,_,h1,h2,_⟩:=dd;exact ⟨ob,h1,h2.2.1⟩
section
variable {X:Cx} {pins:List (Addr×Obj)} {σ:St} {H:Hp} {s:Shared} {a:Addr} {y d:V} {u r:Value} {o:Option V} {A:Around} {E:Value->Shared->Prop}
theorem Z8 {Q:Value->Shared->Prop} (hu:A.units+1<cLine) (I:Inv X pins σ H s) (g:TQ H a y o) (ry:RelV y u) (rd:RelV d r) (h:∀w' s',Inv X pins σ H s'->RelV (o.getD d) w'->Q w' s'):
 wpAny (model X.prog X.w) A (call (.builtin "dict.get") [.ref a,u,r]) Q E s:=by
 rcases g with ⟨kvs,k,e,ey,l⟩|⟨kvs,k,b,e,ey,eb,l⟩
 ·subst ey
  obtain ⟨z,hd,vs,rel,dd⟩:=Xm I.hok e;refine call_meetsIn PySem.F.slot_dict_get dd.typeIs PySem.F.entry_dict_get (PySem.F.args_dict_get_3 _ _ _) (meets_dict_get_default (gC X.prog X.w) a (W8 ry) hd r) ⟨_,dd.mapOf,h _ _ (I.tok _) ?_⟩;rw [l];exact (rel.val k).getD rd
 ·subst ey
  cases (show u=Value.ref b from ry);obtain ⟨z,hd,xs,rel,dd⟩:=Sq I.hok e;refine call_meetsIn PySem.F.slot_dict_get dd.typeIs PySem.F.entry_dict_get (PySem.F.args_dict_get_3 _ _ _) (meetsH_dict_get_default (tupleKind (gC X.prog X.w)) a b hd r) ⟨tupleKind_room_in1 hu,k,xs,Kl I.hok eb,dd,h _ _ (I.tok _) ?_⟩;rw [l];exact (rel.val k).getD rd
end
def Yh (td ty tx:TE):TE:=fun σ H Q=>td σ H fun x H1=>∃a,x = .ref a/\IsD H1 a/\ty σ H1 fun y H2=>tx σ H2 fun z H3=>∃o,TQ H3 a y o/\Q (o.getD z) H3
section
variable {X:Cx} {o e f:Expr} {apos cpos:Pos} {td ty tx:TE}
theorem QT (hu:X.A.units+1<cLine) (ho:PE X o td) (he:PE X e ty) (hf:PE X f tx) (m:M2 X o "get" apos e f cpos):PE X (.Call (.Attribute o "get" apos) [e,f] [] cpos) (Yh td ty tx):=by
 intro pins s σ H Q I h;refine wpAny_Call_method m.base m.few m.line PySem.F.plainAttrs_dict PySem.F.slot_dict_get PySem.F.type_dict_get (dN (ho pins s σ H _ I h) fun u s1 ⟨x,H1,I1,rx,a,ex,d,q1⟩=> ?_);subst ex;obtain rfl:u=Value.ref a:=rx;obtain ⟨t1,t2,_⟩:=RD I1 d;refine ⟨t1,t2, ?_⟩;rw [m.trees]
 refine Calls.callWith_builtin rfl (Calls.evalArgs_plain (Calls.spliced_cons (dN (he pins s1 σ H1 _ I1 q1) fun iv s2 ⟨y,H2,I2,ry,q2⟩=>
  Calls.spliced_cons (dN (hf pins s2 σ H2 _ I2 q2) fun fv s3 ⟨z,H3,I3,rz,ov,g,q3⟩=>Calls.spliced_nil ?_))))
 exact Z8 hu I3 g ry rz fun w' s4 I4 rw'=>⟨_,H3,I4,rw',q3⟩
end
section
variable {X:Cx} {pins:List (Addr×Obj)} {σ:St} {H:Hp} {s:Shared} {a:Addr} {kvs:List (Key×V)} {A:Around} {E:Value->Shared->Prop}
end
section
variable {X:Cx} {pins:List (Addr×Obj)} {σ:St} {H:Hp} {s:Shared} {a:Addr} {y:V} {u:Value} {A:Around} {E:Value->Shared->Prop}
end
end L2
namespace Att
open PySem PySem.W PySem.Calls PyProof.Rows
theorem xR {P:Params} {h:Heap}:∀(ns:List Int) (vs:List Value),WellAll P h vs (ns.map WData.int)->IntsAre vs ns:=by
 intro ns
 induction ns with
 | nil=>
   intro vs w;rw [List.map_nil] at w;cases w;exact .nil
 | cons n ns ih=>
   intro vs w;rw [List.map_cons] at w;cases w with
   | cons a b=>
     cases a;exact .cons _ _ (ih _ b)
theorem Nk {l:OpenLaw} {n:Nat} (hn:l.most=some n) {P:Params} {h:Heap} {args:List WData} {vals:List Value}
 (hpre:l.row.toRowW.claim.pre args=true) (hwl:WellAll P h vals args):
 ∃a vs ns,vals=[Value.ref a]/\args=[WData.list (ns.map WData.int)]/\h.get? a=some {cls:= .type "list",data:= .seq vs.toArray}/\IntsAre vs ns/\ns.length<=n:=by
 have hsh:WShape.hasAll [] args [.list .int]=true:=(pre_splitW hpre).1;have hc:l.pre.holds [] {args:=args}=true:=(pre_splitW hpre).2;obtain ⟨d,r,rfl,h1,h2⟩:=hasAllW_cons hsh;obtain rfl:=hasAllW_nil h2;obtain ⟨xs,rfl,h3⟩:=hasW_list h1;obtain ⟨ns,rfl⟩:=items_int h3
 have hlen:ns.length<=n:=by
  unfold OpenLaw.pre at hc
  have h4:(WTm.not (.lt (.lit (.int (n:Int))) (.len (.arg 0)))).holds [] {args:=[.list (ns.map .int)]}=true:=by
   have h4:=(holds_andW hc).1;rw [hn] at h4;exact h4
  have h5:=condW_of h4 (w_not (w_lt w_lit (w_len_list (w_arg rfl))));rw [List.length_map] at h5;refine Nat.le_of_not_lt fun q=> ?_;have q':(n:Int)<((ns.length:Nat):Int):=by lia
  first
   | (rw [decide_eq_true q'] at h5;exact absurd h5 (by decide))
   | (simp at h5;lia)
 cases hwl with
 | cons w1 w2=>
   cases w2;cases w1 with
   | list ho hall=>exact ⟨_,_,ns,rfl,rfl,ho,xR ns _ hall,hlen⟩
theorem Nq (l:OpenLaw) (args:List WData):l.row.toRowW.claim.post args (.bool true) args=true:=
 postW_of (r:=l.row.toRowW) (X:=(true==true))
  (show WShape.has [] (.bool true) .bool=true by first |rfl|decide|simp [WShape.has,WShape.arms,WShape.armsAll])
  (show (WTm.eq .res (.lit (.bool true))).value [] {args:=args,res:=some (.bool true),after:=args}=some (.bool (true==true)) from w_eq_bool (w_res rfl) w_lit) rfl
theorem Jj {l:OpenLaw} {n:Nat} {q:Program} {loose:List Str} {XP:(Str->Option Value)->Heap->Prop} {YP:World->Heap->Prop} {d:DefRec}
 (hn:l.most=some n) (hdf:d.params.defaults=[])
 (call:∀(w:World) (s₀ s₁:Shared) (mg mb:Str->Option Value) (fa:Addr) (o:Obj) (pm cd doc:Value) (a:Addr) (vs:List Value) (ns:List Int),
   Ground q loose [] XP w s₀ mg mb s₁.heap->YP w s₁.heap ->
   s₁.heap.get? fa=some o->o.data = .func (docDef d.name d.params d.body d.scope pm cd doc)->s₁.heap.CodeRec cd d.name->mg d.name=some (.ref fa) ->
   s₁.heap.get? a=some {cls:= .type "list",data:= .seq vs.toArray}->IntsAre vs ns->ns.length<=n->s₁.gens = #[] ->
   codeAny (model l.prog w) callerA (.call (.ref fa) ⟨[.ref a],[]⟩) (fun r s'=>r = .ok (.ret (.bool true))/\OldK s₁.heap s'.heap/\s'.os=s₁.os/\AllBare s'.gens) s₁):
 WalkO q loose XP YP l.row.toRowW d [] (fun f vs=>PySem.call f vs):=by
 intro w s₀ s₁ mg mb G Y fa o pm cd doc dV kV ho hd hcd hD hmg hg args vals as hpre hlay hrd hwl hlo;obtain rfl:dV = .none:=Dflts.none hD hdf;obtain rfl:kV = .none:=Dflts.noKw hD;obtain ⟨a,vs,ns,rfl,rfl,hobj,hints,hlen⟩:=Nk hn hpre hwl;refine enter_call (codeAny_mono (call w s₀ s₁ mg mb fa o pm cd doc a vs ns G Y ho (fd_plain hd) hcd hmg hobj hints hlen hg) fun r s' hq=> ?_);obtain ⟨rfl,h2,h3,h4⟩:=hq;exact ⟨.inl ⟨.bool true,.bool true,[],rfl,fun _=>rfl,.bool true,Nq l _,fun _=>⟨List.Pairwise.nil,fun _ hm=>(nomatch hm)⟩⟩,h2,h3,h4⟩
section
variable {prog:Program} {w:World} {A:Around} {E:Value->Shared->Prop} {s:Shared} {K:Frag}
def ledger (h:Heap) (L d:Addr):List (Addr×Obj):=(List.range h.objs.size).filterMap fun a=>if a=L\/a=d then none else (h.get? a).map fun o=>(a,o)
end
end Att
namespace L2
open PySem PySem.Spec PyProof.Rows
theorem M_ {vs:List Value} {ns:List Int} (h:IntsAre vs ns):Vals (ns.map V.int) vs:=by
 induction h with
 | nil=>exact .nil
 | cons n t h ih=>exact .cons ⟨t,rfl⟩ ih
def Only (H:Hp):Prop:=∀b,H b=none \/ ∃o xs,H b=some (.Io o (.lst xs))
theorem Rv {P:Program} {w:World} {K:PySem.W.Frag} {mg mb:Str->Option Value} {CX:Pj} {k:Nat} {fa a:Addr} {fd:FuncData} {x:Str} {sp:Sp} {s₁:Shared} {vs:List Value} {ns:List Int}
 (KX:K.In s₁.heap) (hns:s₁.heap.Ns mainGlobals mg) (hb:s₁.heap.Ns builtinsNs mb) (hbb:∀x:Str,x ≠ "__name__" -> mb x=bootBuiltins x) (hlim:s₁.heap.NoLimit) (hg:s₁.gens = #[])
 (ha:s₁.heap.get? a=some {cls:= .type "list",data:= .seq vs.toArray}) (hi:IntsAre vs ns) (hl:ns.length<=sizeLine) (hr:fL k callerA)
 (F:∀base:Heap,K.In base->base.Ns mainGlobals mg->bZ P w K mg base CX k fa fd [x] sp) (hbind:∀(s:Shared) (u:Value),BindsTo s fd ⟨[u],[]⟩ [(x,u)])
 (hsp:∀H:Hp,Only H->bN K H a (ns.map V.int)->sp [.ref a] H (fun v _=>v = .bl true) fun _ _ _=>False)
 (hCX:∀H e s',CX [] H s₁ (fun _ _ _=>False) e s'->False):
 codeAny (model P w) callerA (.call (.ref fa) ⟨[.ref a],[]⟩) (fun r s'=>r = .ok (.ret (.bool true))/\OldK s₁.heap s'.heap/\s'.os=s₁.os/\AllBare s'.gens) s₁:=by
 have rv:=M_ hi;have lenV:=hi.length
 have core:∀H:Hp,Only H->bN K H a (ns.map V.int)->rN P w H s₁.heap->(∀b,H b≠none->b=a)->(H a≠none->K.lookup a=none) ->
  codeAny (model P w) callerA (.call (.ref fa) ⟨[.ref a],[]⟩) (fun r s'=>r = .ok (.ret (.bool true))/\OldK s₁.heap s'.heap/\s'.os=s₁.os/\AllBare s'.gens) s₁:=by
  intro H hO hS hok hA hK;have MJ:∀{b:Addr} {o:Obj},s₁.heap.get? b=some o->H b=none->(FQ s₁.heap H).get? b=some o:=fun e n=>RL e n
  have noA:∀{b:Addr} {o:Obj} {es:Array DictEntry} {ep:Nat},s₁.heap.get? b=some o->o.data = .dict es ep->H b=none:=fun {b o es ep} e d=>by
   cases q:H b with
   | none=>rfl
   | some u=>
     have e':b=a:=hA b (by rw [q];simp);subst e';rw [ha] at e;cases e;have d':Data.seq vs.toArray _=Data.dict es ep:=d;cases d'
  have nsK:∀{b:Addr} {m:Str->Option Value},s₁.heap.Ns b m->(FQ s₁.heap H).Ns b m:=fun {b m} ⟨o,es,ep,e,d,r⟩=>⟨o,es,ep,MJ e (noA e d),d,r⟩
  have hKb:K.In (FQ s₁.heap H):=fun b o e=>MJ (KX b o e) (by
   cases q:H b with
   | none=>rfl
   | some u=>
     have e':b=a:=hA b (by rw [q];simp);subst e';rw [hK (by rw [q];simp)] at e;cases e)
  have hM:Mod K mg (FQ s₁.heap H):=⟨hKb,nsK hns,⟨mb,nsK hb,hbb⟩,let ⟨mc,h1,h2⟩:=hlim;⟨mc,nsK h1,h2⟩⟩;have e0:Cu P w K mg (FQ s₁.heap H) callerA [] s₁ H:=⟨rfl,hM,fun b o e=>Vr e,Nat.le_of_eq (Om _ _),trivial,fun b hb=>absurd (show b∈([]:List Addr) from hb) (by simp),hok,.of_eq hg⟩;refine codeAny_mono ((F _ hKb (nsK hns)).run callerA [] s₁ H ⟨[.ref a],[]⟩ [.ref a] [.ref a] _ _ hr e0 (hbind s₁ (.ref a)) (.cons rfl .nil) (hsp H hO hS)) fun r s' h=> ?_;cases r with
  | error e=>exact (hCX H e s' h).elim
  | ok fl=>
    cases fl with
    | next=>exact False.elim h
    | brk=>exact False.elim h
    | cont=>exact False.elim h
    | ret u=>
      obtain ⟨v,H',os,bare,un,hok',r',q⟩:=h;have q':v = .bl true:=q;subst q';obtain rfl:u=Value.bool true:=r';refine ⟨rfl,OldK.of_keep fun b o e=> ?_,os,bare⟩;cases q:H b with
      | none=>exact un.keep b o e q (by intro z;exact absurd (show b∈([]:List Addr) from z) (by simp)) (by simp)
      | some u=>
        rcases hO b with z|⟨ob,xs,z⟩
        ·rw [q] at z;cases z
        ·have z2:=un.vf b ob _ z
         obtain ⟨e1,_⟩:=hok b _ z;obtain ⟨e2,_⟩:=hok' b _ z2;rw [e] at e1;cases e1;exact e2
 cases hk:K.lookup a with
 | some o=>
   have e:=KX a o hk;rw [ha] at e;cases e;refine core (fun _=>none) (fun _=> .inl rfl) (.inr ⟨_,vs.toArray,_,hk,rfl,rfl,rfl,by rw [List.size_toArray,lenV];exact hl,by simpa using rv⟩) (fun b u z=>by have z':(none:Option HO)=some u:=z;cases z') (fun b z=>absurd rfl z) fun z=>absurd rfl z
 | none=>
   refine core (fun b=>if b=a then some (.Io {cls:= .type "list",data:= .seq vs.toArray} (.lst (ns.map V.int))) else none) (fun b=> ?_) (.inl (.inr ⟨{cls:= .type "list",data:= .seq vs.toArray},if_pos rfl⟩)) (fun b u z=> ?_) (fun b z=> ?_) fun _=>hk
   ·by_cases hb:b=a
    ·exact .inr ⟨_,_,if_pos hb⟩
    ·exact .inl (if_neg hb)
   ·by_cases hb:b=a
    ·have z':=(if_pos hb).symm.trans z
     cases z';subst hb;exact ⟨ha,by rw [List.length_map];exact hl,vs,_,rv,ha⟩
    ·have z':=(if_neg hb).symm.trans z
     cases z'
   ·by_cases hb:b=a
    ·exact hb
    ·exact absurd (if_neg hb) z
end L2
namespace L2
open PySem PySem.Spec PyProof.Rows
abbrev KOf {K:PySem.W.Frag} {h:Heap} (_:K.In h):PySem.W.Frag:=K
theorem Uh {l:PySem.W.OpenLaw} {n k:Nat} {q:Program} {loose:List Str} {XP:(Str->Option Value)->Heap->Prop} {YP:World->Heap->Prop} {d:DefRec} {K:Params->PySem.W.Frag} {CX:World->Pj} {sp:World->Sp} {x:Str}
 (hn:l.most=some n) (hn2:n<=sizeLine) (hdf:d.params.defaults=[]) (hr:fL k callerA)
 (hY:∀(w:World) (h:Heap),YP w h->(K w.params).In h)
 (F:∀(w:World) (mg:Str->Option Value) (fa:Addr) (h:Heap),(K w.params).In h->h.Ns mainGlobals mg->mg d.name=some (.ref fa) ->
   ∃fd:FuncData,(∀(s:Shared) (u:Value),BindsTo s fd ⟨[u],[]⟩ [(x,u)]) /\
    ∀base:Heap,(K w.params).In base->base.Ns mainGlobals mg->bZ l.prog w (K w.params) mg base (CX w) k fa fd [x] (sp w))
 (hsp:∀(w:World) (H:Hp) (a:Addr) (ns:List Int),ns.length<=n->Only H->bN (K w.params) H a (ns.map V.int)->sp w [.ref a] H (fun v _=>v = .bl true) fun _ _ _=>False)
 (hCX:∀(w:World) (H:Hp) (s:Shared) (e:Value) (s':Shared),CX w [] H s (fun _ _ _=>False) e s'->False):
 PySem.W.WalkO q loose XP YP l.row.toRowW d [] (fun f vs=>PySem.call f vs):=by
 refine Att.Jj hn hdf fun w s₀ s₁ mg mb fa o pm cd doc a vs ns G Y ho hd hcd hmg hobj hints hlen hg=> ?_;have KX:=hY w _ Y;obtain ⟨fd,hb,hF⟩:=F w mg fa _ KX G.T.g hmg;exact Rv KX G.T.g G.T.b G.T.builtins G.T.nolimit hg hobj hints (Nat.le_trans hlen hn2) hr hF hb (fun H hO hS=>hsp w H a ns hlen hO hS) fun H e s'=>hCX w H s₁ e s'
end L2
namespace L2
open PySem PySem.Spec PyProof.Rows
def inClass (s:Stmt) (j:Nat):Stmt:=match s with
 | .ClassDef _ _ _ body _ _ _ _ _ _ _=>body.getD j (.Pass ⟨0,0,0,0⟩)
 | _=> .Pass ⟨0,0,0,0⟩
def aM (s:Stmt):Arguments:=match s with
 | .FunctionDef _ a _ _ _ _ _ _ _ _=>a
 | _=>{posonlyargs:=[],args:=[],vararg:=none,kwonlyargs:=[],kw_defaults:=[],kwarg:=none,defaults:=[]}
def aJ (s:Stmt):List Stmt:=match s with
 | .FunctionDef _ _ b _ _ _ _ _ _ _=>b
 | _=>[]
def aA (s:Stmt):Scope:=match s with
 | .FunctionDef _ _ _ _ _ _ sc _ _ _=>sc
 | _=>{kind:= .function,names:=[],isGenerator:=false,isCoroutine:=false}
abbrev kY:Pj:=fun _ _ _ _ _ _=>False
abbrev E0:XK:=fun _ _ _=>False
theorem Lz {X:Cx}:Passes kY X E0:=fun _ _ _ _ _ _ _ h=>h.elim
structure kO (K:PySem.W.Frag) (x qual:Str) (st:Stmt) (f:Addr) (fd:FuncData):Prop where
 ex:∃(oc:Value) (od:Option Addr) (kV doc pm:Value) (an:Option Addr) (cdv ct:Value) (osl:Array (Option Value)),
  fd=PySem.W.fnOf x qual (aM st) (aJ st) (aA st) .none kV doc pm an cdv ct/\K.lookup f=some ⟨oc,od,.func fd,osl⟩/\PySem.W.codeIn K cdv qual=true
 kp:PySem.W.keepIn K (.ref f)=true
section
variable {P:Program} {w:World} {K:PySem.W.Frag} {mg:Str->Option Value} {base:Heap}
theorem kO.ok {x qual:Str} {st:Stmt} {f:Addr} {fd:FuncData} {N ps:List Str} {k:Nat} {sp:Sp} (F:kO K x qual st f fd) (S:bG N ps (aA st)) (len:∀vs H Q E,sp vs H Q E->vs.length=ps.length)
 (hbody:∀(cdv:Value) (A:Around) (outer:List Env) (s:Shared) (H:Hp) (vs:List V) (Q:VK) (E:XK),fL k (A.deeper (envOfC qual (aA st) s.heap.objs.size f cdv))->sp vs H Q E ->
   ∃t,Jp (p7 kY P w K mg base N qual (aA st) f cdv A outer s H E).nox (aJ st) t/\t {nx:=fun _ H'=>Q .non H',rt:=Q} (start N vs) H):bZ P w K mg base kY (k+1) f fd ps sp:=by
 obtain ⟨oc,od,kV,doc,pm,an,cdv,ct,osl,rfl,lk,hcd⟩:=F.ex;refine R0 lk hcd S len fun A outer s H vs Q E hr hsp=> ?_;obtain ⟨t,h,q⟩:=hbody cdv A outer s H vs Q E hr hsp;exact ⟨t,h.nox,q⟩
theorem kO.binds {x qual:Str} {st:Stmt} {f:Addr} {fd:FuncData} {ps:List Str} (F:kO K x qual st f fd)
 (h:∀(kV doc pm:Value) (an:Option Addr) (cdv ct:Value) (us:List Value),us.length=ps.length->bindArgs (PySem.W.fnOf x qual (aM st) (aJ st) (aA st) .none kV doc pm an cdv ct) ⟨us,[]⟩=pure (ps.zip us)):Binds K fd ps []:=by
 obtain ⟨oc,od,kV,doc,pm,an,cdv,ct,osl,rfl,lk,hcd⟩:=F.ex;exact .all (h kV doc pm an cdv ct)
theorem bR {x qual:Str} {st:Stmt} {f:Addr} {oc:Value} {od an:Option Addr} {osl:Array (Option Value)} {kV doc pm cdv ct:Value} (l:K.lookup f=some ⟨oc,od,.func (PySem.W.fnOf x qual (aM st) (aJ st) (aA st) .none kV doc pm an cdv ct),osl⟩)
 (c:PySem.W.codeIn K cdv qual=true) (k:PySem.W.keepIn K (.ref f)=true):kO K x qual st f (PySem.W.fnOf x qual (aM st) (aJ st) (aA st) .none kV doc pm an cdv ct):=⟨⟨oc,od,kV,doc,pm,an,cdv,ct,osl,rfl,l,c⟩,k⟩
end
theorem Xc {A:Around} {k:Nat} (hr:fL k A):A.units+1<cLine:=Nat.lt_of_le_of_lt (Nat.add_le_add_left (by decide:1<=64) _) hr.units
section
variable {X:Cx}
theorem pv (i:Nat) {x:Str} {pos:Pos} (hN:X.N[i]? = some x:=by rfl) (hv:Vis X.env.scope x:=by first |exact Or.inl rfl|exact Or.inr (Or.inl rfl)|exact Or.inr (Or.inr rfl)) (hd:(x==("__debug__" :Str))=false:=by decide)
 (hcd:(x==("__classdict__" :Str))=false:=by decide):PE X (.Name x pos) (aa7 i):=YT hN hv hd hcd
end
theorem dG {A B:Prop} (h:B):if false=true then A else B:=by
 rw [if_neg Bool.false_ne_true];exact h
theorem gJ {A B:Prop} (h:A):if true=true then A else B:=by
 rw [if_pos rfl];exact h
theorem dO {c A B:Prop} [Decidable c] (h1:c->A) (h2:¬c->B):if c then A else B:=by
 by_cases h:c
 ·rw [if_pos h]
  exact h1 h
 ·rw [if_neg h]
  exact h2 h
theorem u5 {c A B:Prop} [Decidable c] (hc:c) (h:B):if (!decide c)=true then A else B:=by
 rw [decide_eq_true hc];exact dG h
def Same (H H':Hp):Prop:=∀b o,H b=some o->H' b=some o
theorem Same.refl (H:Hp):Same H H:=fun _ _ h=>h
theorem Same.trans {H H1 H2:Hp} (a:Same H H1) (b:Same H1 H2):Same H H2:=fun c o h=>b c o (a c o h)
theorem Same.free {H H':Hp} (e:Same H H') {l:Addr} (h:H' l=Option.none):H l=Option.none:=by
 cases q:H l with
 | none=>rfl
 | some o=>
   rw [e l o q] at h;cases h
theorem Same.seq {K:PySem.W.Frag} {H H':Hp} {a:Addr} {xs:List V} (e:Same H H') (h:bN K H a xs):bN K H' a xs:=by
 rcases h with (h|⟨o,h⟩)|h
 ·exact .inl (.inl (e _ _ h))
 ·exact .inl (.inr ⟨o,e _ _ h⟩)
 ·exact .inr h
section
variable {κ:Type} [DecidableEq κ]
end
end L2
set_option Elab.async false
set_option linter.all false
set_option maxRecDepth 100000
set_option maxHeartbeats 4000000
namespace L2
open PySem PySem.Spec PyProof.Rows
theorem CV {a n:Addr} (h:a<n): @LT.lt Nat _ a n:=h
def qL (env:Env):List (Str×NameKind)->List (Str×Addr)->List (Str×Addr)
 | [],acc=>acc
 | (n,k)::r,acc=>if k == .free then qL env r ((n,(env.cells.lookup n).getD 0)::acc) else qL env r acc
theorem Kv {env:Env} {scope:Scope} (h:∀y∈scope.names,y.2 = .free->(env.cells.lookup y.1).isSome=true):closureFor scope env=pure (qL env scope.names []):=by
 have go:∀(ns:List (Str×NameKind)) (acc:List (Str×Addr)),(∀y∈ns,y.2 = .free->(env.cells.lookup y.1).isSome=true) ->
  (forIn ns acc (fun x cs=>match x with |(name,kind)=>if (kind == .free)=true then do let c ←cellOf env name;pure (ForInStep.yield ((name,c)::cs)) else pure (ForInStep.yield cs)):Sem (List (Str×Addr)))=pure (qL env ns acc):=by
  intro ns
  induction ns with
  | nil=>intro acc _;rfl
  | cons y r ih=>
    intro acc hy;obtain ⟨n,k⟩:=y;rw [List.forIn_cons]
    by_cases hk:k = .free
    ·subst hk
     have hs:=hy (n,.free) List.mem_cons_self rfl;obtain ⟨c,hc⟩:=Option.isSome_iff_exists.mp hs;have e:cellOf env n=pure c:=by unfold cellOf;rw [hc]
     show _=pure (qL env r ((n,(env.cells.lookup n).getD 0)::acc));rw [←ih _ fun y hm=>hy y (List.mem_cons_of_mem _ hm)];simp only [beq_self_eq_true,if_true,e,pure_bind,hc,Option.getD_some]
    ·have hb:(k==NameKind.free)=false:=by simpa using hk
     have hc:qL env ((n,k)::r) acc=qL env r acc:=by
      show (if (k==NameKind.free)=true then _ else _)=_;rw [if_neg (by rw [hb];decide)]
     rw [hc,←ih _ fun y hm=>hy y (List.mem_cons_of_mem _ hm)];simp only [hb,Bool.false_eq_true,if_false,pure_bind]
 have q:=go scope.names [] h;unfold closureFor;show (forIn scope.names [] _ >>= fun r=>pure r)=_;rw [bind_pure];exact q
theorem jX {env:Env}:∀(ns:List (Str×NameKind)) (acc:List (Str×Addr)) (x:Str),(∀y∈ns,y.2 = .free->(env.cells.lookup y.1).isSome=true) ->
 (qL env ns acc).lookup x=if (x,NameKind.free)∈ns then env.cells.lookup x else acc.lookup x
 | [],acc,x,_=>by simp [qL]
 | (n,k)::r,acc,x,h=>by
   have hr:∀y∈r,y.2 = .free->(env.cells.lookup y.1).isSome=true:=fun y hm=>h y (List.mem_cons_of_mem _ hm)
   by_cases hk:k = .free
   ·subst hk
    show (qL env r ((n,(env.cells.lookup n).getD 0)::acc)).lookup x=_;rw [jX r _ x hr];obtain ⟨c,hc⟩:=Option.isSome_iff_exists.mp (h (n,.free) List.mem_cons_self rfl);have hc:env.cells.lookup n=some c:=hc
    by_cases hm:(x,NameKind.free)∈r
    ·rw [if_pos hm,if_pos (List.mem_cons_of_mem _ hm)]
    ·rw [if_neg hm]
     by_cases e:x=n
     ·subst e
      rw [if_pos List.mem_cons_self,List.lookup_cons,hc];simp
     ·rw [if_neg (fun z=>(List.mem_cons.mp z).elim (fun q=>e (congrArg Prod.fst q)) hm),List.lookup_cons]
      have:(x==n)=false:=by simpa using e
      rw [this]
   ·have hb:(k==NameKind.free)=false:=by simpa using hk
    have hc:qL env ((n,k)::r) acc=qL env r acc:=by
     show (if (k==NameKind.free)=true then _ else _)=_;rw [if_neg (by rw [hb];decide)]
    rw [hc,jX r acc x hr]
    have:((x,NameKind.free)∈(n,k)::r)↔(x,NameKind.free)∈r:=by
     constructor
     ·intro z
      rcases List.mem_cons.mp z with q|q
      ·exact absurd (congrArg Prod.snd q).symm hk
      ·exact q
     ·exact List.mem_cons_of_mem _
    simp only [this]
theorem lO (env:Env):∀(ns:List (Str×NameKind)) (x:Str),
 (ns.map fun (n,k)=>if (k == .free&&env.scope.kind == .function&&env.kindOf n==some .cell) then (n,NameKind.cell) else (n,k)).lookup x =
   (ns.lookup x).map fun k=>if (k == .free&&env.scope.kind == .function&&env.kindOf x==some .cell)=true then NameKind.cell else k
 | [],x=>rfl
 | (n,k)::r,x=>by
   show List.lookup x ((if (k==NameKind.free&&env.scope.kind == .function&&env.kindOf n==some .cell)=true then (n,NameKind.cell) else (n,k))::_)=_;cases hx:x==n with
   | true=>
     have e:x=n:=by simpa using hx
     subst e
     by_cases hc:(k==NameKind.free&&env.scope.kind == .function&&env.kindOf x==some .cell)=true
     ·rw [if_pos hc];simp only [List.lookup_cons,hx,Option.map_some,if_pos hc]
     ·rw [if_neg hc];simp only [List.lookup_cons,hx,Option.map_some,if_neg hc]
   | false=>
     have ih:=lO env r x
     by_cases hc:(k==NameKind.free&&env.scope.kind == .function&&env.kindOf n==some .cell)=true
     ·rw [if_pos hc];simp only [List.lookup_cons,hx];exact ih
     ·rw [if_neg hc];simp only [List.lookup_cons,hx];exact ih
structure bC (N own:List Str) (caps:List Nat) (XN:List Str) (outer scope:Scope):Prop where
 kind:scope.kind = .function
 Rh:∀y∈scope.names,y.2 ≠ .cell
 names:∀y∈scope.names,y.2 = .local->scope.names.lookup y.1=some .local
 free:∀y∈scope.names,y.2 = .free->outer.names.lookup y.1=some .cell\/outer.names.lookup y.1=some .free
 nd:N.Nodup
 len:N.length=own.length+caps.length
 cap:∀(j:Nat),j<caps.length->N[own.length+j]? = XN[caps.getD j 0]? /\ ∃x,N[own.length+j]? = some x/\(x,NameKind.free)∈scope.names/\scope.names.lookup x=some .free
def st0 (own:List Str) (caps:List Nat) (σ:St):St:=own.map (fun _=>none)++caps.map (fun i=>(σ[i]?).join)
def gO (X:Cx) (scope:Scope) (C:Addr) (N:List Str) (s:Shared) (H:Hp) (fp:List Addr):Cx:=
 {X with N:=N,s₀:=s,H₀:=H,env:=compEnvC scope (qL X.env scope.names []) C X.env,outer:=X.stack,ex:=fp,fn:=fun _=>false,pn:=[],xe:=fun _ _=>False}
section
variable {X:Cx} {pins:List (Addr×Obj)} {σ:St} {H:Hp} {s:Shared} {scope:Scope} {N own:List Str} {caps:List Nat} {fp:List Addr} {C:Nat}
theorem bC.SM (S:bC N own caps X.N X.env.scope scope) (ok:X.Ok):∀y∈scope.names,y.2 = .free->(X.env.cells.lookup y.1).isSome=true:=fun y hy hf=>by
 obtain ⟨c,e⟩:=ok.has y.1 (S.free y hy hf);rw [e];rfl
theorem bC.csub (S:bC N own caps X.N X.env.scope scope) (ok:X.Ok) {x:Str} {c:Addr} (h:(qL X.env scope.names []).lookup x=some c):X.env.cells.lookup x=some c:=by
 rw [jX _ _ _ (S.SM ok)] at h;split at h
 ·exact h
 ·simp at h
theorem bC.Rp {S:bC N own caps X.N X.env.scope scope} {x:Str} (h:(relabel scope X.env).names.lookup x=some .cell\/(relabel scope X.env).names.lookup x=some .free):(x,NameKind.free)∈scope.names:=by
 have e:=lO X.env scope.names x;have e':(relabel scope X.env).names.lookup x=(scope.names.lookup x).map fun k=>if (k == .free&&X.env.scope.kind == .function&&X.env.kindOf x==some .cell)=true then NameKind.cell else k:=e;rw [e'] at h;cases q:scope.names.lookup x with
 | none=>rw [q] at h;simp at h
 | some k=>
   have hm:=PySem.mem_of_lookup q
   by_cases hk:k = .free
   ·subst hk;exact hm
   ·rw [q] at h
    have hb:(k==NameKind.free)=false:=by simpa using hk
    simp only [Option.map_some,hb,Bool.false_and,Bool.false_eq_true,if_false] at h;rcases h with h|h
    ·exact absurd (Option.some.inj h) (S.Rh _ hm)
    ·exact absurd (Option.some.inj h) hk
theorem Inv.comp {h1:Heap} {D:Nat} (I:Inv X pins σ H s) (S:bC N own caps X.N X.env.scope scope) (hfp:∀b∈fp,qW X pins H b) (hfo:∀b∈fp,∃o,s.heap.get? b=some o)
 (hD:D=s.heap.objs.size) (hC:C=s.heap.objs.size+1) (old:∀b o,s.heap.get? b=some o->h1.get? b=some o) (hns:h1.Ns C (fun _=>none)) (hl:h1.get? D=some {cls:= .type "list",data:= .seq #[]}) {t:Nat}:
 Inv (gO X scope C N s H fp) [] (st0 own caps σ) (upd H D (.lst [])) {s with heap:=h1,toks:=t}:=by
 have some':=S.SM I.ok;have sub:∀{x c},(qL X.env scope.names []).lookup x=some c->X.env.cells.lookup x=some c:=fun h=>S.csub I.ok h;have freshD:H D=none:=I.hok.fresh (by rw [hD];exact Nat.le_refl _);have ZR:H C=none:=I.hok.fresh (by rw [hC];exact Nat.le_succ _)
 have Z9:∀x c,X.env.cells.lookup x=some c->c<s.heap.objs.size:=fun x c e=>by
  obtain ⟨v,z⟩:=I.cell x c e;exact z.lt
 have aj4:∀b∈fp,b<s.heap.objs.size:=fun b hb=>by
  obtain ⟨o,e⟩:=hfo b hb;exact Heap.lt_size e
 have DC:D≠C:=by lia
 refine ⟨⟨I.ok.mod,S.kind,I.ok.glob,I.ok.blt,by show s.heap.objs.size<=C;lia,fun x y c e1 e2=>I.ok.inj x y c (sub e1) (sub e2),fun x h=> ?_,fun x c h=>(by cases h),I.ok.hd,I.ok.frames,Or.inl rfl,fun b hb=>⟨?_,fun x c e=> ?_⟩,I.bs,Nat.le_trans I.ok.KC I.sz,fun b o e hb=> ?_,fun b hb z=> ?_,I.stack,I.Ej⟩,
  rfl,I.bare,Un.laid old (by show s.heap.objs.size<=D;lia) freshD,⟨_,hns,fun j x v e1 e2 e3=> ?_⟩,fun x c e=> ?_, ?_,fun x c e=> ?_,fun p hp=> ?_,I.hok.laid old (by lia) ?_, ?_⟩
 ·have hm:=bC.Rp (S:=S) (X:=X) h
  obtain ⟨c,e⟩:=Option.isSome_iff_exists.mp (some' _ hm rfl);exact ⟨c,by show (qL X.env scope.names []).lookup x=_;rw [jX _ _ _ some',if_pos hm];exact e⟩
 ·exact Nat.ne_of_lt (show @LT.lt Nat _ b C by have:=CV (aj4 b hb);lia)
 ·exact (hfp b hb).2.2.2.2.1 x c (sub e)
 ·rcases (hfp b hb).2.2.2.1 with z|z
  ·exact I.ok.Fq b o e z
  ·exact absurd (Nat.lt_of_lt_of_le (Heap.lt_size e) (Nat.le_trans I.ok.KC z)) (Nat.lt_irrefl _)
 ·rcases List.mem_cons.mp (I.zE b z) with q|q
  ·exact (hfp b hb).2.1 q
  ·exact (hfp b hb).2.2.1 q
 ·have e1:N[j]? = some x:=e1
  have hj:own.length<=j:=by
   by_cases q:own.length<=j
   ·exact q
   ·exfalso
    unfold st0 at e2;rw [List.getElem?_append_left (by simp;lia),List.getElem?_map] at e2;cases r:own[j]? with
    | none=>rw [r] at e2;cases e2
    | some a=>rw [r] at e2;cases e2
  have hjl:j<N.length:=(List.getElem?_eq_some_iff.mp e1).1;have hjc:j - own.length<caps.length:=by have:=S.len;lia
  obtain ⟨c1,x',c2,c3,c4⟩:=S.cap (j - own.length) hjc;rw [show own.length+(j - own.length)=j by lia] at c1 c2;rw [e1] at c2;cases c2
  have e2':(σ[caps.getD (j - own.length) 0]?).join=some v:=by
   unfold st0 at e2;rw [List.getElem?_append_right (by simp;lia),List.getElem?_map,List.length_map] at e2;rw [List.getD_eq_getElem?_getD];cases r:caps[j - own.length]? with
   | none=>rw [r] at e2;cases e2
   | some a=>rw [r] at e2;exact Option.some.inj e2
  have akm:σ[caps.getD (j - own.length) 0]? = some (some v):=by
   cases r:σ[caps.getD (j - own.length) 0]? with
   | none=>rw [r] at e2';cases e2'
   | some a=>rw [r] at e2';exact congrArg Option.some e2'
  have kx:X.env.kindOf x=some .cell\/X.env.kindOf x=some .free:=S.free _ c3 rfl;obtain ⟨m,hn,hl'⟩:=I.loc;obtain ⟨u,r,l⟩:=hl' _ x v (by rw [←c1];exact e1) akm (by rcases kx with z|z;exact .inr (.inl z);exact .inr (.inr z));refine ⟨u,r,.inr ⟨?_, ?_⟩⟩
  ·show (relabel scope X.env).names.lookup x=some .cell\/(relabel scope X.env).names.lookup x=some .free
   have e:(relabel scope X.env).names.lookup x=(scope.names.lookup x).map fun k=>if (k == .free&&X.env.scope.kind == .function&&X.env.kindOf x==some .cell)=true then NameKind.cell else k:=lO X.env scope.names x;rw [e,c4,Option.map_some];split
   ·exact .inl rfl
   ·exact .inr rfl
  ·rcases l with ⟨hk,_⟩|⟨_,c,hc,z⟩
   ·rcases kx with q|q<;>rw [hk] at q<;>cases q
   ·refine ⟨c, ?_, ?_⟩
    ·show (qL X.env scope.names []).lookup x=_
     rw [jX _ _ _ some',if_pos c3];exact hc
    ·obtain ⟨o,ho,hd⟩:=z
     exact ⟨o,old c o ho,hd⟩
 ·obtain ⟨v,o,ho,hd⟩:=I.cell x c (sub e)
  exact ⟨v,o,old c o ho,hd⟩
 ·show upd H D (.lst []) C=none
  rw [aD DC.symm];exact ZR
 ·show upd H D (.lst []) c=none
  rw [aD (Nat.ne_of_lt (by have:=CV (Z9 x c (sub e));lia))];exact I.jx x c (sub e)
 ·cases hp
 ·exact ⟨Nat.zero_le _,[],0,.nil,hl⟩
 ·show (own.map (fun _=>none)++caps.map _).length=N.length
  rw [List.length_append,List.length_map,List.length_map,S.len]
theorem Inv.P_ {pQ:List (Addr×Obj)} {σ':St} {H':Hp} {s':Shared} {h':Heap} (I:Inv X pins σ H s) (hfp:∀b∈fp,qW X pins H b) (hC:s.heap.objs.size<=C) (J:Inv (gO X scope C N s H fp) pQ σ' H' s') (hs:Heap.SameBut C s'.heap h'):
 Inv X pins σ H' {s' with heap:=h'}:=by
 have nC:∀b o,s.heap.get? b=some o->b≠C:=fun b o e=>Nat.ne_of_lt (by have:=CV (Heap.lt_size e);lia);have u:=J.base;have frC:H' C=none:=J.free;refine I.call' (ch:=fp) (s':={s' with heap:=h'}) J.os ⟨fun b o e n hb hx=> ?_,fun b o e n hb hx=> ?_,u.free,fun b o e hx=> ?_,u.tups,u.vf,u.vR⟩ (fun a o e=>(J.hok a o e).stay (fun b v hb q=> ?_) (fun _ q=>q) fun _ _ q=>q) J.bare fun b hb=> ?_
 ·exact (hs.2 b (nC b o e)).trans (u.keep b o e n hb hx)
 ·obtain ⟨sl,q⟩:=u.slot b o e n hb hx
  exact ⟨sl,(hs.2 b (nC b o e)).trans q⟩
 ·obtain ⟨o',q⟩:=u.there b o e hx
  exact ⟨o',(hs.2 b (nC b o e)).trans q⟩
 ·refine (hs.2 b ?_).trans q
  intro z;subst z;rcases hb with z|z
  ·subst z;rw [frC] at e;cases e
  ·rw [frC] at z;cases z
 ·exact ⟨(hfp b hb).2.2.2.1,(hfp b hb).2.1,(hfp b hb).2.2.2.2.1,(hfp b hb).2.2.2.2.2⟩
end
section
variable {prog:Program} {w:World} {A:Around} {R:Result->Shared->Prop} {s:Shared}
theorem Gg {elt target iter:Expr} {ifs:List Expr} {scope:Scope} {pos:Pos} {it acc:Value} {env:Env} (I:Nat->Shared->Prop)
 (turn:∀n s,I n s->wpAny (model prog w) A (pyNext it) (fun r s1=>match r with
   | none=>R (.ok .next) s1
   | some v=>wpAny (model prog w) A (letOwnedTupleGo target it v) (fun _ s1'=>wpAny (model prog w) A (assign target env v) (fun _ s2=>
      wpAny (model prog w) A (forIn ifs true fun c r=>if r=true then do let ok ←isTrue c env (eval c env);pure (ForInStep.yield ok) else pure (ForInStep.yield r)) (fun ok s3=>
       if ok=true then wpAny (model prog w) A (eval elt env) (fun x s4=>
        wpAny (model prog w) A (call (.builtin "list.append") [acc,x]) (fun _ s5=>∃m,m<n/\I m s5) (fun _ _=>False) s4) (fun _ _=>False) s3
       else ∃m,m<n/\I m s3) (fun _ _=>False) s2) (fun _ _=>False) s1') (fun _ _=>False) s1) (fun _ _=>False) s)
 (n:Nat) (h:I n s):
 codeAny (model prog w) A (.compLoop (.ListComp elt [⟨target,iter,ifs,0⟩] scope pos) 0 it acc env) R s:=by
 refine codeAny_loop rfl I (fun n s hI=> ?_) n h;show wpAny _ A ((compTurn (.ListComp elt [⟨target,iter,ifs,0⟩] scope pos) 0 it acc env).onRaise (fun x=>do noteFrame x env;theTreesLotGoes x)) _ _ s;refine wpAny_noted ?_;rw [compTurn_list];refine wpAny_bind (wpAny_standAt (wpAny_bind (wpAny_mono (turn n s hI) (fun r s1 h1=> ?_) fun _ _ h'=>h'.elim)));cases r with
 | none=>exact wpAny_pure h1
 | some v=>
   refine wpAny_bind (wpAny_mono h1 (fun _ s1' h1'=> ?_) fun _ _ h'=>h'.elim);refine wpAny_bind (wpAny_mono h1' (fun _ s2 h2=>wpAny_bind (wpAny_mono h2 (fun ok s3 h3=> ?_) fun _ _ h'=>h'.elim)) fun _ _ h'=>h'.elim);cases ok with
   | false=>exact wpAny_pure ⟨rfl,h3⟩
   | true=>
     exact wpAny_bind (wpAny_bind (wpAny_mono h3 (fun x s4 h4=>wpAny_bind (wpAny_mono h4 (fun _ s5 h5=>wpAny_pure (wpAny_pure ⟨rfl,h5⟩)) fun _ _ h'=>h'.elim)) fun _ _ h'=>h'.elim))
end
def PTs (X:Cx) (ifs:List Expr) (t:TT):Prop:=
 ∀(pins:List (Addr×Obj)) (s:Shared) (σ:St) (H:Hp) (Q:Bool->Hp->Prop),Inv X pins σ H s->t σ H Q ->
  wpAny (model X.prog X.w) X.A (forIn ifs true fun c r=>if r=true then do let ok ←isTrue c X.env (eval c X.env);pure (ForInStep.yield ok) else pure (ForInStep.yield r)) (TP X pins σ Q) X.xe s
def BP:TT:=fun _ H Q=>Q true H
theorem fM {X:Cx}:PTs X [] BP:=fun _ _ _ H _ I h=>wpAny_tests_nil ⟨H,I,h⟩
theorem rC {X:Cx} {c:Expr} {t:TT} (h:PT X c t):PTs X [c] t:=fun pins s σ H Q I q=>wpAny_tests_one (h pins s σ H Q I q)
def mz (J:It) (g:TG) (tc:TT) (te:TE) (Q:VK) (D:Addr) (σ0:St) (H1:Hp):Prop:=
 ∃W:Nat->Nat->St->Hp->Prop,(∃m,W 0 m σ0 (upd H1 D (.lst []))) /\ ∀i m σ H,W i m σ H ->
  (J.stop i H/\Q (.ref D) H)\/(J.go i H /\ ∃N:St->Hp->Prop,(∀σ' H',N σ' H' -> ∃m',m'<m/\W (i+1) m' σ' H') /\ ∀x H',J.yld i H x H'->g x σ H' fun σ2 H2=>tc σ2 H2 fun b H3=>
    if b=true then te σ2 H3 fun y H4=>∃acc,H4 D=some (.lst acc)/\acc.length<sizeLine/\N σ2 (upd H4 D (.lst (acc++[y]))) else N σ2 H3)
def Qm (own:List Str) (caps:List Nat) (wi:TI) (g:TG) (tc:TT) (te:TE):TE:=fun σ H Q=>wi σ H fun J H1=>∀D,H1 D=none->mz J g tc te Q D (st0 own caps σ) H1
section
variable {X:Cx} {elt tg iter:Expr} {ifs:List Expr} {scope:Scope} {pos:Pos} {N own:List Str} {caps:List Nat} {wi:TI} {g:TG} {tc:TT} {te:TE}
theorem I_ {use:Option (Value->Sem Unit)} {Qv:Value->Shared->Prop} {pins:List (Addr×Obj)} {σ:St} {H:Hp} {s:Shared} {Q:VK} (hc:X.calm=true) (S:bC N own caps X.N X.env.scope scope)
 (hg:∀C s H fp,PG (gO X scope C N s H fp) tg g) (hcs:∀C s H fp,PTs (gO X scope C N s H fp) ifs tc) (he:∀C s H fp,PE (gO X scope C N s H fp) elt te)
 (hi:PI X tg iter wi) (hs:∀x,foldedSetIterable iter X.env x=pure x)
 (I:Inv X pins σ H s) (h:Qm own caps wi g tc te σ H Q)
 (fin:∀(D C:Addr) (H':Hp) (s':Shared),(∃m,s'.heap.Ns C m)->Inv X pins σ H' s'->(∀h',Heap.SameBut C s'.heap h'->Inv X pins σ H' {s' with heap:=h'})->qW X pins H' C->Q (.ref D) H' ->
   compPost (model X.prog X.w) X.A X.xe use Qv (.ref D) C (.ok .next) s'):
 wpAny (model X.prog X.w) X.A (comprehension (.ListComp elt [⟨tg,iter,ifs,0⟩] scope pos) scope X.env (firstIterPos [⟨tg,iter,ifs,0⟩] pos) (newList []) false (eval iter X.env) use) Qv X.xe s:=by
 refine wpAny_comprehension_free (use:=use) rfl hs (Kv (S.SM I.ok)) S.kind S.names (dN (hi pins s σ H _ I h) fun xv s1 h1=>dN h1 fun itv s2 h2=> ?_);obtain ⟨it,fp,tn,J,H2,e,I2,T,st2,f2,q2⟩:=h2;subst e;refine wpAny_newList ?_;refine wpAny_newFunctionEnv S.Rh (by intro y hy;simp at hy) (fun h1 acf hsb1=> ?_) S.kind;dsimp only at acf hsb1 ⊢;have hD:H2 s2.heap.objs.size=none:=I2.hok.fresh (Nat.le_refl _);have hsz:(s2.heap.push {cls:= .type "list",data:= .seq ([]:List Value).toArray}).objs.size=s2.heap.objs.size+1:=Heap.size_push ..
 have old:∀b o,s2.heap.get? b=some o->h1.get? b=some o:=fun b o e=>by
  refine hsb1.extBut b o (Nat.ne_of_lt (by have:=CV (Heap.lt_size e);rw [hsz];lia)) (Heap.get?_push_of_some _ (Heap.get?_push_of_some _ e))
 have hl:h1.get? s2.heap.objs.size=some {cls:= .type "list",data:= .seq #[]}:=
  hsb1.extBut _ _ (Nat.ne_of_lt (by rw [hsz];lia)) (Heap.get?_push_of_some _ (Heap.get?_push_size _ rfl))
 have hfo:∀b∈fp,∃o,s2.heap.get? b=some o:=fun b hb=>let ⟨o,e,_⟩:=T.obj _ _ st2 b hb;⟨o,e⟩
 have I4:=Inv.comp (C:=(s2.heap.push {cls:= .type "list",data:= .seq ([]:List Value).toArray}).objs.size) (t:=s2.toks+([]:List (Str×Value)).length) I2 S f2 hfo rfl hsz old acf hl;obtain ⟨W,⟨m0,w0⟩,turn⟩:=q2 _ hD;generalize hCe:(s2.heap.push {cls:= .type "list",data:= .seq ([]:List Value).toArray}).objs.size=C at *;generalize hDe:s2.heap.objs.size=D at *;have hDC:D≠C:=by lia
 have loop:∀s3:Shared,s3={s2 with heap:=h1,toks:=s2.toks+([]:List (Str×Value)).length} ->
  codeAny (model X.prog X.w) X.A (.compLoop (.ListComp elt [⟨tg,iter,ifs,0⟩] scope pos) 0 (.ref it) (.ref D) (gO X scope C N s2 H2 fp).env) (compPost (model X.prog X.w) X.A X.xe use Qv (.ref D) C) s3:=by
  rintro s3 rfl
  have Io:∀b∈fp,(upd H2 D (.lst [])) b=none:=fun b hb=>by
   obtain ⟨o,e⟩:=hfo b hb;rw [aD (Nat.ne_of_lt (by have:=CV (Heap.lt_size e);lia))];exact (f2 b hb).1
  have stat:∀{H':Hp},(∀b∈fp,H' b=none) -> ∀b∈fp,qW (gO X scope C N s2 H2 fp) [] H' b:=fun hn b hb=>by
   obtain ⟨o,e⟩:=hfo b hb;have hlt:=CV (Heap.lt_size e);refine ⟨hn b hb, ?_,fun z=> ?_,.inl hb,fun x c e'=>(f2 b hb).2.2.2.2.1 x c (S.csub I2.ok e'),fun p hp=>(by cases hp)⟩
   ·exact Nat.ne_of_lt (show @LT.lt Nat _ b C by lia)
   ·rcases List.mem_cons.mp (I2.zE b z) with q|q
    ·exact (f2 b hb).2.1 q
    ·exact (f2 b hb).2.2.1 q
  refine Gg (fun n s'=>∃i σ' H',Inv (gO X scope C N s2 H2 fp) [] σ' H' s'/\tn i s'.heap/\(∀b∈fp,H' b=none)/\W i n σ' H') ?_ m0
   ⟨0,_,_,I4,T.keep _ _ _ st2 fun b _ o e=>old b o e,Io,w0⟩
  rintro n s3 ⟨i,σ3,H3,I3,st3,fr3,w3⟩;rcases turn i n σ3 H3 w3 with ⟨stop,qn⟩|⟨go,Nx,hNx,step⟩
  ·refine dN (T.done (gO X scope C N s2 H2 fp) rfl rfl rfl hc i [] s3 σ3 H3 _ I3 (stat fr3) st3 stop) fun r s4 ⟨hr,J4⟩=> ?_
   subst hr;obtain ⟨m4,hn4,_⟩:=J4.loc;exact fin D C H3 s4 ⟨m4,hn4⟩ (I2.P_ f2 (by lia) J4 (Heap.SameBut.refl _ _)) (fun h' hs'=>I2.P_ f2 (by lia) J4 hs') (I2.Ar (show s2.heap.objs.size<=C by lia) J4.free) qn
  ·refine dN (T.item (gO X scope C N s2 H2 fp) rfl rfl rfl hc i [] s3 σ3 H3 _ I3 (stat fr3) st3 go) fun r s4 ⟨u,hr,h4⟩=> ?_
   subst hr;refine dN h4 fun _ s5 ⟨x,H5,I5,r5,y5,GX,fr5⟩=> ?_;have I5':=I5.pinned (stat fr5) (T.obj _ _ GX);refine dN (hg C s2 H2 fp _ s5 σ3 H5 x u _ I5' r5 (step x H5 y5)) fun _ s6 ⟨σ6,H6,I6,q6⟩=> ?_;refine dN (hcs C s2 H2 fp _ s6 σ6 H6 _ I6 q6) fun ok s7 ⟨H7,I7,q7⟩=> ?_
   have again:∀{σ8:St} {H8:Hp} {s8:Shared},Inv (gO X scope C N s2 H2 fp) ([]++z_ fp s5.heap) σ8 H8 s8->Nx σ8 H8 -> ∃m,m<n /\ ∃i σ' H',Inv (gO X scope C N s2 H2 fp) [] σ' H' s8/\tn i s8.heap/\(∀b∈fp,H' b=none)/\W i m σ' H':=fun {σ8 H8 s8} I8 n8=>by
    obtain ⟨m',hm,w8⟩:=hNx _ _ n8;refine ⟨m',hm,i+1,σ8,H8,I8.uy,T.keep _ _ _ GX fun b hb o e=>(I8.pin (b,o) (List.mem_append_right _ (List.mem_append_right _ (pH hb e)))).1,fun b hb=> ?_,w8⟩;obtain ⟨o,e,d⟩:=T.obj _ _ GX b hb;exact (I8.pin (b,o) (List.mem_append_right _ (List.mem_append_right _ (pH hb e)))).2.1
   cases ok with
   | false=>
     rw [if_neg (by decide)] at q7;exact again I7 q7
   | true=>
     rw [if_pos rfl] at q7;refine dN (he C s2 H2 fp _ s7 σ6 H7 _ I7 q7) fun y s8 ⟨yv,H8,I8,r8,acc,ha,hlen,q8⟩=> ?_;exact dN (C_ _ s8 σ6 H8 (.ref D) [yv] (.ref D) [y] (fun v H9=>Nx σ6 H9) I8 rfl (.cons r8 .nil) ⟨D,acc,yv,rfl,rfl,ha,hlen,q8⟩) fun _ s9 ⟨_,H9,I9,_,q9⟩=>again I9 q9
 exact codeAny_compStart_list (loop _ rfl) (T.self _ 0 _ _ _ (T.keep _ _ _ st2 fun b _ o e=>old b o e) (loop _ rfl))
theorem gA (hc:X.calm=true) (S:bC N own caps X.N X.env.scope scope) (hi:PI X tg iter wi)
 (hg:∀C s H fp,PG (gO X scope C N s H fp) tg g) (hcs:∀C s H fp,PTs (gO X scope C N s H fp) ifs tc) (he:∀C s H fp,PE (gO X scope C N s H fp) elt te)
 (hs:∀x,foldedSetIterable iter X.env x=pure x:=by intro _;rfl):PE X (.ListComp elt [⟨tg,iter,ifs,0⟩] scope pos) (Qm own caps wi g tc te):=by
 intro pins s σ H Q I h;rw [eval_ListComp];refine I_ (use:=none) hc S hg hcs he hi hs I h ?_;intro D C H' s' hn I' hk _ q;obtain ⟨m,hn⟩:=hn;exact ⟨m,hn,fun h' hs'=>⟨.ref D,H',hk h' hs',rfl,q⟩⟩
theorem pC {i:Nat} {x:Str} {px sp:Pos} (hc:X.calm=true) (hN:X.N.Nodup) (hx:X.N[i]? = some x) (hl:Loc X.env.scope x) (S:bC N own caps X.N X.env.scope scope) (hi:PI X tg iter wi)
 (hg:∀C s H fp,PG (gO X scope C N s H fp) tg g) (hcs:∀C s H fp,PTs (gO X scope C N s H fp) ifs tc) (he:∀C s H fp,PE (gO X scope C N s H fp) elt te)
 (hsw:swapsWith (.ListComp elt [⟨tg,iter,ifs,0⟩] scope pos) (some (.Name x px)) sp.line X.env=pure true:=by rfl)
 (hs:∀x,foldedSetIterable iter X.env x=pure x:=by intro _;rfl) (hf:X.fn x=true\/X.env.scope.names.lookup x=some .local:=by first |exact .inl rfl|exact .inr rfl|assumption):
 PS X (.Assign [.Name x px] (.ListComp elt [⟨tg,iter,ifs,0⟩] scope pos) sp) (Yk (Qm own caps wi g tc te) (gR i)):=by
 intro pins s σ H D I h;rw [exec_Assign_Name_used _ _ _ _ hsw];refine wpAny_bind (wpAny_standAt (wpAny_bind ?_));show wpAny _ X.A (do let _ ←comprehension (.ListComp elt [⟨tg,iter,ifs,0⟩] scope pos) scope X.env (firstIterPos [⟨tg,iter,ifs,0⟩] pos) (newList []) false (eval iter X.env) (some (assign (.Name x px) X.env))) _ _ s;refine wpAny_bind (wpAny_mono (I_ (use:=some (assign (.Name x px) X.env)) (Qv:=fun _ s'=>SP X pins D .next s') hc S hg hcs he hi hs I h ?_) (fun _ s' hq=>wpAny_pure (wpAny_pure hq)) fun _ _ e=>e);intro E C H' s' hn I' hk fC q;obtain ⟨m,hn⟩:=hn;obtain ⟨f0,f1,f2,f3,f4,f5⟩:=fC;show wpAny _ X.A (assign (.Name x px) X.env (.ref E)) _ _ _;refine wpAny_assign_Name (Cz I' hN hx hl (v:= .ref E) rfl (fun s2 I2 k=> ?_) hf);refine ⟨m, ?_,fun h' hs'=> ?_⟩
 ·obtain ⟨o,es,ep,ho,r⟩:=hn
  obtain ⟨a,ks,ka⟩:=k
  have hCa:C≠a:=fun z=>by
   rcases ka with q'|q'
   ·exact f1 (z.trans q')
   ·exact f4 x a q' z.symm
  exact ⟨o,es,ep,(ks.2 C hCa).trans ho,r⟩
 ·exact ⟨_,H',I2.turned (t':=s2.toks) (fun b o hb e=>(hs'.2 b hb).trans e) f0 f1 f3 f4 f5,q⟩
end
def SX (N own:List Str) (caps:List Nat) (XN:List Str) (outer scope:Scope):Bool:=
 decide (scope.kind = .function)&&scope.names.all (fun y=>decide (y.2 ≠ .cell))&&scope.names.all (fun y=>decide (y.2 ≠ .local)||decide (scope.names.lookup y.1=some .local)) &&
 scope.names.all (fun y=>decide (y.2 ≠ .free)||decide (outer.names.lookup y.1=some .cell)||decide (outer.names.lookup y.1=some .free))&&decide N.Nodup&&decide (N.length=own.length+caps.length) &&
 (List.range caps.length).all (fun j=>match N[own.length+j]? with |some x=>decide (XN[caps.getD j 0]? = some x)&&decide ((x,NameKind.free)∈scope.names)&&decide (scope.names.lookup x=some .free)|none=>false)
theorem bC.of {N own:List Str} {caps:List Nat} {XN:List Str} {outer scope:Scope} (h:SX N own caps XN outer scope=true):bC N own caps XN outer scope:=by
 unfold SX at h;simp only [Bool.and_eq_true,decide_eq_true_eq,List.all_eq_true,Bool.or_eq_true] at h;obtain ⟨⟨⟨⟨⟨⟨h1,h2⟩,h3⟩,h4⟩,h5⟩,h6⟩,h7⟩:=h;refine ⟨h1,h2,fun y hy e=> ?_,fun y hy e=> ?_,h5,h6,fun j hj=> ?_⟩
 ·rcases h3 y hy with z|z
  ·exact absurd e z
  ·exact z
 ·rcases h4 y hy with (z|z)|z
  ·exact absurd e z
  ·exact .inl z
  ·exact .inr z
 ·have q:=h7 j (List.mem_range.mpr hj)
  cases e:N[own.length+j]? with
  | none=>rw [e] at q;cases q
  | some x=>
    rw [e] at q;simp only [Bool.and_eq_true,decide_eq_true_eq] at q;exact ⟨q.1.1.symm,x,rfl,q.1.2,q.2⟩
end L2
set_option Elab.async false
set_option linter.all false
set_option maxRecDepth 100000
set_option maxHeartbeats 4000000
namespace L2
open PySem PySem.Spec PyProof.Rows
mutual
def Dat (H:Hp):V->PyData->Prop
 | v,.none=>v = .non
 | v,.bool b=>v = .bl b
 | v,.int i=>v = .int i
 | v,.str x=>v = .str x
 | v,.list ds=>∃a vs,v = .ref a/\H a=some (.lst vs)/\aR H vs ds
 | v,.tuple ds=>∃a vs,v = .ref a/\H a=some (.tup vs)/\aR H vs ds
 | _,.dict _=>False
def aR (H:Hp):List V->List PyData->Prop
 | [],[]=>True
 | v::vs,d::ds=>Dat H v d/\aR H vs ds
 | [],_::_=>False
 | _::_,[]=>False
end
section
variable {H H':Hp}
theorem aR.length:∀{vs:List V} {ds:List PyData},aR H vs ds->vs.length=ds.length
 | [],[],_=>rfl
 | _::_,_::_,h=>by simp only [aR] at h;simp [aR.length h.2]
 | [],_::_,h=>by simp only [aR] at h
 | _::_,[],h=>by simp only [aR] at h
theorem aR.get:∀{vs:List V} {ds:List PyData} {i:Nat} {v:V},aR H vs ds->vs[i]? = some v -> ∃d,ds[i]? = some d/\Dat H v d
 | _::_,_::_,0,_,h,e=>by simp only [aR] at h;simp at e;subst e;exact ⟨_,rfl,h.1⟩
 | _::_,_::_,i+1,_,h,e=>by simp only [aR] at h;simp at e;obtain ⟨d,q,r⟩:=aR.get h.2 e;exact ⟨d,by simpa using q,r⟩
 | [],[],_,_,_,e=>by simp at e
 | [],_::_,_,_,h,_=>by simp only [aR] at h
 | _::_,[],_,_,h,_=>by simp only [aR] at h
theorem aR.getD:∀{vs:List V} {ds:List PyData} {i:Nat} {d:PyData},aR H vs ds->ds[i]? = some d -> ∃v,vs[i]? = some v/\Dat H v d
 | _::_,_::_,0,_,h,e=>by simp only [aR] at h;simp at e;subst e;exact ⟨_,rfl,h.1⟩
 | _::_,_::_,i+1,_,h,e=>by simp only [aR] at h;simp at e;obtain ⟨d,q,r⟩:=aR.getD h.2 e;exact ⟨d,by simpa using q,r⟩
 | [],[],_,_,_,e=>by simp at e
 | [],_::_,_,_,h,_=>by simp only [aR] at h
 | _::_,[],_,_,h,_=>by simp only [aR] at h
theorem aR.append:∀{vs ws:List V} {ds es:List PyData},aR H vs ds->aR H ws es->aR H (vs++ws) (ds++es)
 | [],_,[],_,_,g=>g
 | _::_,_,_::_,_,h,g=>by simp only [aR,List.cons_append] at h ⊢;exact ⟨h.1,aR.append h.2 g⟩
 | [],_,_::_,_,h,_=>by simp only [aR] at h
 | _::_,_,[],_,h,_=>by simp only [aR] at h
theorem aR.ints (ns:List Int):aR H (ns.map V.int) (ns.map PyData.int):=by
 induction ns with
 | nil=>simp only [List.map_nil,aR]
 | cons n r ih=>simp only [List.map_cons,aR,Dat];exact ⟨trivial,ih⟩
mutual
theorem Dat.mono (hl:∀a xs,H a=some (HO.lst xs)->H' a=some (HO.lst xs)) (ht:∀a xs,H a=some (HO.tup xs)->H' a=some (HO.tup xs)):∀(d:PyData) {v:V},Dat H v d->Dat H' v d
 | .none,_,h=>by simp only [Dat] at h ⊢;exact h
 | .bool _,_,h=>by simp only [Dat] at h ⊢;exact h
 | .int _,_,h=>by simp only [Dat] at h ⊢;exact h
 | .str _,_,h=>by simp only [Dat] at h ⊢;exact h
 | .list ds,_,h=>by simp only [Dat] at h ⊢;obtain ⟨a,vs,e,q,r⟩:=h;exact ⟨a,vs,e,hl _ _ q,aR.mono hl ht ds r⟩
 | .tuple ds,_,h=>by simp only [Dat] at h ⊢;obtain ⟨a,vs,e,q,r⟩:=h;exact ⟨a,vs,e,ht _ _ q,aR.mono hl ht ds r⟩
 | .dict _,_,h=>by simp only [Dat] at h
theorem aR.mono (hl:∀a xs,H a=some (HO.lst xs)->H' a=some (HO.lst xs)) (ht:∀a xs,H a=some (HO.tup xs)->H' a=some (HO.tup xs)):∀(ds:List PyData) {vs:List V},aR H vs ds->aR H' vs ds
 | [],[],_=>by simp only [aR]
 | d::ds,v::vs,h=>by simp only [aR] at h ⊢;exact ⟨Dat.mono hl ht d h.1,aR.mono hl ht ds h.2⟩
 | _::_,[],h=>by simp only [aR] at h
 | [],_::_,h=>by simp only [aR] at h
end
mutual
def GZ:PyData->Bool
 | .tuple ds=>tX ds
 | .list _ | .dict _=>false
 | .none | .bool _ | .int _ | .str _=>true
def tX:List PyData->Bool
 | []=>true
 | d::ds=>GZ d&&tX ds
end
mutual
theorem Dat.keep (ht:∀a xs,H a=some (HO.tup xs)->H' a=some (HO.tup xs)):∀(d:PyData) {v:V},GZ d=true->Dat H v d->Dat H' v d
 | .none,_,_,h=>by simp only [Dat] at h ⊢;exact h
 | .bool _,_,_,h=>by simp only [Dat] at h ⊢;exact h
 | .int _,_,_,h=>by simp only [Dat] at h ⊢;exact h
 | .str _,_,_,h=>by simp only [Dat] at h ⊢;exact h
 | .list ds,_,i,h=>by simp only [GZ] at i;cases i
 | .tuple ds,_,i,h=>by simp only [Dat] at h ⊢;simp only [GZ] at i;obtain ⟨a,vs,e,q,r⟩:=h;exact ⟨a,vs,e,ht _ _ q,aR.keep ht ds i r⟩
 | .dict _,_,_,h=>by simp only [Dat] at h
theorem aR.keep (ht:∀a xs,H a=some (HO.tup xs)->H' a=some (HO.tup xs)):∀(ds:List PyData) {vs:List V},tX ds=true->aR H vs ds->aR H' vs ds
 | [],[],_,_=>by simp only [aR]
 | d::ds,v::vs,i,h=>by simp only [aR] at h ⊢;simp only [tX,Bool.and_eq_true] at i;exact ⟨Dat.keep ht d i.1 h.1,aR.keep ht ds i.2 h.2⟩
 | _::_,[],_,h=>by simp only [aR] at h
 | [],_::_,_,h=>by simp only [aR] at h
end
theorem cg {α:Type} (f:α->PyData) (h:∀x,GZ (f x)=true):∀l:List α,tX (l.map f)=true
 | []=>rfl
 | a::l=>by simp only [List.map_cons,tX,h a,cg f h l,Bool.and_self]
end
section
variable {X:Cx} {pins:List (Addr×Obj)} {σ:St} {H:Hp} {s:Shared}
mutual
theorem Inv.reads (I:Inv X pins σ H s):∀(d:PyData) {v:V} {u:Value},Dat H v d->RelV v u -> ∃as,Reads s.heap u d as
 | .none,v,u,h,r=>by
   simp only [Dat] at h;subst h;cases (show u=Value.none from r);exact ⟨_,.none⟩
 | .bool b,v,u,h,r=>by
   simp only [Dat] at h;subst h;cases (show u=Value.bool b from r);exact ⟨_,.bool b⟩
 | .int i,v,u,h,r=>by
   simp only [Dat] at h;subst h;obtain ⟨t,q⟩:=(show ∃t,u=Value.int i t from r);cases q;exact ⟨_,.int i t⟩
 | .str x,v,u,h,r=>by
   simp only [Dat] at h;subst h;obtain ⟨t,q⟩:=(show ∃t,u=Value.str x t from r);cases q;exact ⟨_,.str x t⟩
 | .list ds,v,u,h,r=>by
   simp only [Dat] at h;obtain ⟨a,vs,rfl,q,g⟩:=h;cases (show u=Value.ref a from r);obtain ⟨its,rv,p,hz⟩:=I.list (bN.of q);obtain ⟨o,ho,hc,n,hd⟩:=p.isList;obtain ⟨as,ra⟩:=Inv.readsAll I ds g rv;exact ⟨_,.list ho hc hd (by simpa using ra)⟩
 | .tuple ds,v,u,h,r=>by
   simp only [Dat] at h;obtain ⟨a,vs,rfl,q,g⟩:=h;cases (show u=Value.ref a from r);obtain ⟨its,rv,p,hz⟩:=I.tuple (cN.of q);obtain ⟨o,ho,hc,n,hd⟩:=p;obtain ⟨as,ra⟩:=Inv.readsAll I ds g rv;exact ⟨_,.tuple ho hc hd (by simpa using ra)⟩
 | .dict _,_,_,h,_=>by simp only [Dat] at h
theorem Inv.readsAll (I:Inv X pins σ H s):∀(ds:List PyData) {vs:List V} {us:List Value},aR H vs ds->Vals vs us -> ∃as,ReadsAll s.heap us ds as
 | [],[],_,_,.nil=>⟨_,.nil⟩
 | d::ds,v::vs,_,h,.cons r rs=>by
   simp only [aR] at h;obtain ⟨as,ra⟩:=Inv.reads I d h.1 r;obtain ⟨bs,rb⟩:=Inv.readsAll I ds h.2 rs;exact ⟨_,.cons ra rb⟩
 | _::_,[],_,h,_=>by simp only [aR] at h
 | [],_::_,_,h,_=>by simp only [aR] at h
end
def U6 (neg:Bool):R2:=fun x y H Q=>∃d e,Dat H x d/\Dat H y e/\SeqAt.shaped d=true/\SeqAt.shaped e=true/\Q (.bl (if neg then !PyData.eqv d e else PyData.eqv d e)) H
theorem Y7 (hu:X.A.units+64<cLine):rZ X (compareOp .Eq) (U6 false):=by
 intro pins s σ H x y v u Q I rx ry h;obtain ⟨d,e,h1,h2,s1,s2,q⟩:=h;obtain ⟨as,ra⟩:=I.reads d h1 rx;obtain ⟨bs,rb⟩:=I.reads e h2 ry;exact SeqAt.compareEq_shaped ra rb s1 s2 hu ⟨.bl _,H,I,rfl,q⟩
theorem Y6 (hu:X.A.units+64<cLine):rZ X (compareOp .NotEq) (U6 true):=by
 intro pins s σ H x y v u Q I rx ry h;obtain ⟨d,e,h1,h2,s1,s2,q⟩:=h;obtain ⟨as,ra⟩:=I.reads d h1 rx;obtain ⟨bs,rb⟩:=I.reads e h2 ry;exact SeqAt.compareNe_shaped ra rb s1 s2 hu ⟨.bl _,H,I,rfl,q⟩
theorem S5 {c:Value} {cv:V} (rc:RelV cv c):jy X (.builtin "isinstance") (fun xs H Q=>∃x t b,xs=[x,cv]/\vD X.K H x t/\PySem.W.kitOne X.K t c=some b/\Q (.bl b) H):=by
 intro pins s σ H xs us Q I r h;obtain ⟨x,t,b,rfl,ty,e,q⟩:=h;obtain ⟨u,w',rfl,r1,r2⟩:=vals2 r
 have:w'=c:=by
  cases cv with
  | non=>exact (show w'=Value.none from r2).trans (show c=Value.none from rc).symm
  | bl b=>exact (show w'=Value.bool b from r2).trans (show c=Value.bool b from rc).symm
  | ref a=>exact (show w'=Value.ref a from r2).trans (show c=Value.ref a from rc).symm
  | ty n=>exact (show w'=Value.type n from r2).trans (show c=Value.type n from rc).symm
  | int i=>obtain ⟨t1,rfl⟩:=(show ∃t,c=Value.int i t from rc);unfold PySem.W.kitOne at e;exact absurd e (by cases ty<;>simp [PySem.W.kitCls])
  | str i=>obtain ⟨t1,rfl⟩:=(show ∃t,c=Value.str i t from rc);unfold PySem.W.kitOne at e;exact absurd e (by cases ty<;>simp [PySem.W.kitCls])
  | Kz i=>obtain ⟨t1,rfl⟩:=(show ∃t,c=Value.bytes i t from rc);unfold PySem.W.kitOne at e;exact absurd e (by cases ty<;>simp [PySem.W.kitCls])
  | flt i=>obtain ⟨t1,rfl⟩:=(show ∃t,c=Value.float i t from rc);unfold PySem.W.kitOne at e;exact absurd e (by cases ty<;>simp [PySem.W.kitCls])
 subst this;exact Oh I r1 ty e fun tk=>⟨.bl b,H,I.tok _,rfl,q⟩
end
section
variable {prog:Program} {w:World} {A:Around}
theorem zu (hh:A.handled=none) (it a:Addr) (hne:it≠a) (its:List Value):Walks prog w A it [it,a] [it] its.length (fun i v=>its[i]? = some v) (fun i h=>h.IsListIter it a i/\h.IsList a its.toArray) where
 sub:=by simp
 frame:=fun i h h' ⟨s1,o,ho,hc⟩ k=>⟨s1.at fun o e=>k it (by simp) o e,o,k a (by simp) o ho,hc⟩
 item:=fun i s Q E hi ⟨s1,s2⟩ hQ=>wpAny_pyNext_list_item s1 s2 (x:=its[i]) (by simp [hi]) fun h' st' sb=>
  hQ _ h' s.toks (by simp [hi]) ⟨st',s2.extBut sb.extBut hne.symm⟩ fun b o hb e=>(sb.2 b (by simpa using hb)).trans e
 done:=fun s Q E ⟨s1,s2⟩ hQ=>wpAny_pyNext_list_end hh s1 s2 (by simp) fun h' eb=>hQ h' s.toks fun b o hb e=>eb b o (by simpa using hb) e
 self:=fun i s Q E ⟨s1,_⟩ hQ=>wpAny_pyIter_listiter s1 hQ
end
section
variable {X:Cx}
theorem BX (bs:List Bool):(List.range bs.length).all (fun i=>(bs[i]?).getD false)=bs.all id:=by
 rw [Bool.eq_iff_iff,List.all_eq_true,List.all_eq_true];constructor
 ·intro h b hb
  obtain ⟨i,hi,rfl⟩:=List.getElem_of_mem hb;have:=h i (by simpa using hi);simpa [hi] using this
 ·intro h i hi
  have hi':i<bs.length:=by simpa using hi
  simpa [hi'] using h bs[i] (List.getElem_mem hi')
theorem Jy {bs:List Bool}:∀{us:List Value},Vals (bs.map V.bl) us->us=bs.map Value.bool:=by
 induction bs with
 | nil=>intro us r;cases r;rfl
 | cons b bs ih=>
   intro us r;cases r with
   | cons r rs=>cases (show _=Value.bool b from r);rw [ih rs];rfl
theorem Bd (hc:X.calm=true):jy X (.builtin "all") (fun xs H Q=>∃(p:Addr) (bs:List Bool),xs=[.ref p]/\bN X.K H p (bs.map V.bl)/\Q (.bl (bs.all id)) H):=by
 intro pins s σ H xs us Q I r h;obtain ⟨p,bs,rfl,hq,q⟩:=h;obtain ⟨u,rfl,rx⟩:=vals1 r;cases rx;obtain ⟨its,rv,pl,hz⟩:=I.list hq;have e:=Jy rv;have hlen:its.length=bs.length:=by rw [e,List.length_map]
 refine call_all_walk (wpAny_pyIter_list pl.isList ⟨s.heap.objs.size,[s.heap.objs.size,p],[s.heap.objs.size],its.length,_,_,fun i=>(bs[i]?).getD false,rfl,
  zu (show X.A.in1.handled=none from I.ok.hd hc) s.heap.objs.size p ?_ its,⟨⟨_,Heap.get?_push_size _ rfl,rfl,rfl⟩, ?_⟩, ?_, ?_⟩)
 ·intro z
  obtain ⟨o,ho,_⟩:=pl.isList;have:=Heap.lt_size ho;rw [←z] at this;exact Nat.lt_irrefl _ this
 ·obtain ⟨o,ho,hcl⟩:=pl.isList
  exact ⟨o,Heap.get?_push_of_some _ ho,hcl⟩
 ·intro i v s1 Q1 E1 hP hQ
  rw [e,List.getElem?_map] at hP;cases r:bs[i]? with
  | none=>rw [r] at hP;cases hP
  | some b=>
    rw [r] at hP;cases hP;simp only [r,Option.getD_some] at hQ;exact wpAny_truthy_bool hQ
 ·intro h' tk k
  rw [hlen,BX];have f:=I.Ar (H':=H) (b:=s.heap.objs.size) (Nat.le_refl _) (I.hok.fresh (Nat.le_refl _));have I2:Inv X pins σ H {s with heap:=h',toks:=tk}:=I.turned (h':=h') (t':=tk) (it:=s.heap.objs.size) (fun b o hb e=>k b o (by simpa using hb) (Heap.get?_push_of_some _ e)) f.1 f.2.1 f.2.2.2.1 f.2.2.2.2.1 f.2.2.2.2.2;exact ⟨.bl _,H,I2,rfl,q⟩
end
end L2
set_option Elab.async false
set_option linter.all false
set_option maxRecDepth 100000
set_option maxHeartbeats 4000000
namespace L2
open PySem PySem.Spec PyProof.Rows
def FnAt (P:Program) (w:World) (K:PySem.W.Frag) (mg:Str->Option Value) (base:Heap) (k:Nat) (x:Str) (ps:List Str) (sp:Sp):Prop:=
 ∃f fd,bZ P w K mg base kY k f fd ps sp/\mg x=some (.ref f)/\PySem.W.keepIn K (.ref f)=true/\Binds K fd ps []
section
variable {X:Cx} {k j:Nat} {x:Str} {ps:List Str} {sp:Sp} {e:Expr} {es:List Expr} {t:TA} {p pos:Pos}
theorem cA (F:FnAt X.prog X.w X.K X.mg X.base k x ps sp) (hr:fL k X.A) (hg:Gl X x) (ha:PA X (e::es) t) (hd:(x==("__debug__" :Str))=false:=by decide)
 (he:starEach (e::es) X.env=(false,eval e X.env)::starEach es X.env:=by rfl) (hpl:(backTo pos (starEach es X.env)).any (·.1)=false:=by rfl):
 PE X (.Call (.Name x p) (e::es) [] pos) (WD sp [] E0 t):=by
 obtain ⟨f,fd,G,hm,hk,hb⟩:=F;exact Vh G hr hg hm hk hb .nil Lz ha (hdb:=hd) (he:=he) (hpl:=hpl)
end
theorem Gk:bootBuiltins "all" = some (.builtin "all"):=by kernel_rfl
theorem dR:bootBuiltins "len" = some (.builtin "len"):=by kernel_rfl
theorem S_:bootBuiltins "min" = some (.builtin "min"):=by kernel_rfl
theorem S8:bootBuiltins "sum" = some (.builtin "sum"):=by kernel_rfl
theorem DP:bootBuiltins "sorted" = some (.builtin "sorted"):=by kernel_rfl
theorem bx:bootBuiltins "isinstance" = some (.builtin "isinstance"):=by kernel_rfl
theorem Bf:bootBuiltins "int" = some (.type "int"):=by kernel_rfl
theorem vp:bootBuiltins "bool" = some (.type "bool"):=by kernel_rfl
theorem iB:bootBuiltins "list" = some (.type "list"):=by kernel_rfl
theorem vo:bootBuiltins "tuple" = some (.type "tuple"):=by kernel_rfl
theorem aac:bootBuiltins "str" = some (.type "str"):=by kernel_rfl
section
variable {X:Cx}
theorem LK:rZ X (binaryOp .Mult) (rI IntMulOk fun i j=> .int (i*j)):=opI fun _ _ _ _ _ _ _ hc q=>mul_int q hc
end
def Kp (r:Addr) (H H':Hp):Prop:=∀b o,H b=some o->b≠r->H' b=some o
theorem Kp.of_same {r:Addr} {H H':Hp} (h:Same H H'):Kp r H H':=fun b o e _=>h b o e
theorem Kp.trans {r:Addr} {H H1 H2:Hp} (a:Kp r H H1) (b:Kp r H1 H2):Kp r H H2:=fun c o h n=>b c o (a c o h n) n
theorem Kp.set {r:Addr} {H:Hp} {o:HO}:Kp r H (upd H r o):=fun b u e n=>by rw [aD n];exact e
theorem aH {H:Hp} {p:Addr} {o:HO} (h:H p=none):Same H (upd H p o):=fun b u e=>by rw [aD (au e h)];exact e
theorem Same.tups {H H':Hp} (e:Same H H'):∀a xs,H a=some (HO.tup xs)->H' a=some (HO.tup xs):=fun a xs h=>e _ _ h
theorem Same.sqL {K:PySem.W.Frag} {H H':Hp} (e:Same H H'):∀a xs,bN K H a xs->bN K H' a xs:=fun a xs h=>e.seq h
theorem Kp.tups {H H':Hp} {r:Addr} {ys:List V} (e:Kp r H H') (hr:H r=some (.lst ys)):∀a xs,H a=some (HO.tup xs)->H' a=some (HO.tup xs):=fun a xs h=>e _ _ h (dX h hr (by intro z;cases z))
end L2
namespace L2
open PySem PySem.Spec PyProof.Rows
section
variable {X:Cx} {K:PySem.W.Frag}
theorem bh (h:X.K=K):IxR X (abw K):=by subst h;exact Vx
theorem aZ (h:X.K=K):IxR X (abv K):=by subst h;exact Zu
theorem uK (h:X.K=K):SlR X (abr K):=by subst h;exact Uy
theorem Lh (h:X.K=K):SlR X (abq K):=by subst h;exact Yq
theorem JZ (h:X.K=K):rZ X (compareOp .In) (rIn K false):=by subst h;exact Nu
def agA (K:PySem.W.Frag):List V->Hp->VK->Prop:=fun xs H Q=>∃(p:Addr) (ys:List V),xs=[.ref p]/\(bN K H p ys\/cN K H p ys)/\Q (.int ys.length) H
theorem bw (h:X.K=K):jy X (.builtin "len") (agA K):=by subst h;exact Gi
def U4 (K:PySem.W.Frag):List V->Hp->VK->Prop:=fun xs H Q=>∃(p:Addr) (ys:List V),xs=[.ref p]/\(bN K H p ys\/cN K H p ys) /\ ∀l,H l=none->Q (.ref l) (upd H l (.lst ys))
theorem dH (h:X.K=K):jy X (.type "list") (U4 K):=by subst h;exact Gh
def abz (K:PySem.W.Frag):List V->Hp->VK->Prop:=fun xs H Q=>∃(p:Addr) (bs:List Bool),xs=[.ref p]/\bN K H p (bs.map V.bl)/\Q (.bl (bs.all id)) H
theorem iR (h:X.K=K) (hc:X.calm=true):jy X (.builtin "all") (abz K):=by subst h;exact Bd hc
theorem Fj (h:X.K=K) (hu:X.A.units+64<cLine):rZ X (compareOp .Eq) (U6 false):=by subst h;exact Y7 hu
theorem LC (h:X.K=K) (hu:X.A.units+64<cLine):rZ X (compareOp .NotEq) (U6 true):=by subst h;exact Y6 hu
theorem dW {tg l:Expr} {tl:TE} (h:X.K=K) (hl:PE X l tl):PI X tg l (Xa K tl):=by subst h;exact Ve hl
theorem Vd {tg l:Expr} {tl:TE} (h:X.K=K) (hl:PE X l tl):PI X tg l (ab2 K tl):=by subst h;exact YM hl
def agB (K:PySem.W.Frag) (c:Value) (cv:V):List V->Hp->VK->Prop:=fun xs H Q=>∃x t b,xs=[x,cv]/\vD K H x t/\PySem.W.kitOne K t c=some b/\Q (.bl b) H
theorem cX {c:Value} {cv:V} (h:X.K=K) (rc:RelV cv c):jy X (.builtin "isinstance") (agB K c cv):=by subst h;exact S5 rc
theorem jG {o e:Expr} {to:TE} {t:TA} {apos cpos:Pos} (h:X.K=K) (ho:PE X o to) (ha:PA X [e] t)
 (hbase:attributeBase o "append" X.env (eval o X.env)=eval o X.env:=by rfl)
 (hfew:((backTo cpos (starEach [e] X.env)).all (fun x=> !x.1)&&(backToKw cpos (keywordEach [] X.env)).all (fun x=>x.1.isSome)
   && decide (([e]:List Expr).length+([]:List Keyword).length+(if ([]:List Keyword).isEmpty then 0 else 1)<30))=true:=by rfl)
 (hline:(apos.endLine==cpos.line)=true:=by rfl) (hs:starEach [e] X.env=(false,eval e X.env)::starEach [] X.env:=by rfl) (hplain:(backTo cpos (starEach [] X.env)).any (·.1)=false:=by rfl):
 PE X (.Call (.Attribute o "append" apos) [e] [] cpos) (tBM K "list" Ln to t):=by
 subst h;exact WX PySem.F.plainAttrs_list PySem.F.slot_list_append PySem.F.type_list_append C_ ho ha hbase hfew hline hs hplain
end
end L2
namespace L2
open PySem
section
variable {K:PySem.W.Frag} {a D:Addr} {xs:List V} {g:TG} {tc:TT} {te:TE} {Q:VK} {σ0:St} {H1:Hp}
theorem jJ (Pv:Nat->St->Hp->Prop) (h0:Pv 0 σ0 (upd H1 D (.lst []))) (hl:∀i σ H,i<=xs.length->Pv i σ H->bN K H a xs)
 (hs:∀i x σ H,xs[i]? = some x->Pv i σ H->g x σ H fun σ2 H2=>tc σ2 H2 fun b H3=>
   if b=true then te σ2 H3 fun y H4=>∃acc,H4 D=some (.lst acc)/\acc.length<sizeLine/\Pv (i+1) σ2 (upd H4 D (.lst (acc++[y]))) else Pv (i+1) σ2 H3)
 (hd:∀σ H,Pv xs.length σ H->Q (.ref D) H):mz (Wj K a) g tc te Q D σ0 H1:=by
 refine ⟨fun i m σ H=>m=xs.length - i/\i<=xs.length/\Pv i σ H,⟨xs.length,by simp,Nat.zero_le _,h0⟩, ?_⟩;rintro i m σ H ⟨rfl,hi,p⟩;have q:=hl i σ H hi p
 by_cases hlt:i<xs.length
 ·refine .inr ⟨⟨xs,xs[i],q,by simp [hlt]⟩,Pv (i+1),fun σ' H' p'=>⟨xs.length - (i+1),by lia,rfl,hlt,p'⟩,fun x H' y=> ?_⟩
  obtain ⟨e,y⟩:=y;subst e;exact hs i x σ _ (y xs q) p
 ·have e:i=xs.length:=by lia
  subst e;exact .inl ⟨⟨xs,q,Nat.le_refl _⟩,hd σ H p⟩
theorem SQ (Pv:Nat->St->Hp->Prop) (h0:Pv 0 σ0 (upd H1 D (.lst []))) (hl:∀i σ H,i<=xs.length->Pv i σ H->cN K H a xs)
 (hs:∀i x σ H,xs[i]? = some x->Pv i σ H->g x σ H fun σ2 H2=>tc σ2 H2 fun b H3=>
   if b=true then te σ2 H3 fun y H4=>∃acc,H4 D=some (.lst acc)/\acc.length<sizeLine/\Pv (i+1) σ2 (upd H4 D (.lst (acc++[y]))) else Pv (i+1) σ2 H3)
 (hd:∀σ H,Pv xs.length σ H->Q (.ref D) H):mz (Itt K a) g tc te Q D σ0 H1:=by
 refine ⟨fun i m σ H=>m=xs.length - i/\i<=xs.length/\Pv i σ H,⟨xs.length,by simp,Nat.zero_le _,h0⟩, ?_⟩;rintro i m σ H ⟨rfl,hi,p⟩;have q:=hl i σ H hi p
 by_cases hlt:i<xs.length
 ·refine .inr ⟨⟨xs,xs[i],q,by simp [hlt]⟩,Pv (i+1),fun σ' H' p'=>⟨xs.length - (i+1),by lia,rfl,hlt,p'⟩,fun x H' y=> ?_⟩
  obtain ⟨e,y⟩:=y;subst e;exact hs i x σ _ (y xs q) p
 ·have e:i=xs.length:=by lia
  subst e;exact .inl ⟨⟨xs,q,Nat.le_refl _⟩,hd σ H p⟩
theorem uf {lo:Int} {n:Nat} (Pv:Nat->St->Hp->Prop) (h0:Pv 0 σ0 (upd H1 D (.lst [])))
 (hs:∀i σ H,i<n->Pv i σ H->g (.int (lo+i)) σ H fun σ2 H2=>tc σ2 H2 fun b H3=>
   if b=true then te σ2 H3 fun y H4=>∃acc,H4 D=some (.lst acc)/\acc.length<sizeLine/\Pv (i+1) σ2 (upd H4 D (.lst (acc++[y]))) else Pv (i+1) σ2 H3)
 (hd:∀σ H,Pv n σ H->Q (.ref D) H):mz (Uc lo n) g tc te Q D σ0 H1:=by
 refine ⟨fun i m σ H=>m=n - i/\i<=n/\Pv i σ H,⟨n,by simp,Nat.zero_le _,h0⟩, ?_⟩;rintro i m σ H ⟨rfl,hi,p⟩
 by_cases hlt:i<n
 ·refine .inr ⟨hlt,Pv (i+1),fun σ' H' p'=>⟨n - (i+1),by lia,rfl,hlt,p'⟩,fun x H' y=> ?_⟩
  obtain ⟨e,y⟩:=y;subst e y;exact hs i σ _ hlt p
 ·have e:i=n:=by lia
  subst e;exact .inl ⟨Nat.le_refl _,hd σ H p⟩
end
end L2
set_option Elab.async false
set_option linter.all false
set_option maxRecDepth 100000
set_option maxHeartbeats 4000000
namespace L2
open PySem PySem.Spec PyProof.Rows
section
variable {α:Type} (f:α->PyData)
theorem A_:∀(l:List α),(∀x∈l,(f x).canLay0=true)->PyData.canLayAll0 (l.map f)=true
 | [],_=>rfl
 | a::l,h=>by
   show (PyData.canLay0 (f a)&&PyData.canLayAll0 (l.map f))=true;rw [h a List.mem_cons_self,A_ l fun x hx=>h x (List.mem_cons_of_mem _ hx)];rfl
theorem vh (k:Nat):∀(l:List α),(∀x∈l,(f x).depth<=k)->PyData.depthAll (l.map f)<=k
 | [],_=>Nat.zero_le _
 | a::l,h=>by
   show max (PyData.depth (f a)) (PyData.depthAll (l.map f))<=k;exact Nat.max_le.mpr ⟨h a List.mem_cons_self,vh k l fun x hx=>h x (List.mem_cons_of_mem _ hx)⟩
theorem wY {l:List α} (k:Nat) (hk:k<64) (h1:∀x∈l,(f x).canLay0=true) (h2:∀x∈l,(f x).depth<=k):SeqAt.shaped (.list (l.map f))=true:=by
 unfold SeqAt.shaped;have e1:PyData.canLay0 (.list (l.map f))=true:=A_ f l h1
 have e2:PyData.depth (.list (l.map f))<=64:=by
  show PyData.depthAll (l.map f)+1<=64;have:=vh f k l h2;lia
 rw [e1,decide_eq_true e2];rfl
theorem Aw [DecidableEq α] (h:∀x y,PyData.eqv (f x) (f y)=decide (x=y)):∀(l m:List α),PyData.eqvAll (l.map f) (m.map f)=decide (l=m)
 | [],[]=>rfl
 | [],_::_=>by simp only [List.map_nil,List.map_cons,PyData.eqvAll];exact (decide_eq_false (by intro z;cases z)).symm
 | _::_,[]=>by simp only [List.map_nil,List.map_cons,PyData.eqvAll];exact (decide_eq_false (by intro z;cases z)).symm
 | a::l,b::m=>by
   simp only [List.map_cons,PyData.eqvAll];rw [h a b,Aw h l m]
   by_cases e1:a=b
   ·subst e1
    by_cases e2:l=m
    ·subst e2;simp
    ·simp [e2]
   ·simp [e1]
theorem qJ [DecidableEq α] (h:∀x y,PyData.eqv (f x) (f y)=decide (x=y)) (l m:List α):PyData.eqv (.list (l.map f)) (.list (m.map f))=decide (l=m):=by
 simp only [PyData.eqv];exact Aw f h l m
end
theorem oh {H:Hp} {a:Addr} {vs:List V} {ds:List PyData} (h:H a=some (.lst vs)) (d:aR H vs ds):Dat H (.ref a) (.list ds):=by
 simp only [Dat];exact ⟨a,vs,rfl,h,d⟩
theorem xG (K:PySem.W.Frag):PySem.W.kitOne K (.type "int") (.type "int")=some true:=rfl
theorem pK (K:PySem.W.Frag):PySem.W.kitOne K (.type "int") (.type "bool")=some false:=by kernel_rfl
theorem jU (K:PySem.W.Frag):PySem.W.kitOne K (.type "list") (.type "list")=some true:=rfl
theorem iQ (K:PySem.W.Frag):PySem.W.kitOne K (.type "tuple") (.type "tuple")=some true:=rfl
theorem ni (K:PySem.W.Frag):PySem.W.kitOne K (.type "bool") (.type "bool")=some true:=rfl
end L2
namespace L2
open PySem
theorem SJ (xs:List V) (k:Nat):qK xs none (some (k:Int))=xs.take k:=by
 unfold qK;rw [HT.zU,HT.E_,List.drop_zero,Nat.sub_zero]
 by_cases h:k<=xs.length
 ·rw [Nat.min_eq_left h]
 ·rw [Nat.min_eq_right (by lia),List.take_of_length_le (Nat.le_refl _),List.take_of_length_le (by lia)]
theorem IW (xs:List V) (k:Nat):qK xs (some (k:Int)) none=xs.drop k:=by
 unfold qK;rw [HT.zU,HT.E_]
 by_cases h:k<=xs.length
 ·rw [Nat.min_eq_left h,List.take_of_length_le (by rw [List.length_drop];exact Nat.le_refl _)]
 ·rw [Nat.min_eq_right (by lia),Nat.sub_self,List.take_zero,List.drop_of_length_le (by lia)]
end L2
set_option Elab.async false
set_option linter.all false
set_option maxRecDepth 100000
set_option maxHeartbeats 4000000
namespace PySem.W
open PySem PySem.Spec PySem.Calls PyProof.Rows
theorem VR:builtinKind "BaseException.__getattribute__" = some .slot:=by decide +kernel
theorem RW:splitId "BaseException.__getattribute__" = some ("BaseException","__getattribute__"):=by decide +kernel
section
variable {prog:Program} {w:World} {A:Around} {E:Value->Shared->Prop} {s:Shared} {K:Frag} {x D:Addr} {ox:Obj} {odo:Option Obj} {name:Str}
theorem Dt {M:Model} {nameV:Value} {Q:Unit->Shared->Prop} (X:K.In s.heap) (I:InstAt s.heap x ox D odo) (hB:mroIn K D (.type "BaseException")=some true) (hq:Q () s):
 wpAny M A (checkBuiltinCall "BaseException.__getattribute__" ⟨[.ref x,nameV],[]⟩) Q E s:=by
 obtain ⟨hh,g,d,t,os⟩:=s;have L0:=I.type (M:=M);have L3:=looks_mroIn (M:=M) X hB;have ha:=F.args_bexc_ga (.ref x) nameV;simp only [checkBuiltinCall,VR,RW];unfold isInstance
 repeat (first |lk|wp_step)
 all_goals first |exact hq|trace_state
theorem R_ {Q:Option Value->Shared->Prop} {gv a:Value} (X:K.In s.heap) (I:InstAt s.heap x ox D odo) (hga:findIn K (.ref D) "__getattribute__" = some (some (.builtin "BaseException.__getattribute__")))
 (hk:findIn K (.ref D) "__getattr__" = some none) (hB:mroIn K D (.type "BaseException")=some true) (hf:findObj K D odo name=some (.bind gv a))
 (FB:Slot "Exception" "__getattribute__" "BaseException.__getattribute__")
 (h:∀A',codeAny (model prog w) A' (.call gv ⟨[a,.ref x,.ref D],[]⟩) (fun r s'=>match r with | .ok (.ret v)=>wpAny (model prog w) A (handedOut v) (fun v s''=>Q (some v) s'') (fun _ _=>False) s'|_=>False) {s with toks:=s.toks+1}):
 wpAny (model prog w) A (getAttr? (.ref x) name) Q E s:=by
 obtain ⟨hh,g,d,t,os⟩:=s;have L0:=I.type (M:=model prog w);have L1:=looks_findIn (M:=model prog w) X hga;have L2:=looks_findIn (M:=model prog w) X hk;have L4:=looks_find (M:=model prog w) X I hf;have hx2:(Value.builtin "BaseException.__getattribute__" == Value.builtin "object.__getattribute__")=false:=by decide +kernel
 have f3:=FB.bind (.ref x);unfold getAttr? getAttrBy? getAttrBy;refine wpAny_bind (wpAny_mkText (wpAny_bind (wpAny_attempt (wpAny_holding (wpAny_bind (L0.at (wpAny_bind (L1.at ?_))))))));simp only [hx2,Bool.and_false,Bool.false_eq_true,if_false];unfold getAttrByItsOwn hookBefore;show wpAny _ _ (typeLookup (.ref D) "__getattr__" >>= _) _ _ _;refine wpAny_bind (L2.at ?_);refine wpAny_bind (wpAny_attempt (wpAny_holding ?_));unfold callGetattribute boundAndCalled;rw [if_neg (by decide)];refine wpAny_bind (wpAny_of_eq f3 ?_);refine wpAny_call (codeAny_call_builtin FB.plain F.entry_bexc_ga (Dt (s:=⟨hh,g,d,t+1,os⟩) X I hB ?_));show wpAny _ _ (Builtin.«object.__getattribute__» ⟨[.ref x,.str name t],[]⟩) _ _ _;unfold Builtin.«object.__getattribute__»;refine wpAny_bind (wpAny_pure ?_);refine wpAny_bind (wpAny_pure ?_);refine wpAny_bind (L0.at (wpAny_bind (L4.at ?_)));show wpAny _ _ (Builtin.ObjectAttr.bindTo gv a (.ref x) (.ref D)) _ _ _;unfold Builtin.ObjectAttr.bindTo;show wpAny _ _ (holding [a] (call gv [a,.ref x,.ref D]) >>= fun v=>ret v) _ _ _;refine wpAny_bind (wpAny_holding (wpAny_call (codeAny_mono (h _) fun r s' hr=> ?_)))
 match r,hr with
 | .ok (.ret v),hr=>
   refine wpAny_pure ?_;exact wpAny_mono hr (fun v s'' q=>wpAny_pure q) fun _ _ z=>z.elim
end
theorem R8:Slot "Exception" "__getattribute__" "BaseException.__getattribute__" :=F.attr_Exception.ga
theorem Ce {K:Frag} {C:Addr} {od:Option Obj} {name:Str} {a g:Value} (hc:(clsIn K C).isSome=true) (ha:findIn K (.ref C) name=some (some a)) (hg:specialIn K a "__get__" = some (some g)) (ht:takesIn K a=some true):findObj K C od name=some (.bind g a):=by
 obtain ⟨cd,hc⟩:=Option.isSome_iff_exists.mp hc;unfold findObj;rw [hc,Option.bind_some,ha,Option.bind_some];simp [hg,ht]
theorem Oq {prog:Program} {w:World} {A:Around} {E:Value->Shared->Prop} {s:Shared} {K:Frag} {x D:Addr} {ox:Obj} {odo:Option Obj} {Q:Option Value->Shared->Prop} (X:K.In s.heap) (I:InstAt s.heap x ox D odo)
 (hga:findIn K (.ref D) "__getattribute__" = some (some (.builtin "BaseException.__getattribute__"))) (hk:findIn K (.ref D) "__getattr__" = some none) (hB:mroIn K D (.type "BaseException")=some true)
 (hc:(clsIn K D).isSome=true) (ha:findIn K (.ref D) "__class__" = some (some (.builtin "object.__class__")))
 (hn:specialIn K (.builtin "object.__class__") "__get__" = some (some (.builtin "getset_descriptor.__get__"))) (htk:takesIn K (.builtin "object.__class__")=some true) (hm:mroIn K D (.type "object")=some true)
 (h:Q (some (.ref D)) {s with toks:=s.toks+1}):wpAny (model prog w) A (getAttr? (.ref x) "__class__") Q E s:=by
 have hf:findObj K D odo "__class__" = some (.bind (.builtin "getset_descriptor.__get__") (.builtin "object.__class__")):=Ce hc ha hn htk;exact R_ X I hga hk hB hf R8 fun A'=>class_get (s:={s with toks:=s.toks+1}) X I hm (handed_on rfl h)
structure K3 (K:Frag) (D:Addr):Prop where
 hga:findIn K (.ref D) "__getattribute__" = some (some (.builtin "BaseException.__getattribute__"))
 hk:findIn K (.ref D) "__getattr__" = some none
 hB:mroIn K D (.type "BaseException")=some true
 hc:(clsIn K D).isSome=true
 ha:findIn K (.ref D) "__class__" = some (some (.builtin "object.__class__"))
 hn:specialIn K (.builtin "object.__class__") "__get__" = some (some (.builtin "getset_descriptor.__get__"))
 htk:takesIn K (.builtin "object.__class__")=some true
 hm:mroIn K D (.type "object")=some true
theorem Ig {K:Frag} {x D:Addr} (c:K3 K D):KitX K (.ref x) (.ref D) (fun h=>∃ox odo,InstAt h x ox D odo) where
 ty:=fun _ _ _ ⟨_,_,I⟩=>I.type
 it:=fun _ _ X _=>by
  have hc:=c.hc;unfold clsIn at hc;split at hc
  ·rename_i c' d' cd' sl' ho
   intro A' Q' E' s' k q;unfold isType loadHead;exact wpAny_bind (wpAny_loadPart (k _ _ (X _ _ ho)) (wpAny_pure q))
  ·cases hc
 ne:=fun h tp dd its n sl X htp=>by
  have hc:=c.hc;refine Bool.eq_false_iff.mpr fun q=> ?_;have e:D=tp:=Value.ref.inj (beq_iff_eq.mp q);subst e;unfold clsIn at hc;split at hc
  ·rename_i c' d' cd' sl' ho
   have z:=(X _ _ ho).symm.trans htp;cases z
  ·cases hc
 ca:=fun X ⟨_,_,I⟩ k=>Oq X I c.hga c.hk c.hB c.hc c.ha c.hn c.htk c.hm k
end PySem.W
set_option Elab.async false
set_option linter.all false
set_option maxRecDepth 100000
set_option maxHeartbeats 4000000
namespace L2
open PySem PySem.Spec PyProof.Rows
def wQ (h:Heap) (e:Addr) (cls:Value) (dx:Option Addr) (lo:Addr->Prop):Option Value->Prop
 | none=>∃oe vs,h.get? e=some oe/\oe.cls=cls/\oe.dict=dx/\oe.data = .fields vs/\vs[1]? = some .none
 | some f=>∃oe vs T oT ts,h.get? e=some oe/\oe.cls=cls/\oe.dict=dx/\oe.data = .fields vs/\vs[1]? = some (.ref T)/\lo T/\T≠e/\h.get? T=some oT/\oT.data = .fields ts/\ts[3]? = some f
theorem wQ.there {h:Heap} {e:Addr} {cls:Value} {dx:Option Addr} {lo:Addr->Prop} {f:Option Value} (x:wQ h e cls dx lo f):∃oe vs,h.get? e=some oe/\oe.cls=cls/\oe.dict=dx/\oe.data = .fields vs:=by
 cases f with
 | none=>obtain ⟨oe,vs,a,b,c,d,_⟩:=x;exact ⟨oe,vs,a,b,c,d⟩
 | some f=>obtain ⟨oe,vs,_,_,_,a,b,c,d,_⟩:=x;exact ⟨oe,vs,a,b,c,d⟩
section
variable {M:Model} {A:Around} {E:Value->Shared->Prop} {s:Shared} {base:Heap} {env:Env} {outer:List Env} {L e:Addr}
structure qQ (fr:List Addr) (e:Addr) (lo:Addr->Prop) (h h':Heap):Prop where
 keep:∀b o,h.get? b=some o->b∉fr->b≠e -> ¬lo b->h'.get? b=some o
 slot:∀b o,h.get? b=some o->b∈fr->b≠e -> ¬lo b -> ∃sl,h'.get? b=some {o with slots:=sl}
 there:∀b o,h.get? b=some o -> ∃o',h'.get? b=some o'
theorem qQ.trans {fr:List Addr} {lo:Addr->Prop} {h h1 h2:Heap} (a:qQ fr e lo h h1) (b:qQ fr e lo h1 h2):qQ fr e lo h h2 where
 keep:=fun c o q n1 n2 n3=>b.keep c o (a.keep c o q n1 n2 n3) n1 n2 n3
 slot:=fun c o q n1 n2 n3=>by
  obtain ⟨sl,q1⟩:=a.slot c o q n1 n2 n3;obtain ⟨sl2,q2⟩:=b.slot c _ q1 n1 n2 n3;exact ⟨sl2,q2⟩
 there:=fun c o q=>by
  obtain ⟨o1,q1⟩:=a.there c o q;exact b.there c o1 q1
theorem o_ {h:Heap} {a:Addr} {o:Obj} {vs:Array Value} (q:h.get? a=some o) (d:o.data = .fields vs) (i:Nat) (v:Value):
 (h.update a (Obj.mapFields (·.setIfInBounds i v))).get? a=some (Obj.mapFields (·.setIfInBounds i v) o)/\(Obj.mapFields (·.setIfInBounds i v) o).data = .fields (vs.setIfInBounds i v) /\
   (Obj.mapFields (·.setIfInBounds i v) o).cls=o.cls/\(Obj.mapFields (·.setIfInBounds i v) o).dict=o.dict:=by
 have d2:=Obj.data_mapFields d (·.setIfInBounds i v);refine ⟨Heap.get?_update_self _ q (Obj.isFreed_of_fields d2),d2,Obj.cls_mapFields _ _, ?_⟩;obtain ⟨c,dd,dt,sl⟩:=o;simp only at d;subst d;rfl
theorem PX {oe:Obj} {vs:Array Value} {head:Value} {hadNext:Bool} {cls:Value} {dx:Option Addr} {lo:Addr->Prop} {Q:Unit->Shared->Prop} (hfr:A.frames=some (env::outer)) (hl:s.heap.FunFrames base (env::outer)) (hf:env.frame=some L)
 (he:s.heap.get? e=some oe) (hd:oe.data = .fields vs) (hsz:1<vs.size) (hc:oe.cls=cls) (hdx:oe.dict=dx) (hlo:∀T,s.heap.get? T=none->lo T)
 (h:∀h',qQ (frs (env::outer)) e lo s.heap h'->wQ h' e cls dx lo (some (rawInt L))->Q () {s with heap:=h'}):
 wpAny M A (do let a ←frameOf env;let pl ←entryPlaceOf L hadNext;let b ←EntryCells.newEntry head a .none (rawInt L) .none pl;setField (.ref e) 1 b) Q E s:=by
 have nfr:e∉frs (env::outer):=fun hm=>by
  obtain ⟨_,o,q,nf⟩:=hl.mem hm;rw [he] at q;cases q;exact nf vs hd
 refine wpAny_bind (wpAny_frameOf_fun hfr hl hf fun h1 hs1=> ?_);refine wpAny_bind (wpAny_entryPlaceOf fun pl hpl=> ?_);unfold EntryCells.newEntry newFields;refine wpAny_bind (wpAny_newObj_type ?_ (hpl.sizeOk5 _ _ _ _ _));generalize hob:({cls:= .type "traceback",dict:=none,data:= .fields ([head,.ref L,.none,rawInt L,.none]++(if pl.isEmpty then List.replicate 6 Value.none else pl)).toArray}:Obj)=ob;have q1:h1.get? e=some oe:=(hs1.2.1 e nfr).trans he;have q2:=Heap.get?_push_of_some (h:=h1) ob q1;have nTe:h1.objs.size≠e:=Nat.ne_of_gt (Heap.lt_size q1);have sizes:h1.objs.size=s.heap.objs.size:=hs1.1;have newT:s.heap.get? h1.objs.size=none:=Heap.get?_none_of_le (by rw [sizes];exact Nat.le_refl _);refine wpAny_setField q2 hd hsz (h _ ⟨fun b o q n1 n2 n3=> ?_,fun b o q n1 n2 n3=> ?_,fun b o q=> ?_⟩ ?_)
 ·rw [Heap.get?_update_other _ _ (Ne.symm n2)]
  exact Heap.get?_push_of_some _ ((hs1.2.1 b n1).trans q)
 ·obtain ⟨sl,q3⟩:=hs1.2.2 b o q
  refine ⟨sl, ?_⟩;rw [Heap.get?_update_other _ _ (Ne.symm n2)];exact Heap.get?_push_of_some _ q3
 ·obtain ⟨sl,q3⟩:=hs1.2.2 b o q
  by_cases hb:b=e
  ·subst hb
   exact ⟨_,(o_ q2 hd 1 _).1⟩
  ·refine ⟨{o with slots:=sl}, ?_⟩
   rw [Heap.get?_update_other _ _ (Ne.symm hb)];exact Heap.get?_push_of_some _ q3
 ·obtain ⟨u1,u2,u3,u4⟩:=o_ q2 hd 1 (Value.ref h1.objs.size)
  refine ⟨_,_,h1.objs.size,ob,_,u1,u3.trans hc,u4.trans hdx,u2,by simp [hsz],hlo _ newT,nTe, ?_,by rw [←hob], ?_⟩
  ·rw [Heap.get?_update_other _ _ (Ne.symm nTe)]
   exact Heap.get?_push_size _ (by rw [←hob];rfl)
  ·first |(simp;done)|(rcases hpl with rfl|⟨_,_,_,_,_,_,_,rfl⟩<;>simp)
theorem Wr {cls:Value} {dx:Option Addr} {lo:Addr->Prop} {Q:Unit->Shared->Prop} {fl:Option Value} (hfl:fl=none\/fl=some .none) (hfr:A.frames=some (env::outer)) (hl:s.heap.FunFrames base (env::outer)) (hf:env.frame=some L)
 (x:wQ s.heap e cls dx lo fl) (hlo:∀T,s.heap.get? T=none->lo T)
 (h:∀h',qQ (frs (env::outer)) e lo s.heap h'->wQ h' e cls dx lo (some (rawInt L))->Q () {s with heap:=h'}):wpAny M A (noteFrame (.ref e) env) Q E s:=by
 unfold noteFrame;simp only [hf];rcases hfl with rfl|rfl
 ·obtain ⟨oe,vs,he,hc,hdx,hd,h1⟩:=x
  refine wpAny_bind (wpAny_field he hd h1 ?_);rw [if_neg (by decide)];exact PX hfr hl hf he hd (Array.getElem?_eq_some_iff.mp h1).1 hc hdx hlo h
 ·obtain ⟨oe,vs,T,oT,ts,he,hc,hdx,hd,h1,hT,nT,Ub,hdT,h3⟩:=x
  refine wpAny_bind (wpAny_field he hd h1 ?_);rw [if_pos (show (Value.ref T != Value.none)=true from by simp)];refine wpAny_bind (wpAny_field Ub hdT h3 ?_);rw [if_neg (show ¬((Value.none==rawInt L)=true) from by simp [rawInt])];have hs3:3<ts.size:=(Array.getElem?_eq_some_iff.mp h3).1;refine wpAny_bind (wpAny_setField Ub hdT hs3 ?_);have oth:∀b,b≠T->(s.heap.update T (Obj.mapFields (·.setIfInBounds 3 Value.none))).get? b=s.heap.get? b:=fun b hb=>Heap.get?_update_other _ _ (Ne.symm hb);obtain ⟨u1,u2,u3,u4⟩:=o_ Ub hdT 3 Value.none
  have n0:qQ (frs (env::outer)) e lo s.heap (s.heap.update T (Obj.mapFields (·.setIfInBounds 3 Value.none))):=by
   have nb:∀b,¬lo b->b≠T:=fun b hb z=>hb (by rw [z];exact hT);refine ⟨fun b o q _ _ n3=>(oth b (nb b n3)).trans q,fun b o q _ _ n3=>⟨o.slots,(oth b (nb b n3)).trans q⟩,fun b o q=> ?_⟩
   by_cases hb:b=T
   ·subst hb;exact ⟨_,u1⟩
   ·exact ⟨o,(oth b hb).trans q⟩
  have ffs:(s.heap.update T (Obj.mapFields (·.setIfInBounds 3 Value.none))).FunFrames base (env::outer):=hl.of_keeps fun b o q nf=>by
   by_cases hb:b=T
   ·subst hb;rw [Ub] at q;cases q;exact absurd hdT (nf ts)
   ·exact ⟨o,(oth b hb).trans q,rfl⟩
  refine PX (s:={s with heap:=s.heap.update T (Obj.mapFields (·.setIfInBounds 3 Value.none))}) hfr ffs hf ((oth e (Ne.symm nT)).trans he) hd (Array.getElem?_eq_some_iff.mp h1).1 hc hdx (fun T' z=> ?_) fun h' n1 x1=>h h' (n0.trans n1) x1
  by_cases hb:T'=T
  ·rw [hb];exact hT
  ·exact hlo T' ((oth T' hb).symm.trans z)
theorem PJ {cls:Value} {dx:Option Addr} {lo:Addr->Prop} {Q:Unit->Shared->Prop} {fr:List Addr} {f:Value} (x:wQ s.heap e cls dx lo (some f))
 (h:∀h',qQ fr e lo s.heap h'->wQ h' e cls dx lo (some .none)->Q () {s with heap:=h'}):wpAny M A (setFlight (.ref e) none) Q E s:=by
 obtain ⟨oe,vs,T,oT,ts,he,hc,hdx,hd,h1,hT,nT,Ub,hdT,h3⟩:=x;have hs3:3<ts.size:=(Array.getElem?_eq_some_iff.mp h3).1;unfold setFlight;refine wpAny_bind (wpAny_field he hd h1 ?_);rw [if_pos (show (Value.ref T != Value.none)=true from by simp)];have oth:∀b,b≠T->(s.heap.update T (Obj.mapFields (·.setIfInBounds 3 Value.none))).get? b=s.heap.get? b:=fun b hb=>Heap.get?_update_other _ _ (Ne.symm hb);obtain ⟨u1,u2,u3,u4⟩:=o_ Ub hdT 3 Value.none;have nb:∀b,¬lo b->b≠T:=fun b hb z=>hb (by rw [z];exact hT);refine wpAny_setField Ub hdT hs3 (h _ ⟨fun b o q _ _ n3=>(oth b (nb b n3)).trans q,fun b o q _ _ n3=>⟨o.slots,(oth b (nb b n3)).trans q⟩,fun b o q=> ?_⟩ ?_)
 ·by_cases hb:b=T
  ·subst hb;exact ⟨_,u1⟩
  ·exact ⟨o,(oth b hb).trans q⟩
 ·exact ⟨oe,vs,T,_,_,(oth e (Ne.symm nT)).trans he,hc,hdx,hd,h1,hT,nT,u1,u2,by simp [hs3]⟩
end
section
variable {X:Cx} {pins:List (Addr×Obj)} {σ:St} {H:Hp} {s:Shared} {e:Addr}
theorem dg.there {P:Program} {w:World} {H:Hp} {h:Heap} {a:Addr} {o:HO} (x:dg P w H h a o):∃ob,h.get? a=some ob:=by
 induction o with
 | lst xs=>obtain ⟨_,_,_,_,q⟩:=x;exact ⟨_,q⟩
 | tup xs=>obtain ⟨_,_,_,ob,q,_⟩:=x;exact ⟨ob,q⟩
 | dK kvs=>obtain ⟨_,_,_,_,ob,_,_,q,_⟩:=x;exact ⟨ob,q⟩
 | dT kvs=>obtain ⟨_,_,_,_,ob,_,_,q,_⟩:=x;exact ⟨ob,q⟩
 | set S n=>obtain ⟨ob,_,_,_,q,_⟩:=x;exact ⟨ob,q⟩
 | ins C dx fs=>obtain ⟨_,_,_,q,_⟩:=x;exact ⟨_,q⟩
 | own y=>exact x
 | xd fs=>obtain ⟨_,⟨ob,_,_,q,_⟩,_⟩:=x;exact ⟨ob,q⟩
 | rng lo hi=>obtain ⟨_,_,_,q⟩:=x;exact ⟨_,q⟩
 | Io ob u ih=>exact ⟨ob,x.1⟩
 | Wx ps=>exact ⟨_,x⟩
 | met f y=>exact ⟨_,x⟩
 | ext φ=>exact x.2.1
def D_ (X:Cx) (pins:List (Addr×Obj)) (H:Hp) (b:Addr):Prop:=
 H b=none/\b≠X.env.locals/\b∉X.fs/\X.s₀.heap.get? b=none/\(∀x c,X.env.cells.lookup x=some c->c≠b) /\ ∀p∈X.pn++pins,p.1≠b
theorem Inv.xfp (I:Inv X pins σ H s) (hx:X.ex=[]) {b:Addr} (hb:s.heap.get? b=none):D_ X pins H b:=by
 refine ⟨?_,fun z=> ?_,fun z=> ?_, ?_,fun x c q z=> ?_,fun p hp z=> ?_⟩
 ·cases q:H b with
  | none=>rfl
  | some o=>
    obtain ⟨ob,r⟩:=(I.hok b o q).there;rw [hb] at r;cases r
 ·obtain ⟨m,⟨o,_,_,r,_⟩,_⟩:=I.loc
  rw [←z,hb] at r;cases r
 ·obtain ⟨_,o,r,_⟩:=I.pZ.mem z
  rw [hb] at r;cases r
 ·cases q:X.s₀.heap.get? b with
  | none=>rfl
  | some o=>
    obtain ⟨o',r⟩:=I.base.there b o q (by rw [hx];simp);rw [hb] at r;cases r
 ·obtain ⟨v,o,r,_⟩:=I.cell x c q
  rw [z,hb] at r;cases r
 ·obtain ⟨r,_⟩:=I.pin p hp
  rw [z,hb] at r;cases r
theorem Inv.noted {lo:Addr->Prop} {h':Heap} (I:Inv X pins σ H s) (n:qQ (frs X.stack) e lo s.heap h') (hlo:∀b,(b=e\/lo b)->D_ X pins H b\/s.heap.get? b=none):Inv X pins σ H {s with heap:=h'}:=by
 have off:∀b o,s.heap.get? b=some o->(¬D_ X pins H b)->b≠e /\ ¬lo b:=fun b o q nx=>
  ⟨fun z=>(hlo b (.inl z)).elim nx fun r=>(by rw [r] at q;cases q),fun z=>(hlo b (.inr z)).elim nx fun r=>(by rw [r] at q;cases q)⟩
 have any:∀b o,s.heap.get? b=some o->(¬D_ X pins H b) -> ∃sl,h'.get? b=some {o with slots:=sl}:=fun b o q nx=>by
  obtain ⟨n1,n2⟩:=off b o q nx
  by_cases hb:b∈frs X.stack
  ·exact n.slot b o q hb n1 n2
  ·exact ⟨o.slots,n.keep b o q hb n1 n2⟩
 have s0:∀b o,X.s₀.heap.get? b=some o -> ¬D_ X pins H b:=fun b o q x=>by rw [x.2.2.2.1] at q;cases q
 have W6:∀b o,X.s₀.heap.get? b=some o->b≠X.env.locals:=fun b o q=>Nat.ne_of_lt (Nat.lt_of_lt_of_le (Heap.lt_size q) I.ok.above);have nst:∀b,b≠X.env.locals->b∉X.fs->b∉frs X.stack:=fun b n1 n2 z=>(List.mem_cons.mp (I.zE b z)).elim n1 n2;have TX:∀b o,H b=some o -> ¬D_ X pins H b:=fun b o q x=>by rw [x.1] at q;cases q
 have aaW:∀b o,H b=some o->b∉frs X.stack:=fun b o q z=>by rw [I.Ej b z] at q;cases q
 have cl:∀x c,X.env.cells.lookup x=some c -> ∀v,s.heap.IsCell c v->h'.IsCell c v:=fun x c q v ⟨o,ho,hd⟩=>by
  obtain ⟨sl,r⟩:=any c o ho fun z=>z.2.2.2.2.1 x c q rfl;exact ⟨_,r,hd⟩
 refine ⟨I.ok,I.os,I.bare,⟨fun b o q nn hb hx=> ?_,fun b o q nn hb hx=> ?_,I.base.free,fun b o q hx=> ?_,I.base.tups,I.base.vf,I.base.vR⟩, ?_,fun x c q=> ?_,I.free,I.jx,fun p hp=> ?_,fun a o q=> ?_,I.len⟩
 ·have q1:=I.base.keep b o q nn hb hx
  obtain ⟨n1,n2⟩:=off b o q1 (s0 b o q);exact n.keep b o q1 (nst b (W6 b o q) hb) n1 n2
 ·obtain ⟨sl,q1⟩:=I.base.slot b o q nn hb hx
  obtain ⟨sl2,q2⟩:=any b _ q1 (s0 b o q);exact ⟨sl2,q2⟩
 ·obtain ⟨o1,q1⟩:=I.base.there b o q hx
  exact n.there b o1 q1
 ·obtain ⟨m,⟨ob,es,ep,ho,r⟩,hl⟩:=I.loc
  obtain ⟨sl,q1⟩:=any _ ob ho fun z=>z.2.1 rfl;refine ⟨m,⟨_,es,ep,q1,r⟩,fun i x v e1 e2 e3=> ?_⟩;obtain ⟨u,ru,l⟩:=hl i x v e1 e2 e3;refine ⟨u,ru, ?_⟩;rcases l with l|⟨k,c,hc,z⟩
  ·exact .inl l
  ·exact .inr ⟨k,c,hc,cl x c hc _ z⟩
 ·obtain ⟨v,z⟩:=I.cell x c q
  exact ⟨v,cl x c q v z⟩
 ·obtain ⟨q,nn,n1,n2,d⟩:=I.pin p hp
  obtain ⟨m1,m2⟩:=off p.1 p.2 q fun z=>z.2.2.2.2.2 p hp rfl;exact ⟨n.keep p.1 p.2 q (nst p.1 n1 n2) m1 m2,nn,n1,n2,d⟩
 ·refine (I.hok a o q).stay (fun b u hb r=> ?_) (fun _ z=>z) fun _ _ z=>z
  rcases hb with rfl|hb
  ·obtain ⟨m1,m2⟩:=off b u r (TX b o q)
   exact n.keep b u r (aaW b o q) m1 m2
  ·obtain ⟨m1,m2⟩:=off b u r (TX b _ hb)
   exact n.keep b u r (aaW b _ hb) m1 m2
def vI (P:Program) (w:World):Pj:=fun outer H s E ev s'=>∃(e:Addr) (cls:Value) (dx:Option Addr) (H':Hp),ev = .ref e/\s'.os=s.os/\AllBare s'.gens/\Un (frs outer) [] H H' s.heap s'.heap/\rN P w H' s'.heap /\
 s.heap.get? e=none/\H' e=none/\wQ s'.heap e cls dx (fun T=>s.heap.get? T=none/\H' T=none) (some .none)/\E cls dx H'
def Rz (X:Cx) (E:St->XK):Prop:=∀(pins:List (Addr×Obj)) (σ:St) (H:Hp) (s:Shared) (e:Addr) (cls:Value) (dx:Option Addr) (fl:Option Value),(fl=none\/fl=some .none)->Inv X pins σ H s->D_ X pins H e ->
 wQ s.heap e cls dx (D_ X pins H) fl->E σ cls dx H->X.xe (.ref e) s
theorem wQ.imp {h:Heap} {e:Addr} {cls:Value} {dx:Option Addr} {lo lo':Addr->Prop} {f:Option Value} (x:wQ h e cls dx lo f) (k:∀T,(∃o,h.get? T=some o)->lo T->lo' T):wQ h e cls dx lo' f:=by
 cases f with
 | none=>exact x
 | some f=>
   obtain ⟨oe,vs,T,oT,ts,he,hc,hdx,hd,h1,hT,nT,Ub,r⟩:=x;exact ⟨oe,vs,T,oT,ts,he,hc,hdx,hd,h1,k T ⟨oT,Ub⟩ hT,nT,Ub,r⟩
theorem Ly {E:St->XK} {σ:St} (hx:X.ex=[]) (R:Rz X E) {pins:List (Addr×Obj)} {H:Hp} {s s':Shared} {ev:Value} (I:Inv X pins σ H s) (c:vI X.prog X.w X.stack H s (E σ) ev s'):X.xe ev s':=by
 obtain ⟨e,cls,dx,H',rfl,ho,hg,u,hok,ne,he,x,q⟩:=c;have I':Inv X pins σ H' s':=I.call' (ch:=[]) ho u hok hg (fun b hb=>by cases hb)
 have fp:∀T,s.heap.get? T=none->H' T=none->D_ X pins H' T:=fun T h1 h2=>by
  obtain ⟨_,a2,a3,a4,a5,a6⟩:=I.xfp hx h1;exact ⟨h2,a2,a3,a4,a5,a6⟩
 exact R pins σ H' s' e cls dx _ (.inr rfl) I' (fp e ne he) (x.imp fun T _ z=>fp T z.1 z.2) q
theorem Ho {P:Program} {w:World} {K:PySem.W.Frag} {mg:Str->Option Value} {base:Heap} {N:List Str} {qual:Str} {scope:Scope} {f:Addr} {cd:Value} {A:Around} {outer:List Env} {s:Shared} {H:Hp} {E:XK}:
 Rz (p7 (vI P w) P w K mg base N qual scope f cd A outer s H E) (fun _=>E):=by
 intro pins σ H1 s1 e cls dx fl hfl I fe x q;show wpAny (model P w) _ (leaving _ (.ref e)) _ _ s1;unfold leaving;have lo1:∀b,(b=e\/(D_ (p7 (vI P w) P w K mg base N qual scope f cd A outer s H E) pins H1 b\/s1.heap.get? b=none))->D_ (p7 (vI P w) P w K mg base N qual scope f cd A outer s H E) pins H1 b\/s1.heap.get? b=none:=fun b z=>z.elim (fun z=> .inl (by rw [z];exact fe)) fun z=>z;have stk:(p7 (vI P w) P w K mg base N qual scope f cd A outer s H E).A.frames=some ((p7 (vI P w) P w K mg base N qual scope f cd A outer s H E).env::outer):=I.ok.frames;refine wpAny_bind (Wr (base:=base) (lo:=fun T=>D_ (p7 (vI P w) P w K mg base N qual scope f cd A outer s H E) pins H1 T\/s1.heap.get? T=none) hfl stk I.stack rfl (x.imp fun T _ z=> .inl z) (fun T z=> .inr z) fun h1 n1 x1=> ?_);refine PJ (fr:=frs ((p7 (vI P w) P w K mg base N qual scope f cd A outer s H E).env::outer)) x1 fun h2 n2 x2=> ?_;have I2:Inv (p7 (vI P w) P w K mg base N qual scope f cd A outer s H E) pins σ H1 {s1 with heap:=h2}:=I.noted (n1.trans n2) lo1;refine ⟨e,cls,dx,H1,rfl,I2.os,I2.bare,I2.base,I2.hok,fe.2.2.2.1,fe.1,x2.imp fun T _ z=> ?_,q⟩;rcases z with z|z
 ·exact ⟨z.2.2.2.1,z.1⟩
 ·have y:=I.xfp rfl z
  exact ⟨y.2.2.2.1,y.1⟩
end
end L2
set_option Elab.async false
set_option linter.all false
set_option maxRecDepth 100000
set_option maxHeartbeats 4000000
namespace L2
open PySem PySem.Spec PyProof.Rows
def TF (P:Program) (w:World) (K:PySem.W.Frag) (mg:Str->Option Value) (base:Heap) (k:Nat) (x:Str) (ps:List Str) (sp:Sp):Prop:=
 ∃f fd,bZ P w K mg base (vI P w) k f fd ps sp/\mg x=some (.ref f)/\PySem.W.keepIn K (.ref f)=true/\Binds K fd ps []
def Yj (sp:Sp) (E:St->XK) (t:TA):TE:=fun σ H Q=>t σ H fun vs H1=>sp vs H1 Q (E σ)
section
variable {X:Cx} {k:Nat} {x:Str} {ps:List Str} {sp:Sp} {e:Expr} {es:List Expr} {t:TA} {p pos:Pos} {E:St->XK}
theorem YW (F:TF X.prog X.w X.K X.mg X.base k x ps sp) (hx:X.ex=[]) (R:Rz X E) (hr:fL k X.A) (hg:Gl X x) (ha:PA X (e::es) t) (hd:(x==("__debug__" :Str))=false:=by decide)
 (he:starEach (e::es) X.env=(false,eval e X.env)::starEach es X.env:=by rfl) (hpl:(backTo pos (starEach es X.env)).any (·.1)=false:=by rfl):
 PE X (.Call (.Name x p) (e::es) [] pos) (Yj sp E t):=by
 obtain ⟨f,fd,G,hm,hk,hb⟩:=F;intro pins s σ H Q I h;refine wpAny_Call_Name_kw (mO I hg hm ?_ hd);refine PySem.W.callWith_K (h₀:=X.base) I.ok.mod.RB hk (dN (ha pos pins s σ H _ I h) fun us s1 ⟨vs,H1,I1,r,q⟩=>⟨I1.nM, ?_⟩) he hpl;have hlen:us.length=ps.length:=by rw [←r.length];exact G.len _ _ _ _ q
 have hbd:=hb s1 us I1.nM (by rw [List.append_nil];exact hlen);rw [List.append_nil] at hbd;refine wpAny_call (codeAny_mono (G.run X.A X.stack s1 H1 ⟨us,[]⟩ us vs Q (E σ) hr I1.env0 hbd r q) fun res s' hq=> ?_)
 match res,hq with
 | .error ev,hq=>exact Ly hx R I1 hq
 | .ok (.ret u),hq=>exact I1.after hq
end
section
variable {P:Program} {w:World} {K:PySem.W.Frag} {mg:Str->Option Value} {base:Heap}
theorem kO.W2 {x qual:Str} {st:Stmt} {f:Addr} {fd:FuncData} {N ps:List Str} {k:Nat} {sp:Sp} (F:kO K x qual st f fd) (S:bG N ps (aA st)) (len:∀vs H Q E,sp vs H Q E->vs.length=ps.length)
 (hbody:∀(cdv:Value) (A:Around) (outer:List Env) (s:Shared) (H:Hp) (vs:List V) (Q:VK) (E:XK),fL k (A.deeper (envOfC qual (aA st) s.heap.objs.size f cdv))->sp vs H Q E ->
   Rz (p7 (vI P w) P w K mg base N qual (aA st) f cdv A outer s H E) (fun _=>E) ->
   ∃t,Jp (p7 (vI P w) P w K mg base N qual (aA st) f cdv A outer s H E) (aJ st) t/\t {nx:=fun _ H'=>Q .non H',rt:=Q} (start N vs) H):bZ P w K mg base (vI P w) (k+1) f fd ps sp:=by
 obtain ⟨oc,od,kV,doc,pm,an,cdv,ct,osl,rfl,lk,hcd⟩:=F.ex;exact R0 lk hcd S len fun A outer s H vs Q E hr hsp=>hbody cdv A outer s H vs Q E hr hsp Ho
end
theorem V1 {K:PySem.W.Frag} {h:Heap} {C:Addr} {bmB:List Value} {newId:String} (X:K.In h) (q:PySem.W.excIn K C bmB newId=true):
 ∃bm N nm qn bs hdct sn sub ab col dd k0 k1 k2 k3 k5 mN,h.get? C=some (excClassObj nm qn C N bs bm hdct sn sub ab col dd k0 k1 k2 k3 k5 newId)/\h.Ns N mN/\mN "__init__" = none/\OwnTail h bmB bm:=by
 unfold PySem.W.excIn at q;split at q
 ·rename_i d0 c0 s0 lk
  split at q
  ·rename_i C1 tl a0 a1 a2 a3 nn a5 em es
   simp only [Bool.and_eq_true,beq_iff_eq,Bool.not_eq_true'] at q;obtain ⟨⟨⟨⟨⟨e1,e2⟩,e3⟩,e4⟩,e5⟩,e6⟩:=q;subst e1 e2;obtain ⟨f1,f2,f3,f4,f5,f6,f7,f8,f9,ZV,f11⟩:=c0;dsimp only at em e3 e5 e6;subst em e3
   have ez:s0 = #[a0,a1,a2,a3,some (.builtin nn),a5]:=by
    obtain ⟨l⟩:=s0;simp only at es;rw [es]
   subst ez;exact ⟨tl,f4,_,_,_,_,_,_,_,_,_,_,_,_,_,_,_,X _ _ lk,.of_isNs (PySem.W.isNs_of_in X e5),PySem.W.nsMap_none_of_in X e5 e6,PySem.W.tail_of_in X e4⟩
  ·cases q
 ·cases q
def X_ (cls:Value) (E:St->XK) (ta:TA):TS:=fun _ σ H=>ta σ H fun vs H1=>vs.length<=sizeLine/\E σ cls none H1
section
variable {X:Cx} {E:St->XK} {x:Str} {C:Addr} {B newId initId:String} {bmB:List Value} {e0:Expr} {rest:List Expr} {ta:TA} {np cpos pos:Pos}
theorem lR (FB:ExcBaseFacts B newId initId bmB) (q:PySem.W.excIn X.K C bmB newId=true) (hm:X.mg x=some (.ref C)) (hg:Gl X x) (hc:X.calm=true) (hx:X.ex=[]) (R:Rz X E) (ha:PA X (e0::rest) ta)
 (he:starEach (e0::rest) X.env=(false,eval e0 X.env)::starEach rest X.env:=by rfl) (hplain:(backTo cpos (starEach rest X.env)).any (·.1)=false:=by rfl) (hd:(x==("__debug__" :Str))=false:=by decide):
 PS X (.Raise (some (.Call (.Name x np) (e0::rest) [] cpos)) none pos) (X_ (.ref C) E ta):=by
 intro pins s σ H D I h;obtain ⟨bm,N,nm,qn,bs,hdct,sn,sub,ab,col,dd,k0,k1,k2,k3,k5,mN,hC,hN,hni,T⟩:=V1 I.ok.mod.RB q
 refine wpAny_Raise_call_subT (k5:=k5) (k3:=k3) (k2:=k2) (k1:=k1) (k0:=k0) (dd:=dd) (col:=col) (ab:=ab) (sub:=sub) (sn:=sn) (hdct:=hdct) (bs:=bs) (q:=qn) (nm:=nm)
  (C:=C) (N:=N) (bm:=bm) (mN:=mN) FB (T.hasType FB.hasBase) (I.ok.hd hc) (by rw [he];show (false||(backTo cpos (starEach rest X.env)).any (·.1))=false;rw [hplain];rfl) hni (mO I hg hm ⟨rfl, ?_⟩ hd)
 have h2:=ha cpos pins s σ H _ I h;rw [he] at h2 ⊢;refine Calls.evalArgs_plain (dN h2 fun us s1 ⟨vs,H1,I1,r,hl,hE⟩=>⟨rfl,by rw [←r.length];exact hl,I1.bk _ _ hC,hN.keeps I1.bk,T.keeps I1.bk,fun h' e mk=> ?_⟩);obtain ⟨t,ht,_,_⟩:=mk.there;have I2:Inv X pins σ H1 {s1 with heap:=h'}:=I1.kept (t':=s1.toks) mk.keeps;exact R pins σ H1 _ e (.ref C) none none (.inl rfl) I2 (I1.xfp hx mk.new) ⟨_,_,ht,rfl,rfl,rfl,rfl⟩ hE
end
def XO (C:Addr) (dx:Option Addr) (e:Addr):HO:= .ext fun h=>∃oe vs,h.get? e=some oe/\oe.cls = .ref C/\oe.dict=dx/\oe.data = .fields vs
def Ge (X:Cx) (e:Addr):Cx:={X with A:=X.A.mark (some (.ref e)),calm:=false,xe:=fun _ _=>False}
def Az (X:Cx) (pins:List (Addr×Obj)) (xe:Value->Shared->Prop):Cx:={X with pn:=X.pn++pins,xe:=xe}
section
variable {X:Cx} {pins:List (Addr×Obj)} {σ:St} {H:Hp} {s:Shared}
theorem Inv.aaX (I:Inv X pins σ H s) (xe:Value->Shared->Prop):Inv (Az X pins xe) [] σ H s:=
 ⟨⟨I.ok.mod,I.ok.kind,I.ok.glob,I.ok.blt,I.ok.above,I.ok.inj,I.ok.has,I.ok.cab,I.ok.hd,I.ok.frames,I.ok.stk,I.ok.exf,I.ok.bs,I.ok.KC,I.ok.Fq,I.ok.Ir,I.ok.pZ,I.ok.Pa⟩,I.os,I.bare,I.base,I.loc,I.cell,I.free,I.jx,
   fun p hp=>I.pin p (by rw [List.append_nil] at hp;exact hp),I.hok,I.len⟩
theorem Inv.CQ {xe:Value->Shared->Prop} {pQ:List (Addr×Obj)} (I:Inv (Az X pins xe) pQ σ H s):Inv X pins σ H s:=
 ⟨⟨I.ok.mod,I.ok.kind,I.ok.glob,I.ok.blt,I.ok.above,I.ok.inj,I.ok.has,I.ok.cab,I.ok.hd,I.ok.frames,I.ok.stk,I.ok.exf,I.ok.bs,I.ok.KC,I.ok.Fq,I.ok.Ir,I.ok.pZ,I.ok.Pa⟩,I.os,I.bare,I.base,I.loc,I.cell,I.free,I.jx,
   fun p hp=>I.pin p (List.mem_append_left _ hp),I.hok,I.len⟩
theorem Inv.Qi (I:Inv X pins σ H s) (e:Addr):Inv (Ge X e) pins σ H s:=
 ⟨⟨I.ok.mod,I.ok.kind,I.ok.glob,I.ok.blt,I.ok.above,I.ok.inj,I.ok.has,I.ok.cab,fun z=>(by cases z),I.ok.frames,I.ok.stk,I.ok.exf,I.ok.bs,I.ok.KC,I.ok.Fq,I.ok.Ir,I.ok.pZ,I.ok.Pa⟩,I.os,I.bare,I.base,I.loc,I.cell,I.free,I.jx,
   I.pin,I.hok,I.len⟩
theorem Inv.Fo {e:Addr} (I:Inv (Ge X e) pins σ H s) (hd:X.calm=true->X.A.handled=none):Inv X pins σ H s:=
 ⟨⟨I.ok.mod,I.ok.kind,I.ok.glob,I.ok.blt,I.ok.above,I.ok.inj,I.ok.has,I.ok.cab,hd,I.ok.frames,I.ok.stk,I.ok.exf,I.ok.bs,I.ok.KC,I.ok.Fq,I.ok.Ir,I.ok.pZ,I.ok.Pa⟩,I.os,I.bare,I.base,I.loc,I.cell,I.free,I.jx,
   I.pin,I.hok,I.len⟩
theorem Inv.track {e C:Addr} {dx:Option Addr} {lo:Addr->Prop} {fl:Option Value} (I:Inv X pins σ H s) (hx:X.ex=[]) (fe:D_ X pins H e) (x:wQ s.heap e (.ref C) dx lo fl):Inv X pins σ (upd H e (XO C dx e)) s:=by
 obtain ⟨f1,f2,f3,f4,f5,f6⟩:=fe;obtain ⟨oe,vs,q,hc,hdx,hd⟩:=x.there;have ne:∀b o,H b=some o->b≠e:=fun b o r=>au r f1;refine ⟨I.ok,I.os,I.bare,⟨I.base.keep,I.base.slot,fun b o r n hh=> ?_,I.base.there,fun b xs r=> ?_,fun b o u r=> ?_,fun b ps r=> ?_⟩,I.loc,I.cell, ?_,fun y c r=> ?_,fun p hp=> ?_,fun a o r=> ?_,I.len⟩
 ·rw [aD (fun z=>by rw [z,f4] at r;cases r)]
  exact I.base.free b o r n hh
 ·have r2:=I.base.tups b xs r
  rw [aD (ne b _ r2)];exact r2
 ·have r2:=I.base.vf b o u r
  rw [aD (ne b _ r2)];exact r2
 ·obtain ⟨m,r2⟩:=I.base.vR b ps r
  exact ⟨m,by rw [aD (ne b _ r2)];exact r2⟩
 ·rw [aD (Ne.symm f2)];exact I.free
 ·rw [aD (f5 y c r)];exact I.jx y c r
 ·obtain ⟨a1,a2,a3⟩:=I.pin p hp
  exact ⟨a1,by rw [aD (f6 p hp)];exact a2,a3⟩
 ·by_cases ha:a=e
  ·subst ha
   rw [ak] at r;cases r;exact ⟨⟨oe,vs,q,hc,hdx,hd⟩,⟨oe,q⟩,fun h1 h2 ⟨o1,v1,p1,p2⟩ k=>⟨o1,v1,k _ p1,p2⟩⟩
  ·rw [aD ha] at r
   refine (I.hok a o r).stay (fun _ _ _ z=>z) (fun b z=>by rw [aD (ne b _ z)];exact z) fun b ys z=>by rw [aD (ne b _ z)];exact z
end
section
variable {M:Model} {A:Around} {Er:Value->Shared->Prop} {s:Shared} {K:PySem.W.Frag} {e C D:Addr}
theorem HX {oe:Obj} {b:Bool} {Q:Bool->Shared->Prop} (X:K.In s.heap) (he:s.heap.get? e=some oe) (hc:oe.cls = .ref C) (hD:(PySem.W.clsIn K D).isSome=true) (hty:PySem.W.typeIn K (.ref D)=some (.type "type"))
 (hB:PySem.W.subIn K (.ref D) (.type "BaseException")=some true) (hs:PySem.W.subIn K (.ref C) (.ref D)=some b) (hq:Q b s):wpAny M A (excMatches (.ref e) (.ref D)) Q Er s:=by
 obtain ⟨hh,g,d,t,os⟩:=s;have L1:PySem.W.Looks M hh (typeOf (.ref D)) (.type "type"):=PySem.W.looks_typeIn X hty;have L2:PySem.W.Looks M hh (isSubtype (.ref D) (.type "BaseException")) true:=PySem.W.looks_subIn X hB;have L3:PySem.W.Looks M hh (isSubtype (.ref C) (.ref D)) b:=PySem.W.looks_subIn X hs
 have L4:PySem.W.Looks M hh (isType (.ref D)) true:=by
  unfold PySem.W.clsIn at hD;split at hD
  ·rename_i c' d' cd' sl' ho
   intro A' Q' E' s' k q;unfold isType loadHead;exact wpAny_bind (wpAny_loadPart (k _ _ (X _ _ ho)) (wpAny_pure q))
  ·cases hD
 have f:=tc_notTuple;unfold excMatches isExcClass isInstance;refine wpAny_bind (wpAny_bind (L1.at ?_));refine wpAny_of_eq f ?_;rw [if_neg (by decide)];refine wpAny_bind (wpAny_pure ?_);simp only [List.forIn_cons,List.forIn_nil];refine wpAny_bind (wpAny_bind (wpAny_bind (wpAny_bind (L4.at ?_))));rw [if_pos rfl];refine L2.at ?_;simp only [Bool.not_true,Bool.false_eq_true,if_false];refine wpAny_pure (wpAny_pure ?_)
 have L0:PySem.W.Looks M hh (typeOf (.ref e)) (.ref C):=by
  intro A' Q' E' s' k q;unfold typeOf;refine wpAny_bind (wpAny_loadPart (k _ _ he) ?_);rw [hc];exact wpAny_pure q
 refine wpAny_bind (L0.at ?_);refine wpAny_bind (wpAny_bind (wpAny_bind (L3.at ?_)));cases b with
 | true=>exact wpAny_pure (wpAny_pure (wpAny_pure hq))
 | false=>exact wpAny_pure (wpAny_pure (wpAny_pure hq))
end
end L2
set_option Elab.async false
set_option linter.all false
set_option maxRecDepth 100000
set_option maxHeartbeats 4000000
namespace L2
open PySem PySem.Spec PyProof.Rows
section
variable {X:Cx} {pins:List (Addr×Obj)} {σ:St} {H:Hp} {s:Shared}
theorem Inv.gone {i:Nat} {n:Str} {m:Str->Option Value} {v:Option Value} {h':Heap} {t:Nat} (I:Inv X pins σ H s) (hN:X.N.Nodup) (hi:X.N[i]? = some n)
 (hm:∀(j:Nat) (x:Str) (u:V),X.N[j]? = some x->σ[j]? = some (some u)->Vis X.env.scope x -> ∃w',RelV u w'/\Look X.env s.heap m x w')
 (hn:h'.Ns X.env.locals (fun x=>if x=n then v else m x)) (sb:Heap.SameBut X.env.locals s.heap h'):Inv X pins (σ.set i none) H {s with heap:=h',toks:=t}:=by
 have W6:∀b o,X.s₀.heap.get? b=some o->b≠X.env.locals:=fun b o q=>Nat.ne_of_lt (Nat.lt_of_lt_of_le (Heap.lt_size q) I.ok.above);have cl:∀x c,X.env.cells.lookup x=some c -> ∀w',s.heap.IsCell c w'->h'.IsCell c w':=fun x c q w' ⟨o,ho,hd⟩=>⟨o,(sb.2 c (I.Xn x c q)).trans ho,hd⟩;have TX:∀b o,H b=some o->b≠X.env.locals:=fun b o q=>au q I.free;refine ⟨I.ok,I.os,I.bare,⟨fun b o q nn hb hx=>(sb.2 b (W6 b o q)).trans (I.base.keep b o q nn hb hx),fun b o q nn hb hx=> ?_,I.base.free,fun b o q hx=> ?_,I.base.tups,I.base.vf,I.base.vR⟩,⟨_,hn,fun j x u e1 e2 e3=> ?_⟩,fun x c q=> ?_,I.free,I.jx,fun p hp=> ?_,fun a o q=> ?_, ?_⟩
 ·obtain ⟨sl,r⟩:=I.base.slot b o q nn hb hx
  exact ⟨sl,(sb.2 b (W6 b o q)).trans r⟩
 ·obtain ⟨o',r⟩:=I.base.there b o q hx
  exact ⟨o',(sb.2 b (W6 b o q)).trans r⟩
 ·have hji:j≠i:=by
   rintro rfl
   by_cases hlt:j<σ.length
   ·rw [List.getElem?_set_self hlt] at e2
    cases e2
   ·rw [List.getElem?_eq_none (by rw [List.length_set];lia)] at e2
    cases e2
  rw [List.getElem?_set_ne (Ne.symm hji)] at e2;obtain ⟨w',r,l⟩:=hm j x u e1 e2 e3;refine ⟨w',r, ?_⟩;have hxn:x≠n:=fun z=>hji (Ae hN e1 (by rw [z];exact hi));rcases l with ⟨k,q⟩|⟨k,c,hc,z⟩
  ·exact .inl ⟨k,by show (if x=n then v else m x)=some w';rw [if_neg hxn];exact q⟩
  ·exact .inr ⟨k,c,hc,cl x c hc _ z⟩
 ·obtain ⟨w',z⟩:=I.cell x c q
  exact ⟨w',cl x c q w' z⟩
 ·obtain ⟨q,nn,n1,r⟩:=I.pin p hp
  exact ⟨(sb.2 p.1 n1).trans q,nn,n1,r⟩
 ·refine (I.hok a o q).stay (fun b u hb r=> ?_) (fun _ z=>z) fun _ _ z=>z
  rcases hb with rfl|hb
  ·exact (sb.2 b (TX b o q)).trans r
  ·exact (sb.2 b (TX b _ hb)).trans r
 ·show (σ.set i none).length=X.N.length
  rw [List.length_set];exact I.len
theorem rG {M:Model} {A:Around} {E:Value->Shared->Prop} {i:Nat} {n:Str} {pos:Pos} {Q:Unit->Shared->Prop} (I:Inv X pins σ H s) (hN:X.N.Nodup) (hi:X.N[i]? = some n) (hl:X.env.kindOf n=some .local)
 (h:∀s',Inv X pins (σ.set i none) H s'->Q () s'):wpAny M A (do bindName X.env n .none;unbindBehindTheSuite X.env n pos) Q E s:=by
 obtain ⟨m,hn,hm⟩:=I.loc;exact wpAny_nameGoes_keeps hl hn (by rw [I.ok.kind];rfl) fun h' v hn' sb=>h _ (I.gone hN hi hm hn' sb)
end
def acL (D:Ends) (i:Nat):Ends:={nx:=fun σ H=>D.nx (σ.set i none) H,rt:=D.rt,bk:=fun σ H=>D.bk (σ.set i none) H,ct:=fun σ H=>D.ct (σ.set i none) H}
def afy (K:PySem.W.Frag) (i:Nat) (Dc:Addr) (tb:(St->XK)->TS) (th:TS):TS:=fun D σ H=>
 tb (fun σ1 cls dx H1=>∃C,cls = .ref C/\PySem.W.subIn K (.ref C) (.ref Dc)=some true /\ ∀e,H1 e=none->th (acL D i) (σ1.set i (some (.ref e))) (upd H1 e (XO C dx e))) D σ H
structure XHd (K:PySem.W.Frag) (D:Addr):Prop where
 cl:(PySem.W.clsIn K D).isSome=true
 ty:PySem.W.typeIn K (.ref D)=some (.type "type")
 bs:PySem.W.subIn K (.ref D) (.type "BaseException")=some true
section
variable {X:Cx} {body suite:List Stmt} {b0:Stmt} {n cn:Str} {i:Nat} {Dc:Addr} {tb:(St->XK)->TS} {th:TS} {cp hpos pos:Pos}
theorem YJ (hc:X.calm=true) (hx:X.ex=[]) (hst:X.stack=X.env::X.outer) (hfm:X.env.frame=some X.env.locals) (hN:X.N.Nodup) (hi:X.N[i]? = some n) (hl:X.env.kindOf n=some .local) (hg:Gl X cn) (hm:X.mg cn=some (.ref Dc)) (hD:XHd X.K Dc)
 (hb:∀(pn:List (Addr×Obj)) (xe:Value->Shared->Prop) (E:St->XK),PassesOwn (model X.prog X.w) X.A X.env xe->Rz {X with pn:=pn,xe:=xe} E->Jp {X with pn:=pn,xe:=xe} body (tb E))
 (hh:∀e,Jp (Ge X e) (b0::suite) th) (hd:(cn==("__debug__" :Str))=false:=by decide):
 PS X (.Try body [.ExceptHandler (some (.Name cn cp)) (some n) (b0::suite) hpos] [] [] pos) (afy X.K i Dc tb th):=by
 intro pins s σ H D I h;refine wpAny_Try_except ?_
 refine wpAny_mono (hb (X.pn++pins) (fun e s₁=>wpAny (model X.prog X.w) X.A (noteFrame e X.env) (fun _ s₂=>wpAny (model X.prog X.w) X.A (setFlight e none) (fun _ s₃=>wpAny (model X.prog X.w) X.A (handleBy e X.env [.ExceptHandler (some (.Name cn cp)) (some n) (b0::suite) hpos]) (SP X pins D) X.xe s₃) X.xe s₂) X.xe s₁) _
  PassesOwn.looking ?_ [] s σ H D (I.aaX _) h) (fun f s1 q=> ?_) fun _ _ q=>q
 ·
  intro pQ σ1 H1 s1 e cls dx fl hfl I1 fe x hE;obtain ⟨C,rfl,hsub,hth⟩:=hE;have lo1:∀b,(b=e\/(D_ (Az X pins X.xe) pQ H1 b\/s1.heap.get? b=none))->D_ (Az X pins X.xe) pQ H1 b\/s1.heap.get? b=none:=fun b z=>z.elim (fun z=> .inl (by rw [z];exact fe)) fun z=>z;have hfr:X.A.frames=some (X.env::X.outer):=by rw [←hst];exact I.ok.frames
  have hff:s1.heap.FunFrames X.base (X.env::X.outer):=by rw [←hst];exact I1.stack
  refine Wr (base:=X.base) (lo:=fun T=>D_ (Az X pins X.xe) pQ H1 T\/s1.heap.get? T=none) hfl hfr hff hfm (x.imp fun T _ z=> .inl z) (fun T z=> .inr z) fun h1 n1 x1=> ?_;refine PJ (fr:=frs (X.env::X.outer)) x1 fun h2 n2 x2=> ?_;have n12:qQ (frs X.stack) e (fun T=>D_ (Az X pins X.xe) pQ H1 T\/s1.heap.get? T=none) s1.heap h2:=by rw [hst];exact n1.trans n2
  have I2:Inv X pins σ1 H1 {s1 with heap:=h2}:=(I1.noted n12 lo1).CQ;refine wpAny_handleBy_cons (codeAny_handlers_test (mO (I2.Qi e) hg hm ?_ hd)) (by intro z;cases z);obtain ⟨oe,vs,q1,q2,q3,q4⟩:=x2.there;refine HX (K:=X.K) I2.nM q1 q2 hD.cl hD.ty hD.bs hsub ?_;rw [if_pos rfl];refine codeAny_handlers_suite_as ?_;refine PJ (fr:=frs (X.env::X.outer)) x2 fun h3 n3 x3=> ?_;have n13:qQ (frs X.stack) e (fun T=>D_ (Az X pins X.xe) pQ H1 T\/s1.heap.get? T=none) s1.heap h3:=by rw [hst];exact (n1.trans n2).trans n3
  have I3:Inv X pins σ1 H1 {s1 with heap:=h3}:=(I1.noted n13 lo1).CQ;have feX:D_ X pins H1 e:=⟨fe.1,fe.2.1,fe.2.2.1,fe.2.2.2.1,fe.2.2.2.2.1,fun p hp=>fe.2.2.2.2.2 p (List.mem_append_left _ hp)⟩;have I4:Inv X pins σ1 (upd H1 e (XO C dx e)) {s1 with heap:=h3}:=I3.track hx feX x3;refine uD (X:=Ge X e) (I4.Qi e) hN hi (.inl hl) (v:= .ref e) rfl (fun s5 I5=> ?_) (.inr hl);refine wpAny_mono (hh e pins s5 _ _ (acL D i) I5 (hth e fe.1)) (fun f s6 q6=> ?_) fun _ _ z=>z.elim;cases f with
  | next=>
    obtain ⟨σ6,H6,J6,r6⟩:=q6;exact rG (J6.Fo I.ok.hd) hN hi hl fun s7 J7=>⟨_,H6,J7,r6⟩
  | brk=>
    obtain ⟨σ6,H6,J6,r6⟩:=q6;exact rG (J6.Fo I.ok.hd) hN hi hl fun s7 J7=>⟨_,H6,J7,r6⟩
  | cont=>
    obtain ⟨σ6,H6,J6,r6⟩:=q6;exact rG (J6.Fo I.ok.hd) hN hi hl fun s7 J7=>⟨_,H6,J7,r6⟩
  | ret u=>
    obtain ⟨v6,σ6,H6,J6,rv,r6⟩:=q6;exact rG (J6.Fo I.ok.hd) hN hi hl fun s7 J7=>⟨v6,_,H6,J7,rv,r6⟩
 ·cases f with
  | next=>obtain ⟨σ1,H1,J,r⟩:=q;exact wpAny_execs_nil ⟨σ1,H1,J.CQ,r⟩
  | brk=>obtain ⟨σ1,H1,J,r⟩:=q;exact ⟨σ1,H1,J.CQ,r⟩
  | cont=>obtain ⟨σ1,H1,J,r⟩:=q;exact ⟨σ1,H1,J.CQ,r⟩
  | ret u=>obtain ⟨v,σ1,H1,J,rv,r⟩:=q;exact ⟨v,σ1,H1,J.CQ,rv,r⟩
end
section
variable {X:Cx} {K:PySem.W.Frag}
theorem rW {o:Obj} {vs:Array Value} (h:o.data = .fields vs):PySem.W.notCls o=true:=by
 obtain ⟨c,d,dt,sl⟩:=o;simp only at h;subst h;rfl
theorem Ud {C e:Addr} {P:Program} {w:World} {H:Hp} {h:Heap} (x:dg P w H h e (XO C none e)):∃ox odo,PySem.W.InstAt h e ox C odo:=by
 obtain ⟨⟨oe,vs,q,hc,hd,hf⟩,_⟩:=x;exact ⟨oe,none,⟨q,hc,rW hf,by rw [hd];trivial⟩⟩
theorem M8 {cs:List Addr}:∀{us:List Value},Vals (cs.map V.ref) us->us=cs.map Value.ref:=by
 induction cs with
 | nil=>intro us r;cases r;rfl
 | cons c cs ih=>
   intro us r;cases r with
   | cons r rs=>cases (show _=Value.ref c from r);rw [ih rs];rfl
end
end L2
set_option Elab.async false
set_option linter.all false
set_option maxRecDepth 100000
set_option maxHeartbeats 4000000
namespace L2
open PySem PySem.Spec PyProof.Rows
section
variable {X:Cx} {K:PySem.W.Frag}
end
structure jm (K:PySem.W.Frag) (C D:Addr) (b:Bool):Prop where
 ne:(Value.ref C==Value.ref D)=false
 sub:PySem.W.subIn K (.ref C) (.ref D)=some b
theorem pJ {K:PySem.W.Frag} {C D:Addr} {b:Bool} (h:XHd K D) (p:jm K C D b):PySem.W.kitOne K (.ref C) (.ref D)=some b:=by
 unfold PySem.W.kitOne;rw [if_neg (by rw [p.ne];decide)];show (if ((PySem.W.clsIn K D).isSome&&PySem.W.typeIn K (.ref D)==some (.type "type"))=true then PySem.W.subIn K (.ref C) (.ref D) else none)=some b;rw [if_pos (by rw [h.cl,h.ty];rfl)];exact p.sub
theorem Aj {K:PySem.W.Frag} {C:Addr}:PySem.W.kitOne K (.ref C) (.ref C)=some true:=by
 unfold PySem.W.kitOne;rw [if_pos (by simp)]
theorem Dh {K:PySem.W.Frag} {C:Addr} {b:Bool} (h:PySem.W.subIn K (.ref C) (.type "ValueError")=some b):PySem.W.kitOne K (.ref C) (.type "ValueError")=some b:=by
 unfold PySem.W.kitOne;rw [if_neg (by intro z;cases beq_iff_eq.mp z)];show (if PySem.W.kitMeta "ValueError" = true then PySem.W.subIn K (.ref C) (.type "ValueError") else none)=some b;rw [if_pos (by decide +kernel)];exact h
theorem qG {K:PySem.W.Frag} {C:Addr}:∀{cs:List Addr},(∀D∈cs,PySem.W.kitOne K (.ref C) (.ref D)=some false)->PySem.W.kitAny K (.ref C) (cs.map Value.ref)=some false
 | [],_=>rfl
 | D::cs,h=>by
   show PySem.W.kitAny K (.ref C) (.ref D::cs.map Value.ref)=some false;unfold PySem.W.kitAny;rw [h D List.mem_cons_self];exact qG fun D' hD=>h D' (List.mem_cons_of_mem _ hD)
theorem Cg:bootBuiltins "ValueError" = some (.type "ValueError"):=by kernel_rfl
end L2
namespace L2
open PySem
structure Xr (K:PySem.W.Frag) (mg:Str->Option Value) (C:Addr) (nm:Str):Prop where
 bd:mg nm=some (.ref C)
 hd:XHd K C
 xc:PySem.W.K3 K C
 ex:PySem.W.excIn K C [.type "ValueError",.type "Exception",.type "BaseException",.type "object"] "ValueError.__new__" = true
 ve:PySem.W.subIn K (.ref C) (.type "ValueError")=some true
structure Xo (K:PySem.W.Frag) (mg:Str->Option Value) (C D:Addr) (nm:Str) (b:Bool):Prop where
 bd:mg nm=some (.ref D)
 hd:XHd K D
 pr:jm K C D b
end L2
set_option Elab.async false
set_option linter.all false
set_option maxRecDepth 100000
set_option maxHeartbeats 4000000
namespace L2
open PySem PySem.Spec PyProof.Rows
section
variable {X:Cx} {pins:List (Addr×Obj)} {σ:St} {H:Hp} {s:Shared} {h':Heap}
theorem Inv.qY {t':Nat} {fp:List Addr} (I:Inv X pins σ H s) (hf:∀b∈fp,qW X pins H b) (k:∀b o,b∉fp->s.heap.get? b=some o->h'.get? b=some o):Inv X pins σ H {s with heap:=h',toks:=t'}:=by
 have nit:∀b u,H b=some u->b∉fp:=fun b u e z=>by rw [(hf b z).1] at e;cases e
 refine I.step (g':=s.gens) (d':=s.drawn) (ch:=fp) (fun b hb=> ?_) (fun b o _ _ hc e _=>k b o hc e) (fun b o _ _ hc e _=>⟨o.slots,k b o hc e⟩) (fun _ _ _ _ n=>n)
  (fun b o hc e=>⟨o,k b o hc e⟩) (fun _ _ e=>e) (fun _ _ _ e=>e) (fun b ps e=>⟨#[],by rw [e];simp⟩) (fun m hm=> ?_) (fun b u e=> ?_) I.bare
 ·obtain ⟨f0,f1,f2,f3,f4,f5⟩:=hf b hb
  exact ⟨f3,f1,f4,f5⟩
 ·obtain ⟨o,es,ep,ho,r⟩:=hm
  exact ⟨o,es,ep,k _ o (fun z=>(hf _ z).2.1 rfl) ho,r⟩
 ·refine (I.hok b u e).stay (fun c v hc q=>k c v ?_ q) (fun _ q=>q) fun _ _ q=>q
  rcases hc with z|z
  ·rw [z];exact nit b u e
  ·exact nit c _ z
theorem qW.upd {b p:Addr} {o:HO} (h:qW X pins H b) (n:b≠p):qW X pins (upd H p o) b:=by
 obtain ⟨f0,r⟩:=h;exact ⟨by rw [aD n];exact f0,r⟩
theorem Aq {h:Heap} {o u:Obj} {b:Addr} (ho:o.isFreed=false) (e:(h.push o).get? b=some u):(b=h.objs.size/\u=o)\/h.get? b=some u:=by
 by_cases hb:b=h.objs.size
 ·subst hb
  rw [Heap.get?_push_size _ ho] at e;exact .inl ⟨rfl,(Option.some.inj e).symm⟩
 ·refine .inr ?_
  have lt:=Heap.lt_size e
  have lt2:b<h.objs.size:=by
   have:(h.push o).objs.size=h.objs.size+1:=by simp [Heap.push]
   rw [this] at lt;exact Nat.lt_of_le_of_ne (Nat.le_of_lt_succ lt) hb
  have:(h.push o).get? b=h.get? b:=by
   simp only [Heap.get?,Heap.push];rw [Array.getElem?_push_lt lt2,Array.getElem?_eq_getElem lt2]
  rw [←this];exact e
end
def Ite (K:PySem.W.Frag) (l:Addr):It:=
 ⟨fun i H=>∃xs x,bN K H l xs/\xs[i]? = some x,fun i H x H'=>∃(p:Addr) (y:V),x = .ref p/\H p=none/\(∀xs,bN K H l xs->xs[i]? = some y)/\H'=upd H p (.tup [.int i,y]),fun i H=>∃xs,bN K H l xs/\xs.length<=i⟩
theorem Ng {P:Program} {w:World} {K:PySem.W.Frag} {elts:List Expr} {x1:Nat} {pos:Pos} (l e it:Addr) (hne:e≠it):Turn P w K (.Tuple elts x1 pos) (Ite K l) [e,it] e (fun i h=>(∃old,IsEnum h e it i old)/\h.IsListIter it l i) where
 mem:=by simp
 obj:=fun i h st b hb=>by
  obtain ⟨⟨old,he⟩,o,ho,c,d⟩:=st;have hb':b=e\/b=it:=by simpa using hb
  rcases hb' with rfl|rfl
  ·exact ⟨_,he,fun v z=>by cases z⟩
  ·exact ⟨o,ho,fun v z=>by rw [d] at z;cases z⟩
 keep:=fun i h h' st k=>by
  obtain ⟨⟨old,he⟩,o,ho,c,d⟩:=st;exact ⟨⟨old,k e (by simp) _ he⟩,o,k it (by simp) _ ho,c,d⟩
 item:=by
  intro X hP hw hK hc i pins s σ H E I hf st hg;subst hP hw hK;obtain ⟨xs,x,hq,hx⟩:=hg;obtain ⟨its,rv,p,hz⟩:=I.list hq;obtain ⟨u,hu,ru⟩:=rv.get hx;obtain ⟨⟨old,he⟩,hi⟩:=st;have elt:=Heap.lt_size he;have ilt:it<s.heap.objs.size:=by obtain ⟨o,ho,_⟩:=id hi;exact Heap.lt_size ho
  refine wpAny_pyNext_enum_item he hi p.isList (x:=u) (by simpa using hu) hne fun h' hout hit htup hsz hk=> ?_;refine ⟨_,rfl, ?_⟩;refine wpAny_letOwnedTupleGo_enum hout fun h2 he2 sb=> ?_;have hfr:H s.heap.objs.size=none:=I.hok.fresh (Nat.le_refl _)
  have I0:Inv X pins σ (upd H s.heap.objs.size (.tup [.int i,x])) {s with heap:=s.heap.push {cls:= .type "tuple",data:= .seq #[.int i s.toks,u]}}:=
   I.laid (t':=s.toks) (fun b u e=>Heap.get?_push_of_some _ e) (Nat.le_refl _) ⟨by show 2<=sizeLine;decide,[.int i s.toks,u],.cons ⟨_,rfl⟩ (.cons ru .nil),⟨_,Heap.get?_push_size _ rfl,rfl,_,rfl⟩⟩
  have ne1:e≠s.heap.objs.size:=Nat.ne_of_lt elt;have ne2:it≠s.heap.objs.size:=Nat.ne_of_lt ilt
  have Xj:∀b∈[e,it],qW X pins (upd H s.heap.objs.size (.tup [.int i,x])) b:=fun b hb=>by
   have hb':b=e\/b=it:=by simpa using hb
   rcases hb' with rfl|rfl
   ·exact (hf _ (by simp)).upd ne1
   ·exact (hf _ (by simp)).upd ne2
  have I1:=I0.qY (h':=h2) (t':=s.toks+1) Xj (fun b o hb eb=>by
   have b1:b≠e:=fun z=>hb (by simp [z]);have b2:b≠it:=fun z=>hb (by simp [z]);rw [sb.2 b b1];rcases Aq rfl eb with ⟨rfl,rfl⟩|eb
   ·exact htup
   ·exact hk b o b1 b2 eb)
  refine ⟨.ref s.heap.objs.size,_,I1,rfl,⟨s.heap.objs.size,x,rfl,hfr,fun ys hy=>by rw [I.uY hy hq];exact hx,rfl⟩,⟨⟨u,he2⟩, ?_⟩,fun b hb=>(Xj b hb).1⟩;obtain ⟨o,ho,c,d⟩:=hit;exact ⟨o,(sb.2 it (Ne.symm hne)).trans ho,c,d⟩
 done:=by
  intro X hP hw hK hc i pins s σ H E I hf st hg;subst hP hw hK;obtain ⟨xs,hq,hx⟩:=hg;obtain ⟨its,rv,p,hz⟩:=I.list hq;obtain ⟨⟨old,he⟩,hi⟩:=st;have hl:=rv.length;exact wpAny_pyNext_enum_end (I.ok.hd hc) he hi p.isList (by simp;lia) fun h' eb=>⟨rfl,I.qY (t':=s.toks) hf (fun b o hb e=>eb b o (fun z=>hb (by simp [z])) e)⟩
 self:=fun _ _ _ _ _ st h=>by
  obtain ⟨⟨old,he⟩,_⟩:=st;exact wpAny_pyIter_enum he h
section
variable {X:Cx}
def ab5 (K:PySem.W.Frag) (ta:TA):TI:=fun σ H R=>ta σ H fun vs H1=>∃l xs,vs=[.ref l]/\bN K H1 l xs/\R (Ite K l) H1
theorem Gj:bootBuiltins "enumerate" = some (.type "enumerate"):=by kernel_rfl
theorem QH {K:PySem.W.Frag} {a:Expr} {ta:TA} {p pos:Pos} {elts:List Expr} {x1:Nat} {tpos:Pos} (hK:X.K=K) (hg:Gl X "enumerate") (hm:X.mg "enumerate" = none) (ha:PA X [a] ta) (hs:starEach [a] X.env=[(false,eval a X.env)]:=by rfl):PI X (.Tuple elts x1 tpos) (.Call (.Name "enumerate" p) [a] [] pos) (ab5 K ta):=by
 subst hK;intro pins s σ H R I h;refine Call_ (tW I hg hm Gj (PyProof.Rows.callWith_type1 (dN (ha pos pins s σ H _ I h) fun us s1 ⟨vs,H1,I1,r1,q1⟩=> ?_) hs rfl));obtain ⟨l,xs,e,hq,q⟩:=q1;subst e;cases r1 with
 | cons r rr=>
   cases rr;cases r;obtain ⟨its,rv,pl,hz⟩:=I1.list hq;refine call_enumerate_list pl.isList fun h' hE hI hsz hk=> ?_;refine wpAny_pyIter_enum hE ?_;have I2:Inv X pins σ H1 {s1 with heap:=h'}:=I1.kept (t':=s1.toks) hk;refine ⟨s1.heap.objs.size+1,[s1.heap.objs.size+1,s1.heap.objs.size],_,_,H1,rfl,I2,Ng l _ _ (by simp),⟨⟨_,hE⟩,hI⟩,fun b hb=> ?_,q⟩;have hb':b=s1.heap.objs.size+1\/b=s1.heap.objs.size:=by simpa using hb
   rcases hb' with rfl|rfl
   ·exact I1.Ar (Nat.le_succ _) (I1.hok.fresh (Nat.le_succ _))
   ·exact I1.Ar (Nat.le_refl _) (I1.hok.fresh (Nat.le_refl _))
end
def Itz (K:PySem.W.Frag) (l1 l2:Addr):It:=
 ⟨fun i H=>∃xs ys x y,bN K H l1 xs/\bN K H l2 ys/\xs[i]? = some x/\ys[i]? = some y,
  fun i H x H'=>∃(p:Addr) (y z:V),x = .ref p/\H p=none/\(∀xs,bN K H l1 xs->xs[i]? = some y)/\(∀ys,bN K H l2 ys->ys[i]? = some z)/\H'=upd H p (.tup [y,z]),
  fun i H=>∃xs ys,bN K H l1 xs/\bN K H l2 ys/\(xs.length<=i\/ys.length<=i)⟩
theorem Qc {P:Program} {w:World} {K:PySem.W.Frag} {elts:List Expr} {x1:Nat} {pos:Pos} (z TI TO i1 i2 l1 l2:Addr) (ap:ZipApart z TI TO i1 i2 l1 l2):Turn P w K (.Tuple elts x1 pos) (Itz K l1 l2) [z,TI,TO,i1,i2] z
 (fun i h=>IsZip h z TI TO .none/\IsPair h TI (.ref i1) (.ref i2)/\(∃a b,IsPair h TO a b)/\h.IsListIter i1 l1 i/\h.IsListIter i2 l2 i) where
 mem:=by simp
 obj:=fun i h st b hb=>by
  obtain ⟨hz,hTI,⟨a,c,hTO⟩,⟨o1,h1,c1,d1⟩,⟨o2,h2,c2,d2⟩⟩:=st;have hb':b=z\/b=TI\/b=TO\/b=i1\/b=i2:=by simpa using hb
  rcases hb' with rfl|rfl|rfl|rfl|rfl
  ·exact ⟨_,hz,fun v z=>by cases z⟩
  ·exact ⟨_,hTI,fun v z=>by cases z⟩
  ·exact ⟨_,hTO,fun v z=>by cases z⟩
  ·exact ⟨_,h1,fun v z=>by rw [d1] at z;cases z⟩
  ·exact ⟨_,h2,fun v z=>by rw [d2] at z;cases z⟩
 keep:=fun i h h' st k=>by
  obtain ⟨hz,hTI,⟨a,c,hTO⟩,⟨o1,h1,c1,d1⟩,⟨o2,h2,c2,d2⟩⟩:=st;exact ⟨k z (by simp) _ hz,k TI (by simp) _ hTI,⟨a,c,k TO (by simp) _ hTO⟩,⟨o1,k i1 (by simp) _ h1,c1,d1⟩,⟨o2,k i2 (by simp) _ h2,c2,d2⟩⟩
 item:=by
  intro X hP hw hK hc i pins s σ H E I hf st hg;subst hP hw hK;obtain ⟨xs,ys,x,y,hq1,hq2,hx,hy⟩:=hg;obtain ⟨Ih,UG,p1,hz1⟩:=I.list hq1;obtain ⟨its2,WM,p2,hz2⟩:=I.list hq2;obtain ⟨u1,hu1,ru1⟩:=UG.get hx;obtain ⟨u2,hu2,ru2⟩:=WM.get hy;obtain ⟨hz,hTI,⟨a,c,hTO⟩,hi1,hi2⟩:=st;have zlt:=Heap.lt_size hz;have aai:=Heap.lt_size hTI;have aah:=Heap.lt_size hTO;have Zw:i1<s.heap.objs.size:=by obtain ⟨o,ho,_⟩:=id hi1;exact Heap.lt_size ho
  have Zv:i2<s.heap.objs.size:=by obtain ⟨o,ho,_⟩:=id hi2;exact Heap.lt_size ho
  refine wpAny_pyNext_zip_item ap hz hTI hTO hi1 hi2 p1.isList p2.isList (x:=u1) (y:=u2) (by simpa using hu1) (by simpa using hu2) fun h' hz' ZJ ZG hi2' hnew hsz hk=> ?_;refine ⟨_,rfl, ?_⟩;refine wpAny_letOwnedTupleGo_zip hz' fun h2 Zx sb=> ?_;have hfr:H s.heap.objs.size=none:=I.hok.fresh (Nat.le_refl _)
  have I0:Inv X pins σ (upd H s.heap.objs.size (.tup [x,y])) {s with heap:=s.heap.push {cls:= .type "tuple",data:= .seq #[u1,u2]}}:=
   I.laid (t':=s.toks) (fun b u e=>Heap.get?_push_of_some _ e) (Nat.le_refl _) ⟨by show 2<=sizeLine;decide,[u1,u2],.cons ru1 (.cons ru2 .nil),⟨_,Heap.get?_push_size _ rfl,rfl,_,rfl⟩⟩
  have Xj:∀b∈[z,TI,TO,i1,i2],qW X pins (upd H s.heap.objs.size (.tup [x,y])) b:=fun b hb=>by
   refine (hf b hb).upd ?_;have hb':b=z\/b=TI\/b=TO\/b=i1\/b=i2:=by simpa using hb
   rcases hb' with rfl|rfl|rfl|rfl|rfl
   ·exact Nat.ne_of_lt zlt
   ·exact Nat.ne_of_lt aai
   ·exact Nat.ne_of_lt aah
   ·exact Nat.ne_of_lt Zw
   ·exact Nat.ne_of_lt Zv
  have I1:=I0.qY (h':=h2) (t':=s.toks) Xj (fun b o hb eb=>by
   have b1:b≠z:=fun e=>hb (by simp [e]);have b2:b≠TO:=fun e=>hb (by simp [e]);have b3:b≠i1:=fun e=>hb (by simp [e]);have b4:b≠i2:=fun e=>hb (by simp [e]);rw [sb.2 b b1];rcases Aq rfl eb with ⟨rfl,rfl⟩|eb
   ·exact hnew
   ·exact hk b o b1 b2 b3 b4 eb)
  refine ⟨.ref s.heap.objs.size,_,I1,rfl,⟨s.heap.objs.size,x,y,rfl,hfr,fun ys hy=>by rw [I.uY hy hq1];exact hx,fun ys' hy'=>by rw [I.uY hy' hq2];exact hy,rfl⟩, ?_,fun b hb=>(Xj b hb).1⟩;obtain ⟨o1,ho1,c1,d1⟩:=ZG;obtain ⟨o2,ho2,c2,d2⟩:=hi2';exact ⟨Zx,(sb.2 TI ap.TIz).trans (hk TI _ ap.TIz ap.TITO ap.TIi1 ap.TIi2 hTI),⟨_,_,(sb.2 TO ap.TOz).trans ZJ⟩,⟨o1,(sb.2 i1 ap.i1z).trans ho1,c1,d1⟩,⟨o2,(sb.2 i2 ap.i2z).trans ho2,c2,d2⟩⟩
 done:=by
  intro X hP hw hK hc i pins s σ H E I hf st hg;subst hP hw hK;obtain ⟨xs,ys,hq1,hq2,hx⟩:=hg;obtain ⟨Ih,UG,p1,hz1⟩:=I.list hq1;obtain ⟨its2,WM,p2,hz2⟩:=I.list hq2;obtain ⟨hz,hTI,⟨a,c,hTO⟩,hi1,hi2⟩:=st;have hl1:=UG.length;have hl2:=WM.length;refine wpAny_pyNext_zip_end (I.ok.hd hc) ap hz hTI hTO hi1 hi2 p1.isList p2.isList ?_ fun h' eb=>⟨rfl,I.qY (t':=s.toks) hf (fun b o hb e=>eb b o (fun z=>hb (by simp [z])) (fun z=>hb (by simp [z])) (fun z=>hb (by simp [z])) (fun z=>hb (by simp [z])) e)⟩;rcases hx with hx|hx
  ·exact .inl (by simp;lia)
  ·exact .inr (by simp;lia)
 self:=fun _ _ _ _ _ st h=>wpAny_pyIter_zip st.1 h
section
variable {X:Cx}
end
end L2
set_option Elab.async false
set_option linter.all false
set_option maxRecDepth 100000
set_option maxHeartbeats 4000000
namespace L2
open PySem PySem.Spec PyProof.Rows
section
variable {K:PySem.W.Frag} {a l1 l2 D:Addr} {xs ys:List V} {g:TG} {tc:TT} {te:TE} {Q:VK} {σ0:St} {H1:Hp}
theorem SN {n:Nat} (hn1:xs.length=n) (hn2:ys.length=n) (Pv:Nat->St->Hp->Prop) (h0:Pv 0 σ0 (upd H1 D (.lst []))) (hl:∀i σ H,i<=n->Pv i σ H->bN K H l1 xs/\bN K H l2 ys)
 (hs:∀i x y σ H p,xs[i]? = some x->ys[i]? = some y->Pv i σ H->H p=none->g (.ref p) σ (upd H p (.tup [x,y])) fun σ2 H2=>tc σ2 H2 fun b H3=>
   if b=true then te σ2 H3 fun y H4=>∃acc,H4 D=some (.lst acc)/\acc.length<sizeLine/\Pv (i+1) σ2 (upd H4 D (.lst (acc++[y]))) else Pv (i+1) σ2 H3)
 (hd:∀σ H,Pv n σ H->Q (.ref D) H):mz (Itz K l1 l2) g tc te Q D σ0 H1:=by
 refine ⟨fun i m σ H=>m=n - i/\i<=n/\Pv i σ H,⟨n,by simp,Nat.zero_le _,h0⟩, ?_⟩;rintro i m σ H ⟨rfl,hi,p⟩;obtain ⟨q1,q2⟩:=hl i σ H hi p
 by_cases hlt:i<n
 ·refine .inr ⟨⟨xs,ys,xs[i],ys[i],q1,q2,by simp [hn1,hlt],by simp [hn2,hlt]⟩,Pv (i+1),fun σ' H' p'=>⟨n - (i+1),by lia,rfl,hlt,p'⟩,fun x H' y=> ?_⟩
  obtain ⟨t,z,u,rfl,ht,hz,hu,rfl⟩:=y;exact hs i z u σ _ t (hz xs q1) (hu ys q2) p ht
 ·have e:i=n:=by lia
  subst e;exact .inl ⟨⟨xs,ys,q1,q2,.inl (by lia)⟩,hd σ H p⟩
end
section
variable {K:PySem.W.Frag} {a l1 l2:Addr} {xs ys:List V} {g:TG} {tb:TS} {D:Ends} {σ:St} {H:Hp}
theorem RZ (Pv:Nat->St->Hp->Prop) (h0:Pv 0 σ H) (hl:∀i σ H,i<=xs.length->Pv i σ H->bN K H a xs)
 (hs:∀i x σ H p,xs[i]? = some x->Pv i σ H->H p=none->g (.ref p) σ (upd H p (.tup [.int i,x])) fun σ2 H2=>tb {D with nx:=Pv (i+1),ct:=Pv (i+1),bk:=D.nx} σ2 H2) (hd:∀σ H,Pv xs.length σ H->D.nx σ H):
 ∃W:Nat->Nat->St->Hp->Prop,(∃m,W 0 m σ H) /\ ∀i m σ H,W i m σ H ->
  ((Ite K a).stop i H/\D.nx σ H)\/((Ite K a).go i H /\ ∃N:St->Hp->Prop,(∀σ' H',N σ' H' -> ∃m',m'<m/\W (i+1) m' σ' H') /\ ∀x H',(Ite K a).yld i H x H'->g x σ H' fun σ2 H2=>tb {D with nx:=N,ct:=N,bk:=D.nx} σ2 H2):=by
 refine ⟨fun i m σ H=>m=xs.length - i/\i<=xs.length/\Pv i σ H,⟨xs.length,by simp,Nat.zero_le _,h0⟩, ?_⟩;rintro i m σ H ⟨rfl,hi,p⟩;have q:=hl i σ H hi p
 by_cases hlt:i<xs.length
 ·refine .inr ⟨⟨xs,xs[i],q,by simp [hlt]⟩,Pv (i+1),fun σ' H' p'=>⟨xs.length - (i+1),by lia,rfl,hlt,p'⟩,fun x H' y=> ?_⟩
  obtain ⟨t,z,rfl,ht,hz,rfl⟩:=y;exact hs i z σ _ t (hz xs q) p ht
 ·have e:i=xs.length:=by lia
  subst e;exact .inl ⟨⟨xs,q,Nat.le_refl _⟩,hd σ H p⟩
end
section
variable {X:Cx}
theorem zx:∀{ns:List Int} {us:List Value},Vals (ns.map V.int) us->IntsAre us ns
 | [],us,r=>by cases r;exact .nil
 | n::ns,us,r=>by
   cases r with
   | cons r rs=>
     obtain ⟨t,rfl⟩:=r;exact .cons n t (zx rs)
def U8:V->List V->Hp->VK->Prop:=fun x vs H Q=>∃(l:Addr) (ns:List Int) (i:Int),x = .ref l/\vs=[.int i]/\bN X.K H l (ns.map V.int)/\Q (.int (ns.count i)) H
theorem Rk:MtR X "list.count" (U8 (X:=X)):=by
 intro pins s σ H x vs v us Q I rx rv h;obtain ⟨l,ns,i,rfl,rfl,hq,q⟩:=h;cases rx;obtain ⟨u,rfl,ru⟩:=rv.one;obtain ⟨t,rfl⟩:=ru;obtain ⟨its,r',pl,hz⟩:=I.list hq;exact count_list_ints pl.isList (zx r') ⟨.int _,H,I.tok _,⟨_,rfl⟩,q⟩
theorem z9 (ns:List Int):∀n,n<=ns.length->preSum (fun i=>(ns[i]?).getD 0) n=(ns.take n).sum
 | 0,_=>by simp [preSum]
 | n+1,h=>by
   have ih:=z9 ns n (by lia);have hn:n<ns.length:=h;rw [List.take_succ,List.sum_append,←ih];simp [preSum,hn]
def agy (K:PySem.W.Frag):List V->Hp->VK->Prop:=fun xs H Q=>∃(p:Addr) (ns:List Int),xs=[.ref p]/\bN K H p (ns.map V.int)/\Q (.int ns.sum) H
theorem DK {K:PySem.W.Frag} (hK:X.K=K) (hc:X.calm=true):jy X (.builtin "sum") (agy K):=by
 subst hK;intro pins s σ H xs us Q I r h;obtain ⟨p,ns,rfl,hq,q⟩:=h;obtain ⟨u,rfl,rx⟩:=vals1 r;cases rx;obtain ⟨its,rv,pl,hz⟩:=I.list hq;have e:=zx rv;have hlen:its.length=ns.length:=by rw [←rv.length,List.length_map]
 refine call_sum_walkG (wpAny_pyIter_list pl.isList ⟨s.heap.objs.size,[s.heap.objs.size,p],[s.heap.objs.size],its.length,_,_,fun i=>(ns[i]?).getD 0,rfl,
  zu (show X.A.in1.handled=none from I.ok.hd hc) s.heap.objs.size p ?_ its,⟨⟨_,Heap.get?_push_size _ rfl,rfl,rfl⟩, ?_⟩, ?_, ?_, ?_⟩)
 ·intro z
  obtain ⟨o,ho,_⟩:=pl.isList;have:=Heap.lt_size ho;rw [←z] at this;exact Nat.lt_irrefl _ this
 ·obtain ⟨o,ho,hcl⟩:=pl.isList
  exact ⟨o,Heap.get?_push_of_some _ ho,hcl⟩
 ·intro b hb
  have hsz:(s.heap.push {cls:= .type "list_iterator",data:= .fields #[.ref p,.int 0 0]}).objs.size=s.heap.objs.size+1:=by simp [Heap.push]
  have hb':b=s.heap.objs.size\/b=p:=by simpa using hb
  show b<(s.heap.push _).objs.size;rw [hsz];rcases hb' with rfl|rfl
  ·exact Nat.lt_succ_self _
  ·obtain ⟨o,ho,_⟩:=pl.isList
   exact Nat.lt_succ_of_lt (Heap.lt_size ho)
 ·intro i v hP
  obtain ⟨j,hj,rj⟩:∃j,ns[i]? = some j /\ ∃t,v = .int j t:=by
   have hi:i<its.length:=(List.getElem?_eq_some_iff.mp hP).1;have hv:=(rv.get (i:=i) (x:=V.int (ns[i]'(by lia))) (by simp [show i<ns.length by lia]));obtain ⟨u,hu,ru⟩:=hv;rw [hP] at hu;cases hu;obtain ⟨t,ht⟩:=ru;exact ⟨ns[i]'(by lia),by simp [show i<ns.length by lia],t,ht⟩
  obtain ⟨t,rfl⟩:=rj;exact ⟨t,by simp [hj]⟩
 ·intro h' tk t' k
  rw [z9 ns its.length (by lia),List.take_of_length_le (by lia)];have f:=I.Ar (H':=H) (b:=s.heap.objs.size) (Nat.le_refl _) (I.hok.fresh (Nat.le_refl _));have I2:Inv X pins σ H {s with heap:=h',toks:=tk}:=I.turned (h':=h') (t':=tk) (it:=s.heap.objs.size) (fun b o hb e=>k b o (by simpa using hb) (Heap.get?_push_of_some _ e)) f.1 f.2.1 f.2.2.2.1 f.2.2.2.2.1 f.2.2.2.2.2;exact ⟨.int _,H,I2,⟨_,rfl⟩,q⟩
theorem Aa {K:PySem.W.Frag} {T name id:String} {r:V->List V->Hp->VK->Prop} {o e:Expr} {es:List Expr} {to:TE} {t:TA} {apos cpos:Pos} (h:X.K=K) (pa:PlainAttrs T) (slot:Slot T name id) (hty:typeOf (.builtin id)=pure (.type "method_descriptor")) (hm:MtR X id r) (ho:PE X o to) (ha:PA X (e::es) t)
 (hbase:attributeBase o name X.env (eval o X.env)=eval o X.env:=by rfl)
 (hfew:((backTo cpos (starEach (e::es) X.env)).all (fun x=> !x.1)&&(backToKw cpos (keywordEach [] X.env)).all (fun x=>x.1.isSome)
   && decide ((e::es).length+([]:List Keyword).length+(if ([]:List Keyword).isEmpty then 0 else 1)<30))=true:=by rfl)
 (hline:(apos.endLine==cpos.line)=true:=by rfl) (hs:starEach (e::es) X.env=(false,eval e X.env)::starEach es X.env:=by rfl) (hplain:(backTo cpos (starEach es X.env)).any (·.1)=false:=by rfl):
 PE X (.Call (.Attribute o name apos) (e::es) [] cpos) (tBM K T r to t):=by
 subst h;exact WX pa slot hty hm ho ha hbase hfew hline hs hplain
def YB (K:PySem.W.Frag):V->List V->Hp->VK->Prop:=fun x vs H Q=>∃(l:Addr) (ns:List Int) (i:Int),x = .ref l/\vs=[.int i]/\bN K H l (ns.map V.int)/\Q (.int (ns.count i)) H
theorem Oc {K:PySem.W.Frag} (h:X.K=K):MtR X "list.count" (YB K):=by subst h;exact Rk
theorem Ls {K:PySem.W.Frag} {es:List Expr} {k:Nat} {t:Xw} {n:Nat} {pos:Pos} (hK:X.K=K) (hc:X.calm=true) (h:PGs X es t)
 (hn:(assignEach es X.env).length=n:=by rfl) (hst:(assignEach es X.env).findIdx? (·.1)=none:=by rfl):PG X (.Tuple es k pos) (V0 K n t):=by subst hK;exact YS hc h hn hst
end
end L2
set_option Elab.async false
set_option linter.all false
set_option maxRecDepth 100000
set_option maxHeartbeats 4000000
namespace L2
open PySem
section
variable {K:PySem.W.Frag} {a D:Addr} {xs:List V} {tc:TT} {te:TE} {Q:VK} {rest:St} {H1:Hp}
theorem d9 {α:Type} (f:Nat->Option α) (n:Nat):(List.range (n+1)).filterMap f=(List.range n).filterMap f++(f n).toList:=by
 rw [List.range_succ,List.filterMap_append];cases h:f n<;>simp [h]
theorem t_ {α:Type} (f:Nat->Option α) (n:Nat):((List.range n).filterMap f).length<=n:=by
 have:=List.length_filterMap_le f (List.range n);simpa using this
theorem Same.newly {H H1:Hp} {D:Addr} {o:HO} (h:Same H H1) (n:H D=none):Same H (upd H1 D o):=fun b u e=>by rw [aD (au e n)];exact h b u e
theorem oA (f:Nat->Option V) (hD:H1 D=none) (hq:bN K H1 a xs) (hx:xs.length<=100000)
 (hs:∀i x H (G:Hp->Prop) (F:VK),xs[i]? = some x->Same H1 H->(∀H',Same H H'->f i=none->G H')->(∀y H',Same H H'->f i=some y->F y H')->tc (some x::rest) H fun b H3=>if b=true then te (some x::rest) H3 F else G H3)
 (hd:∀H,Same H1 H->H D=some (.lst ((List.range xs.length).filterMap f))->Q (.ref D) H):mz (Wj K a) (gR 0) tc te Q D (none::rest) H1:=by
 refine jJ (K:=K) (xs:=xs) (fun i σ H=>(∃v,σ=v::rest)/\Same H1 H/\H D=some (.lst ((List.range i).filterMap f))) ⟨⟨none,rfl⟩,aH hD,ak⟩ (fun i σ H _ ⟨_,sm,_⟩=>sm.sqL _ _ hq) ?_ (fun σ H ⟨_,sm,e⟩=>hd H sm e);rintro i x σ H hi ⟨⟨v,rfl⟩,sm,e⟩;have hil:i<xs.length:=(List.getElem?_eq_some_iff.mp hi).1;refine hs i x H _ _ hi sm (fun H3 s3 ef=>⟨⟨_,rfl⟩,sm.trans s3,by rw [s3 _ _ e,d9,ef];simp⟩) (fun y H4 s4 ef=> ?_);refine ⟨_,s4 _ _ e, ?_,⟨_,rfl⟩,(sm.trans s4).newly hD, ?_⟩
 ·have:=t_ f i
  rw [sizeLine_eq];lia
 ·rw [ak,d9,ef];rfl
theorem Ov (f:Nat->Option V) (hD:H1 D=none) (hq:H1 a=some (.tup xs)) (hx:xs.length<=100000)
 (hs:∀i x H (G:Hp->Prop) (F:VK),xs[i]? = some x->Same H1 H->(∀H',Same H H'->f i=none->G H')->(∀y H',Same H H'->f i=some y->F y H')->tc (some x::rest) H fun b H3=>if b=true then te (some x::rest) H3 F else G H3)
 (hd:∀H,Same H1 H->H D=some (.lst ((List.range xs.length).filterMap f))->Q (.ref D) H):mz (Itt K a) (gR 0) tc te Q D (none::rest) H1:=by
 refine SQ (K:=K) (xs:=xs) (fun i σ H=>(∃v,σ=v::rest)/\Same H1 H/\H D=some (.lst ((List.range i).filterMap f))) ⟨⟨none,rfl⟩,aH hD,ak⟩ (fun i σ H _ ⟨_,sm,_⟩=>cN.of (sm.tups _ _ hq)) ?_ (fun σ H ⟨_,sm,e⟩=>hd H sm e);rintro i x σ H hi ⟨⟨v,rfl⟩,sm,e⟩;have hil:i<xs.length:=(List.getElem?_eq_some_iff.mp hi).1;refine hs i x H _ _ hi sm (fun H3 s3 ef=>⟨⟨_,rfl⟩,sm.trans s3,by rw [s3 _ _ e,d9,ef];simp⟩) (fun y H4 s4 ef=> ?_);refine ⟨_,s4 _ _ e, ?_,⟨_,rfl⟩,(sm.trans s4).newly hD, ?_⟩
 ·have:=t_ f i
  rw [sizeLine_eq];lia
 ·rw [ak,d9,ef];rfl
theorem ou {n:Nat} (f:Nat->Option V) (hD:H1 D=none) (hx:n<=100000)
 (hs:∀i H (G:Hp->Prop) (F:VK),i<n->Same H1 H->(∀H',Same H H'->f i=none->G H')->(∀y H',Same H H'->f i=some y->F y H')->tc (some (.int (0+i))::rest) H fun b H3=>if b=true then te (some (.int (0+i))::rest) H3 F else G H3)
 (hd:∀H,Same H1 H->H D=some (.lst ((List.range n).filterMap f))->Q (.ref D) H):mz (Uc 0 n) (gR 0) tc te Q D (none::rest) H1:=by
 refine uf (lo:=0) (n:=n) (fun i σ H=>(∃v,σ=v::rest)/\Same H1 H/\H D=some (.lst ((List.range i).filterMap f))) ⟨⟨none,rfl⟩,aH hD,ak⟩ ?_ (fun σ H ⟨_,sm,e⟩=>hd H sm e);rintro i σ H hi ⟨⟨v,rfl⟩,sm,e⟩;refine hs i H _ _ hi sm (fun H3 s3 ef=>⟨⟨_,rfl⟩,sm.trans s3,by rw [s3 _ _ e,d9,ef];simp⟩) (fun y H4 s4 ef=> ?_);refine ⟨_,s4 _ _ e, ?_,⟨_,rfl⟩,(sm.trans s4).newly hD, ?_⟩
 ·have:=t_ f i
  rw [sizeLine_eq];lia
 ·rw [ak,d9,ef];rfl
theorem Ou {l1 l2:Addr} {ys:List V} {n:Nat} (hn1:xs.length=n) (hn2:ys.length=n) (f:Nat->Option V) (hD:H1 D=none) (hq1:bN K H1 l1 xs) (hq2:bN K H1 l2 ys) (hx:n<=100000)
 (hs:∀i x y H (G:Hp->Prop) (F:VK),xs[i]? = some x->ys[i]? = some y->Same H1 H->(∀H',Same H H'->f i=none->G H')->(∀y H',Same H H'->f i=some y->F y H')->tc (some x::some y::rest) H fun b H3=>if b=true then te (some x::some y::rest) H3 F else G H3)
 (hd:∀H,Same H1 H->H D=some (.lst ((List.range n).filterMap f))->Q (.ref D) H):mz (Itz K l1 l2) (V0 K 2 (Im (gR 0) (Im (gR 1) ZP))) tc te Q D (none::none::rest) H1:=by
 refine SN (K:=K) (xs:=xs) (ys:=ys) hn1 hn2 (fun i σ H=>(∃u v,σ=u::v::rest)/\Same H1 H/\H D=some (.lst ((List.range i).filterMap f))) ⟨⟨none,none,rfl⟩,aH hD,ak⟩ (fun i σ H _ ⟨_,sm,_⟩=>⟨sm.sqL _ _ hq1,sm.sqL _ _ hq2⟩) ?_ (fun σ H ⟨_,sm,e⟩=>hd H sm e);rintro i x y σ H p hix hiy ⟨⟨u,v,rfl⟩,sm,e⟩ hp;have sp:=aH (o:=HO.tup [x,y]) hp;refine ⟨p,[x,y],rfl,cN.of ak,rfl,_,_,rfl,_,_,rfl,rfl, ?_⟩;have hil:i<xs.length:=(List.getElem?_eq_some_iff.mp hix).1;refine hs i x y _ _ _ hix hiy (sm.trans sp) (fun H3 s3 ef=>⟨⟨_,_,rfl⟩,(sm.trans sp).trans s3,by rw [s3 _ _ (sp _ _ e),d9,ef];simp⟩) (fun y H4 s4 ef=> ?_);refine ⟨_,s4 _ _ (sp _ _ e), ?_,⟨_,_,rfl⟩,((sm.trans sp).trans s4).newly hD, ?_⟩
 ·have:=t_ f i
  rw [sizeLine_eq];lia
 ·rw [ak,d9,ef];rfl
theorem Ip {α β:Type} {f g:α->Option β}:∀(l:List α) (_:True) (h:∀x∈l,f x=g x),l.filterMap f=l.filterMap g
 | [],_,_=>rfl
 | x::l,_,h=>by
   rw [List.filterMap_cons,List.filterMap_cons,h x (by simp),Ip l trivial fun y hy=>h y (by simp [hy])]
theorem snocInd {α:Type} {P:List α->Prop} (h0:P []) (hs:∀xs x,P xs->P (xs++[x])) (xs:List α):P xs:=by
 rw [←List.reverse_reverse xs]
 induction xs.reverse with
 | nil=>exact h0
 | cons x l ih=>rw [List.reverse_cons];exact hs _ _ ih
theorem Mr {α β:Type} (xs:List α) (g:α->β):(List.range xs.length).filterMap (fun i=>(xs[i]?).map g)=xs.map g:=by
 refine snocInd (P:=fun xs=>(List.range xs.length).filterMap (fun i=>(xs[i]?).map g)=xs.map g) rfl (fun xs x ih=> ?_) xs
 ·show (List.range (xs++[x]).length).filterMap (fun i=>((xs++[x])[i]?).map g)=(xs++[x]).map g
  rw [List.length_append,List.length_singleton,d9,List.map_append];congr 1
  ·rw [←ih]
   refine Ip _ trivial fun i hi=> ?_;have:i<xs.length:=by simpa using hi
   rw [List.getElem?_append_left this]
  ·simp
end
end L2
namespace L2
open PySem
section
variable {X:Cx} {K:PySem.W.Frag}
end
end L2
namespace L2
open PySem
theorem uL {a b:TS} {D:Ends} {σ:St} {H:Hp} (h:∀R:St->Hp->Prop,(∀σ' H',b D σ' H'->R σ' H')->a {D with nx:=R} σ H):X8 a b D σ H:=h _ (fun _ _ x=>x)
theorem Li {a b:TS} {D:Ends} {σ:St} {H:Hp} (P:St->Hp->Prop) (h1:∀D':Ends,(∀σ' H',P σ' H'->D'.nx σ' H')->D'.rt=D.rt->a D' σ H) (h2:∀σ' H',P σ' H'->b D σ' H'):X8 a b D σ H:=h1 _ h2 rfl
end L2
namespace L2
open PySem PySem.Spec PyProof.Rows
section
variable {X:Cx} {K:PySem.W.Frag} {a:Expr} {ta:TE} {pos:Pos}
def afz (K:PySem.W.Frag) (ta:TE):TT:=fun σ H Q=>ta σ H fun x H'=>∃k,aag K x H' k/\Q k H'
theorem CP (h:X.K=K) (ha:PE X a ta) (he:∀whole,isTrue a X.env whole=(do let v ←whole;standAt a.pos;holding [v] (truthy v)):=by intro _;rfl):PT X a (afz K ta):=by
 subst h;exact Qy ha he
end
end L2
set_option Elab.async false
set_option linter.all false
set_option maxRecDepth 100000
set_option maxHeartbeats 4000000
namespace L2
open PySem PySem.Spec PyProof.Rows
section
variable {X:Cx} {K:PySem.W.Frag}
theorem Vi {T name id:String} {r:V->List V->Hp->VK->Prop} {o:Expr} {to:TE} {apos cpos:Pos} (h:X.K=K) (pa:PlainAttrs T) (slot:Slot T name id) (hty:typeOf (.builtin id)=pure (.type "method_descriptor")) (hm:MtR X id r) (ho:PE X o to)
 (hbase:attributeBase o name X.env (eval o X.env)=eval o X.env:=by rfl) (hline:(apos.endLine==cpos.line)=true:=by rfl):PE X (.Call (.Attribute o name apos) [] [] cpos) (abf K T r to):=by
 subst h;exact YZ pa slot hty hm ho hbase hline
end
section
variable {K:PySem.W.Frag} {a D:Addr} {xs:List V} {te:TE} {Q:VK} {rest:St} {H1:Hp}
theorem Dw {H:Hp} {vs:List V} {ds:List PyData} {v:V} {d:PyData} (h:aR H vs ds) (hd:Dat H v d):aR H (vs++[v]) (ds++[d]):=aR.append h (by simp only [aR,and_true];exact hd)
end
end L2
set_option Elab.async false
set_option linter.all false
namespace L2
open PySem
def Gv (mg:Str->Option Value) (x:Str) (v:V):Prop:=∃u,mg x=some u/\RelV v u
end L2
set_option Elab.async false
set_option linter.all false
set_option maxRecDepth 100000
set_option maxHeartbeats 4000000
namespace L2
open PySem PySem.Spec PyProof.Rows
section
variable {prog:Program} {w:World} {K:Type} [DecidableEq K] {knd:HeapKind prog w K}
theorem KY {xs:List (K×Addr×Value)} {k:K} (h:∀(j:Nat) (p:Addr×Value),xs[j]? ≠ some (k,p)):atKey xs k=none:=by
 unfold atKey;rw [Option.map_eq_none_iff,List.find?_eq_none];intro x hx e;obtain ⟨j,hj⟩:=List.getElem?_of_mem hx;have e':x.1=k:=of_decide_eq_true e;exact h j x.2 (by rw [hj,←e'])
theorem KQ {xs:List (K×Addr×Value)} {k:K} {j:Nat} {p:Addr×Value} (hn:(xs.map (·.1)).Nodup) (h:xs[j]? = some (k,p)):atKey xs k=some p:=by
 unfold atKey
 induction xs generalizing j with
 | nil=>cases h
 | cons x xs ih=>
   rw [List.find?_cons];cases j with
   | zero=>
     have:x=(k,p):=by simpa using h
     subst this;simp
   | succ j=>
     have hj:xs[j]? = some (k,p):=by simpa using h
     have hn':=List.nodup_cons.mp (by simpa using hn:(x.1::xs.map (·.1)).Nodup);have ne:¬x.1=k:=fun z=>hn'.1 (by rw [z];exact List.mem_map.mpr ⟨(k,p),List.mem_of_getElem? hj,rfl⟩);rw [decide_eq_false ne];exact ih hn'.2 hj
theorem rO {A:Around} {E:Value->Shared->Prop} {s:Shared} {d a:Addr} {xs:List (K×Addr×Value)} {k:K} {dflt:Value} {Q:Value->Shared->Prop}
 (hr:knd.room A) (hk:knd.is s.heap k a) (dd:Heap.DictOfH knd s.heap d xs) (hz:xs.length<=sizeLine)
 (h1:∀p,atKey xs k=some p->Q p.2 {s with toks:=s.toks+knd.draws k})
 (h2:atKey xs k=none -> ∀h',Heap.DictOfH knd h' d (xs++[(k,a,dflt)])->Heap.SameBut d s.heap h'->Q dflt {s with heap:=h',toks:=s.toks+knd.draws k}):
 wpAny (model prog w) A (dictSetDefault d (.ref a) dflt) Q E s:=by
 unfold dictSetDefault;refine wpAny_holding (wpAny_bind (knd.pyHash hr hk ?_));obtain ⟨o,es,ep,ho,hx,hd,he,hi,hn⟩:=id dd;have hl:es.size=xs.length:=by rw [←Array.length_toList,he,List.length_map]
 refine wpAny_bind (wpAny_dictFind_heap (s:={s with toks:=s.toks+knd.draws k}) hr hk ho hd he hi hn (fun hno=> ?_) (fun j p hj=> ?_))
 ·refine wpAny_bind (wpAny_rule ?_)
  have an:=KY hno;refine wpAny_bind (wpAny_updateDictKeys (s:={s with toks:=s.toks+knd.draws k}) ho hd ?_ (by lia) (by simp));refine wpAny_pure ?_;have sb:=Heap.SameBut.update s.heap d (Obj.mapDictKeys fun x=>x.push {hash:=knd.hash k,key:= .ref a,val:=dflt});refine h2 an _ ?_ sb;obtain ⟨oc,od,ao_,osl⟩:=o;simp only at hd;subst hd;refine ⟨_,es.push {hash:=knd.hash k,key:= .ref a,val:=dflt},ep+1,Heap.get?_update_self _ ho ?_,hx,rfl, ?_, ?_, ?_⟩
  ·obtain ⟨c1,c2,c3⟩:=hx
   simp only at c1;subst c1;rfl
  ·rw [Array.toList_push,he,List.map_append];rfl
  ·intro x hxm
   rcases List.mem_append.mp hxm with hxm|hxm
   ·exact knd.keeps (hi x hxm) ho rfl sb
   ·have:x=(k,a,dflt):=by simpa using hxm
    subst this;exact knd.keeps hk ho rfl sb
  ·rw [List.map_append]
   refine List.nodup_append.mpr ⟨hn,by simp, ?_⟩;intro y hy z hz' e;have:z=k:=by simpa using hz'
   subst this;subst e;obtain ⟨x,hx',rfl⟩:=List.mem_map.mp hy;obtain ⟨j,hj⟩:=List.getElem?_of_mem hx';exact hno j x.2 hj
 ·refine wpAny_bind (wpAny_dictEntries (s:={s with toks:=s.toks+knd.draws k}) ho hd ?_)
  have ej:es[j]? = some (entryOfKey knd (k,p)):=by
   rw [←Array.getElem?_toList,he,List.getElem?_map,hj];rfl
  rw [ej];exact wpAny_bind (wpAny_rule (wpAny_pure (h1 p (KQ hn hj))))
theorem uX (knd:HeapKind prog w K) (d a:Addr) (hd:(d==sysModules)=false) (dflt:Value):MeetsIn prog w (Builtin.«dict.setdefault» {pos:=[.ref d,.ref a,dflt]}) fun A R s=>
 knd.room A.in1 /\ ∃k xs,knd.is s.heap k a/\Heap.DictOfH knd s.heap d xs/\xs.length<=sizeLine/\(∀p,atKey xs k=some p->R (.ok (.ret p.2)) {s with toks:=s.toks+knd.draws k}) /\
  (atKey xs k=none -> ∀h',Heap.DictOfH knd h' d (xs++[(k,a,dflt)])->Heap.SameBut d s.heap h'->R (.ok (.ret dflt)) {s with heap:=h',toks:=s.toks+knd.draws k}):=by
 rintro A R s ⟨hr,k,xs,hk,dd,hz,h1,h2⟩;obtain ⟨o,es,ep,ho,hx,hdat,_⟩:=id dd;unfold Builtin.«dict.setdefault»;have ht:s.TypeIs (.ref d) "dict" :=⟨o,ho,hx.1⟩;refine wpAny_bind ?_;unfold Builtin.Dict.keyAndDefault;refine wpAny_bind ?_;unfold Builtin.Dict.notOrdered;rw [if_pos (by decide)];refine wpAny_bind (wpAny_typeOf ht ?_);rw [if_neg (by decide)];refine wpAny_pure ?_;refine wpAny_bind ?_;unfold Builtin.Dict.nameIsSure;rw [if_neg (by show ¬(false=true);decide)];refine wpAny_pure ?_;refine wpAny_bind ?_;unfold selfAndSome noKeywords;refine wpAny_bind ?_;rw [if_pos (by rfl)];refine wpAny_pure ?_;show wpAny (model prog w) A.in1 (checkCount "setdefault" 1 2 2 >>= fun _=>pure (Value.ref d,[Value.ref a,dflt])) _ _ s;refine wpAny_bind ?_;have ck:checkCount "setdefault" 1 2 2=pure ():=rfl;rw [ck];refine wpAny_pure (wpAny_pure ?_);show wpAny (model prog w) A.in1 (Builtin.Dict.addrOf (.ref d) >>= fun x=>pure (x,Value.ref a,some dflt)) _ _ s;refine wpAny_bind (wpAny_pure (wpAny_pure ?_));show wpAny (model prog w) A.in1 (if (d==sysModules)=true then _ else (dictSetDefault d (.ref a) dflt >>= fun v=>ret v)) _ _ s;rw [if_neg (by rw [hd];decide)];refine wpAny_bind (rO hr hk dd hz (fun p hp=>wpAny_pure (h1 p hp)) (fun hn h' dd' sb=>wpAny_pure (h2 hn h' dd' sb)))
end
section
variable {X:Cx} {o e f:Expr} {td ty tx:TE} {apos cpos:Pos}
def Ye (td ty tx:TE):TE:=fun σ H Q=>td σ H fun x H1=>∃a,x = .ref a/\IsD H1 a/\ty σ H1 fun y H2=>tx σ H2 fun z H3=>∃kvs k b,H3 a=some (.dT kvs)/\y = .ref b/\H3 b=some (.tup (k.map kV))/\kvs.length<sizeLine /\
 (∀v,gH kvs k=some v->Q v H3)/\(gH kvs k=none->Q z (upd H3 a (.dT (putK kvs k z))))
theorem QM (hu:X.A.units+1<cLine) (ho:PE X o td) (he:PE X e ty) (hf:PE X f tx) (m:M2 X o "setdefault" apos e f cpos):PE X (.Call (.Attribute o "setdefault" apos) [e,f] [] cpos) (Ye td ty tx):=by
 intro pins s σ H Q I h;refine wpAny_Call_method m.base m.few m.line PySem.F.plainAttrs_dict PySem.F.slot_dict_setdefault PySem.F.type_dict_setdefault (dN (ho pins s σ H _ I h) fun u s1 ⟨x,H1,I1,rx,a,ex,d,q1⟩=> ?_);subst ex;obtain rfl:u=Value.ref a:=rx;obtain ⟨t1,t2,_⟩:=RD I1 d;refine ⟨t1,t2, ?_⟩;rw [m.trees]
 refine Calls.callWith_builtin rfl (Calls.evalArgs_plain (Calls.spliced_cons (dN (he pins s1 σ H1 _ I1 q1) fun iv s2 ⟨y,H2,I2,ry,q2⟩=>
  Calls.spliced_cons (dN (hf pins s2 σ H2 _ I2 q2) fun fv s3 ⟨z,H3,I3,rz,kvs,k,b,ea,ey,eb,hl,q3,q4⟩=>Calls.spliced_nil ?_))))
 subst ey;cases (show iv=Value.ref b from ry);obtain ⟨hz,hd,xs,rel,dd⟩:=acQ I3.hok ea;have hz':xs.length<=sizeLine:=by rw [←Paired.length rel];exact hz
 have rv:=rel.val k;refine call_meetsIn PySem.F.slot_dict_setdefault dd.typeIs PySem.F.entry_dict_setdefault (PySem.F.args_dict_setdefault_3 _ _ _) (uX (tupleKind (gC X.prog X.w)) a b hd fv) ⟨tupleKind_room_in1 hu,k,xs,Kl I3.hok eb,dd,hz',fun p hp=> ?_,fun hn h' dd' sb=> ?_⟩
 ·rw [hp] at rv
  cases lv:gH kvs k with
  | none=>rw [lv] at rv;exact absurd rv (by simp [nu])
  | some v=>
    rw [lv] at rv;exact ⟨v,H3,I3.tok _,rv,q3 v lv⟩
 ·rw [hn] at rv
  have lv:gH kvs k=none:=by
   cases lv:gH kvs k with
   | none=>rfl
   | some v=>rw [lv] at rv;exact absurd rv (by simp [nu])
  have hl':(putK kvs k z).length<=sizeLine:=by have:=xq kvs k z;lia
  obtain ⟨q,es,ep,hq,h2,h3,h4,_,h5⟩:=dd';have est:storedH xs k b fv=xs++[(k,b,fv)]:=by unfold storedH;rw [hn];rfl
  have rp:=rel.put k eb rz;rw [est] at rp;refine ⟨z,upd H3 a (.dT (putK kvs k z)),V9 (ob:= .dT (putK kvs k z)) I3 (by rw [ea];exact True.intro) sb ⟨q,hq⟩ ⟨hl',hd,_,rp.keeps fun c ys ec=> ?_,q,es,ep,hq,h2,h3,h4,h5⟩,rz,q4 lv⟩;rw [aD (dX ec ea (fun z=>nomatch z))];exact ec
end
end L2
namespace L2
open PySem PySem.Spec PyProof.Rows
section
variable {X:Cx} {K:PySem.W.Frag}
def aby (K:PySem.W.Frag):V->V->Hp->VK->Prop:=fun x y H Q=>∃p xs i v,x = .ref p/\y = .int i/\bN K H p xs/\0<=i/\xs[i.toNat]? = some v/\Q v H
theorem JX (h:X.K=K):adN X (aby K):=by
 subst h;intro pins s σ H o i ov iv Q I ro ri h;obtain ⟨p,xs,k,v,rfl,rfl,hq,k0,he,q⟩:=h;cases ro;obtain ⟨t,rfl⟩:=ri;obtain ⟨its,r,pl,hz⟩:=I.list hq;obtain ⟨w,ew,rw'⟩:=r.get he;have hl:=r.length;have hn:=wC;have:k.toNat<xs.length:=(List.getElem?_eq_some_iff.mp he).1;exact getItem_listL pl.isList k0 (by lia) ew ⟨v,H,I,rw',q⟩
end
end L2
namespace L2
open PySem
theorem Iw {K:PySem.W.Frag} {T:String} {r:V->List V->Hp->VK->Prop} {to:TE} {t:TA} {D:Ends} {σ:St} {H:Hp} (P:V->Hp->Prop) (h1:∀Q':VK,(∀v H',P v H'->Q' v H')->to σ H Q') (h2:∀v H',P v H'->tyV K T v H'/\t σ H' fun xs H2=>r v xs H2 fun _ H3=>D.nx σ H3):Wz (tBM K T r to t) D σ H:=h1 _ h2
end L2
set_option Elab.async false
set_option linter.all false
set_option maxRecDepth 100000
set_option maxHeartbeats 4000000
namespace L2
open PySem PySem.Spec PyProof.Rows
section
variable {X:Cx} {K:PySem.W.Frag}
end
def cat:List Str->Str
 | []=>Str.empty
 | x::xs=>x++cat xs
end L2
set_option Elab.async false
set_option linter.all false
set_option maxRecDepth 100000
set_option maxHeartbeats 4000000
namespace L2
open PySem PySem.Spec PyProof.Rows
section
variable {X:Cx} {body suite:List Stmt} {b0:Stmt} {cn:Str} {Dc:Addr} {tb:(St->XK)->TS} {th:TS} {cp hpos pos:Pos}
end
end L2
namespace L2
open PySem PySem.Spec PyProof.Rows
section
variable {X:Cx}
def adT (i j:Int):Prop:=0<j/\j<1329227995784915872903807060280344576
theorem Hs:rZ X (binaryOp .FloorDiv) (rI adT fun i j=> .int (i / j)):=opI fun i j _ _ _ _ _ hc q=>by
 have h1:(0:Int)<j:=hc.1;have h2:j<1329227995784915872903807060280344576:=hc.2;refine floordiv_int (by lia) (by rw [Int.fdiv_eq_ediv_of_nonneg i (by lia)];exact q) (.inl ?_);unfold Builtin.divisionGoesByPylong;have hn:j.natAbs<2 ^ 120:=by lia
 have hl:j.natAbs.log2<120:=(Nat.log2_lt (by lia)).mpr hn
 have hz:(j==0)=false:=by
  rw [beq_eq_false_iff_ne];lia
 simp only [hz,Bool.false_eq_true,if_false];have:¬j.natAbs.log2 / 30+1>300:=by lia
 rw [decide_eq_false this,Bool.false_and]
end
end L2
set_option Elab.async false
set_option linter.all false
set_option maxRecDepth 100000
set_option maxHeartbeats 4000000
namespace L2
open PySem PySem.Spec PyProof.Rows
section
variable {X:Cx} {pins:List (Addr×Obj)} {σ:St} {H:Hp} {s:Shared} {d:Addr} {u u':HO}
end
section
variable {X:Cx} {tg:Expr}
end
section
variable {d D:Addr} {o:Obj} {kvs:List (Key×V)} {tc:TT} {te:TE} {Q:VK} {rest:St} {H1:Hp}
end
end L2
set_option Elab.async false
set_option linter.all false
set_option maxRecDepth 100000
set_option maxHeartbeats 4000000
namespace L2
open PySem PySem.Spec PyProof.Rows
section
variable {X:Cx} {tg:Expr}
end
end L2
set_option Elab.async false
set_option linter.all false
set_option maxRecDepth 100000
set_option maxHeartbeats 4000000
namespace L2
open PySem PySem.Spec PyProof.Rows
section
variable {X:Cx} {tg:Expr}
end
end L2
set_option Elab.async false
set_option linter.all false
set_option maxRecDepth 100000
set_option maxHeartbeats 4000000
namespace L2
open PySem PySem.Spec PyProof.Rows
section
variable {X:Cx}
end
end L2
set_option Elab.async false
set_option linter.all false
set_option maxRecDepth 100000
set_option maxHeartbeats 4000000
namespace L2
open PySem PySem.Spec PyProof.Rows
section
variable {H H':Hp}
mutual
theorem Dat.same (k:Same H H'):∀(d:PyData) {v:V},Dat H v d->Dat H' v d
 | .none,_,h=>by simp only [Dat] at h ⊢;exact h
 | .bool _,_,h=>by simp only [Dat] at h ⊢;exact h
 | .int _,_,h=>by simp only [Dat] at h ⊢;exact h
 | .str _,_,h=>by simp only [Dat] at h ⊢;exact h
 | .list ds,_,h=>by simp only [Dat] at h ⊢;obtain ⟨a,vs,e,q,r⟩:=h;exact ⟨a,vs,e,k _ _ q,aR.same k ds r⟩
 | .tuple ds,_,h=>by simp only [Dat] at h ⊢;obtain ⟨a,vs,e,q,r⟩:=h;exact ⟨a,vs,e,k _ _ q,aR.same k ds r⟩
 | .dict _,_,h=>by simp only [Dat] at h
theorem aR.same (k:Same H H'):∀(ds:List PyData) {vs:List V},aR H vs ds->aR H' vs ds
 | [],[],_=>by simp only [aR]
 | d::ds,v::vs,h=>by simp only [aR] at h ⊢;exact ⟨Dat.same k d h.1,aR.same k ds h.2⟩
 | _::_,[],h=>by simp only [aR] at h
 | [],_::_,h=>by simp only [aR] at h
end
end
section
variable {X:Cx} {K:PySem.W.Frag}
theorem qH (K:PySem.W.Frag):PySem.W.kitOne K (.type "tuple") (.type "list")=some false:=by kernel_rfl
theorem lX (K:PySem.W.Frag):PySem.W.kitOne K (.type "list") (.type "tuple")=some false:=by kernel_rfl
end
section
variable {K:PySem.W.Frag} {a D:Addr} {xs:List V} {tc:TT} {te:TE} {Q:VK} {rest:St} {H1:Hp}
theorem FN {f:Nat->Option PyData} (hf:∀i d,f i=some d->GZ d=true):∀l:List Nat,tX (l.filterMap f)=true
 | []=>rfl
 | i::l=>by
   rw [List.filterMap_cons];cases e:f i with
   | none=>exact FN hf l
   | some d=>simp only [tX,hf i d e,FN hf l,Bool.and_self]
theorem Oz (f:Nat->Option PyData) (hf:∀i d,f i=some d->GZ d=true) (hD:H1 D=none) (hq:bN K H1 a xs) (hx:xs.length<=100000)
 (hs:∀i x H (G:Hp->Prop) (F:VK),xs[i]? = some x->Same H1 H->(∀H',Same H H'->f i=none->G H')->(∀y d H',Same H H'->f i=some d->Dat H' y d->F y H')->tc (some x::rest) H fun b H3=>if b=true then te (some x::rest) H3 F else G H3)
 (hd:∀H vs,Same H1 H->H D=some (.lst vs)->aR H vs ((List.range xs.length).filterMap f)->Q (.ref D) H):mz (Wj K a) (gR 0) tc te Q D (none::rest) H1:=by
 refine jJ (K:=K) (xs:=xs) (fun i σ H=>(∃v,σ=v::rest)/\Same H1 H /\ ∃vs,H D=some (.lst vs)/\aR H vs ((List.range i).filterMap f)) ⟨⟨none,rfl⟩,aH hD,[],ak,by simp [aR]⟩ (fun i σ H _ ⟨_,sm,_⟩=>sm.sqL _ _ hq) ?_ (fun σ H ⟨_,sm,vs,e,d⟩=>hd H vs sm e d);rintro i x σ H hi ⟨⟨v,rfl⟩,sm,vs,e,d⟩;have hil:i<xs.length:=(List.getElem?_eq_some_iff.mp hi).1;have im:=FN hf (List.range i);refine hs i x H _ _ hi sm (fun H3 s3 ef=>⟨⟨_,rfl⟩,sm.trans s3,vs,s3 _ _ e, ?_⟩) (fun y dd H4 s4 ef dy=> ?_)
 ·rw [d9,ef]
  simpa using aR.keep s3.tups _ im d
 ·have hl:vs.length<=i:=by rw [d.length];exact t_ f i
  have kp:Kp D H4 (upd H4 D (.lst (vs++[y]))):=Kp.set;have tp:=kp.tups (s4 _ _ e);refine ⟨vs,s4 _ _ e, ?_,⟨_,rfl⟩,(sm.trans s4).newly hD,vs++[y],ak, ?_⟩
  ·rw [sizeLine_eq];lia
  ·rw [d9,ef]
   exact Dw (aR.keep (fun a xs h=>tp _ _ (s4.tups _ _ h)) _ im d) (Dat.keep tp _ (hf i dd ef) dy)
end
section
variable {X:Cx}
def YD:R2:=fun x y H Q=>∃a b xs ys,x = .ref a/\y = .ref b/\H a=some (.tup xs)/\H b=some (.tup ys)/\xs.length+ys.length<=sizeLine /\ ∀p H',H' p=some (.tup (xs++ys))->Same H H'->Q (.ref p) H'
theorem QW:rZ X (binaryOp .Add) YD:=by
 intro pins s σ H x y v u Q I rx ry h;obtain ⟨a,b,xs,ys,rfl,rfl,ha,hb,hz,q⟩:=h;cases rx;cases ry;obtain ⟨its,r1,p1,_⟩:=I.tuple (cN.of ha);obtain ⟨its2,r2,p2,_⟩:=I.tuple (cN.of hb)
 by_cases hv:its=[]
 ·obtain ⟨⟨cls,dd,data,sl⟩,ho,hc,n,hd⟩:=id p1
  obtain ⟨⟨cls2,dd2,data2,sl2⟩,ho2,hc2,n2,hd2⟩:=id p2;simp only at hc hd hc2 hd2;subst hc hd hc2 hd2
  exact concat_meets ⟨_,ho,rfl⟩ ⟨_,ho2,rfl⟩ noFill_tuple_add seq_tuple_add PySem.F.slot_tuple_add PySem.F.entry_tuple_add (PySem.F.args_tuple_add_2 _ _)
   (tuple_addW0 a b its.toArray its2.toArray n n2 dd dd2 sl sl2 (by simp [hv])) ⟨ho,ho2,⟨.ref b,H,I,rfl,q b H (by rw [hb,r1.L_.mp hv];rfl) (Same.refl _)⟩⟩
 refine HT.Wb p1 p2 hv (fun z=>⟨.ref a,H,I,rfl,q a H (by rw [ha,r2.L_.mp z,List.append_nil]) (Same.refl _)⟩) (fun z=> ?_) (by rw [←r1.length,←r2.length];exact hz);have fr:=I.hok.fresh (Nat.le_refl s.heap.objs.size);refine ⟨.ref s.heap.objs.size,_,I.laid (t':=s.toks) (o:= .tup (xs++ys)) (fun b ob q=>Heap.get?_push_of_some _ q) (Nat.le_refl _) ?_,rfl,q _ _ ak (aH fr)⟩;exact ⟨by rw [List.length_append];exact hz,_,r1.append r2,IsTup.new _ _⟩
end
end L2
set_option Elab.async false
set_option linter.all false
set_option maxRecDepth 100000
set_option maxHeartbeats 4000000
namespace L2
open PySem PySem.Spec PyProof.Rows
section
variable {X:Cx} {K:PySem.W.Frag} {e st:Expr} {te tk:TE} {pos p2:Pos}
end
end L2
set_option Elab.async false
set_option linter.all false
set_option maxRecDepth 100000
set_option maxHeartbeats 4000000
namespace L2
open PySem PySem.Spec PyProof.Rows
section
variable {H:Hp}
mutual
theorem Dat.fn:∀(d e:PyData) {v:V},Dat H v d->Dat H v e->d=e
 | .none,e,v,h,g=>by cases e<;>simp only [Dat] at h g<;>first |rfl|(subst h;first |(obtain ⟨_,_,z,_⟩:=g;cases z;done)|(cases g;done))
 | .bool _,e,v,h,g=>by cases e<;>simp only [Dat] at h g<;>first |(subst h;first |(injection g with g;rw [g];done)|(obtain ⟨_,_,z,_⟩:=g;cases z;done)|(cases g;done))
 | .int _,e,v,h,g=>by cases e<;>simp only [Dat] at h g<;>first |(subst h;first |(injection g with g;rw [g];done)|(obtain ⟨_,_,z,_⟩:=g;cases z;done)|(cases g;done))
 | .str _,e,v,h,g=>by cases e<;>simp only [Dat] at h g<;>first |(subst h;first |(injection g with g;rw [g];done)|(obtain ⟨_,_,z,_⟩:=g;cases z;done)|(cases g;done))
 | .list ds,.list es,v,h,g=>by
   simp only [Dat] at h g;obtain ⟨a,vs,rfl,ha,da⟩:=h;obtain ⟨b,ws,e,hb,db⟩:=g;injection e with e
   subst e;rw [ha] at hb;injection hb with hb
   injection hb with hb
   subst hb;rw [aR.fn ds es da db]
 | .tuple ds,.tuple es,v,h,g=>by
   simp only [Dat] at h g;obtain ⟨a,vs,rfl,ha,da⟩:=h;obtain ⟨b,ws,e,hb,db⟩:=g;injection e with e
   subst e;rw [ha] at hb;injection hb with hb
   injection hb with hb
   subst hb;rw [aR.fn ds es da db]
 | .list ds,.tuple es,v,h,g=>by
   simp only [Dat] at h g;obtain ⟨a,vs,rfl,ha,da⟩:=h;obtain ⟨b,ws,e,hb,db⟩:=g;injection e with e
   subst e;rw [ha] at hb;injection hb with hb
   cases hb
 | .tuple ds,.list es,v,h,g=>by
   simp only [Dat] at h g;obtain ⟨a,vs,rfl,ha,da⟩:=h;obtain ⟨b,ws,e,hb,db⟩:=g;injection e with e
   subst e;rw [ha] at hb;injection hb with hb
   cases hb
 | .list ds,.none,v,h,g=>by simp only [Dat] at h g;obtain ⟨a,vs,rfl,_⟩:=h;cases g
 | .list ds,.bool _,v,h,g=>by simp only [Dat] at h g;obtain ⟨a,vs,rfl,_⟩:=h;cases g
 | .list ds,.int _,v,h,g=>by simp only [Dat] at h g;obtain ⟨a,vs,rfl,_⟩:=h;cases g
 | .list ds,.str _,v,h,g=>by simp only [Dat] at h g;obtain ⟨a,vs,rfl,_⟩:=h;cases g
 | .tuple ds,.none,v,h,g=>by simp only [Dat] at h g;obtain ⟨a,vs,rfl,_⟩:=h;cases g
 | .tuple ds,.bool _,v,h,g=>by simp only [Dat] at h g;obtain ⟨a,vs,rfl,_⟩:=h;cases g
 | .tuple ds,.int _,v,h,g=>by simp only [Dat] at h g;obtain ⟨a,vs,rfl,_⟩:=h;cases g
 | .tuple ds,.str _,v,h,g=>by simp only [Dat] at h g;obtain ⟨a,vs,rfl,_⟩:=h;cases g
 | .list ds,.dict _,v,h,g=>by simp only [Dat] at g
 | .tuple ds,.dict _,v,h,g=>by simp only [Dat] at g
 | .dict _,_,v,h,g=>by simp only [Dat] at h
theorem aR.fn:∀(ds es:List PyData) {vs:List V},aR H vs ds->aR H vs es->ds=es
 | [],[],_,_,_=>rfl
 | d::ds,e::es,v::vs,h,g=>by
   simp only [aR] at h g;rw [Dat.fn d e h.1 g.1,aR.fn ds es h.2 g.2]
 | [],_::_,[],_,g=>by simp only [aR] at g
 | [],_::_,_::_,h,_=>by simp only [aR] at h
 | _::_,[],[],h,_=>by simp only [aR] at h
 | _::_,[],_::_,_,g=>by simp only [aR] at g
 | _::_,_::_,[],h,_=>by simp only [aR] at h
end
end
section
variable {X:Cx}
end
end L2
set_option Elab.async false
set_option linter.all false
set_option maxRecDepth 100000
set_option maxHeartbeats 4000000
namespace L2
open PySem PySem.Spec PyProof.Rows
section
variable {X:Cx} {K:PySem.W.Frag} {e e1 e2 l:Expr} {te t1 t2 tl:TE} {pos:Pos} {tg:Expr}
end
section
variable {X:Cx}
end
end L2
set_option Elab.async false
set_option linter.all false
set_option maxRecDepth 100000
set_option maxHeartbeats 4000000
namespace L2
open PySem PySem.Spec PyProof.Rows PySem.Builtin PySem.Builtin.Str
section
variable {X:Cx} {K:PySem.W.Frag}
def Its (x:Str):It:=⟨fun i _=>i<x.cps.size,fun i H v H'=>H'=H /\ ∃c,x.cps[i]? = some c/\v = .str ⟨#[c]⟩,fun i _=>x.cps.size<=i⟩
theorem Qd {P:Program} {w:World} {K:PySem.W.Frag} {tg:Expr} (x:Str) (t:Tok) (it:Addr):Turn P w K tg (Its x) [it] it (fun i h=>i<=x.cps.size/\(h.IsStrIter it "str_ascii_iterator" x t i\/h.IsStrIter it "str_iterator" x t i)) where
 mem:=by simp
 obj:=fun i h st b hb=>by
  have e:b=it:=by simpa using hb
  subst e;rcases st.2 with ⟨o,e,c,d⟩|⟨o,e,c,d⟩
  ·exact ⟨o,e,fun v z=>by rw [d] at z;cases z⟩
  ·exact ⟨o,e,fun v z=>by rw [d] at z;cases z⟩
 keep:=fun i h h' st k=>⟨st.1,st.2.imp (fun ⟨o,e,r⟩=>⟨o,k it (by simp) o e,r⟩) (fun ⟨o,e,r⟩=>⟨o,k it (by simp) o e,r⟩)⟩
 item:=by
  intro X hP hw hK hc i pins s σ H E I hf st hg;subst hP hw hK;have hi:i<x.cps.size:=hg;have hx:x.cps[i]? = some x.cps[i]:=by simp [hi]
  obtain ⟨f0,f1,f2,f3,f4,f5⟩:=hf it (by simp);rcases st.2 with st|st
  ·refine wpAny_pyNext_ascii_item st hx fun h' st' sb=> ?_
   have I1:Inv X pins σ H {s with heap:=h',toks:=s.toks+1}:=I.turned (t':=s.toks+1) (fun b o hb e=>(sb.2 b hb).trans e) f0 f1 f3 f4 f5;obtain ⟨o,e,c,d⟩:=id st';exact ⟨_,rfl,Il (s:={s with heap:=h',toks:=s.toks+1}) e c d (by decide) ⟨.str ⟨#[x.cps[i]]⟩,H,I1,⟨_,rfl⟩,⟨rfl,_,hx,rfl⟩,⟨hi,.inl st'⟩,fun b hb=>(hf b hb).1⟩⟩
  ·refine wpAny_pyNext_wide_item st hx fun h' st' sb=> ?_
   have I1:Inv X pins σ H {s with heap:=h',toks:=s.toks+1}:=I.turned (t':=s.toks+1) (fun b o hb e=>(sb.2 b hb).trans e) f0 f1 f3 f4 f5;obtain ⟨o,e,c,d⟩:=id st';exact ⟨_,rfl,Il (s:={s with heap:=h',toks:=s.toks+1}) e c d (by decide) ⟨.str ⟨#[x.cps[i]]⟩,H,I1,⟨_,rfl⟩,⟨rfl,_,hx,rfl⟩,⟨hi,.inr st'⟩,fun b hb=>(hf b hb).1⟩⟩
 done:=by
  intro X hP hw hK hc i pins s σ H E I hf st hg;subst hP hw hK;have hx:x.cps[i]? = none:=by simpa using (show x.cps.size<=i from hg)
  obtain ⟨f0,f1,f2,f3,f4,f5⟩:=hf it (by simp);rcases st.2 with st|st
  ·exact wpAny_pyNext_ascii_end (I.ok.hd hc) st hx fun h' eb=>⟨rfl,I.turned (t':=s.toks) (fun b o hb e=>eb b o hb e) f0 f1 f3 f4 f5⟩
  ·exact wpAny_pyNext_wide_end (I.ok.hd hc) st hx fun h' eb=>⟨rfl,I.turned (t':=s.toks) (fun b o hb e=>eb b o hb e) f0 f1 f3 f4 f5⟩
 self:=fun _ _ _ _ _ st h=>st.2.elim (fun st=>wpAny_pyIter_striter_ascii st h) (fun st=>wpAny_pyIter_striter_wide st h)
def ajK (tl:TE):TI:=fun σ H R=>tl σ H fun x H1=>∃a,x = .str a/\R (Its a) H1
theorem YQ {tg l:Expr} {tl:TE} (hl:PE X l tl):PI X tg l (ajK tl):=by
 intro pins s σ H R I h;refine dN (hl pins s σ H _ I h) fun v s1 ⟨x,H1,I1,r1,q1⟩=> ?_;obtain ⟨a,rfl,q⟩:=q1;obtain ⟨t,rfl⟩:=r1
 have fin:∀o,(s1.heap.push o).IsStrIter s1.heap.objs.size "str_ascii_iterator" a t 0\/(s1.heap.push o).IsStrIter s1.heap.objs.size "str_iterator" a t 0->PIE X pins σ tg R (.ref s1.heap.objs.size) {s1 with heap:=s1.heap.push o}:=by
  intro o st;refine ⟨s1.heap.objs.size,[s1.heap.objs.size],_,_,H1,rfl,I1.kept (t':=s1.toks) fun b o e=>Heap.get?_push_of_some _ e,Qd a t _,⟨Nat.zero_le _,st⟩,fun b hb=> ?_,q⟩;have e:b=s1.heap.objs.size:=by simpa using hb
  subst e;exact I1.Ar (Nat.le_refl _) (I1.hok.fresh (Nat.le_refl _))
 cases ha:a.cps.all (· < 128)
 ·exact wpAny_pyIter_wide ha (fin _ (.inr ⟨_,Heap.get?_push_size _ rfl,rfl,rfl⟩))
 ·exact wpAny_pyIter_ascii ha (fin _ (.inl ⟨_,Heap.get?_push_size _ rfl,rfl,rfl⟩))
end
section
variable {K:PySem.W.Frag} {D:Addr} {tc:TT} {te:TE} {Q:VK} {rest:St} {H1:Hp}
theorem Ox {x:Str} {g:TG} {σ0:St} (Pv:Nat->St->Hp->Prop) (h0:Pv 0 σ0 (upd H1 D (.lst [])))
 (hs:∀i c σ H,x.cps[i]? = some c->Pv i σ H->g (.str ⟨#[c]⟩) σ H fun σ2 H2=>tc σ2 H2 fun b H3=>
   if b=true then te σ2 H3 fun y H4=>∃acc,H4 D=some (.lst acc)/\acc.length<sizeLine/\Pv (i+1) σ2 (upd H4 D (.lst (acc++[y]))) else Pv (i+1) σ2 H3)
 (hd:∀σ H,Pv x.cps.size σ H->Q (.ref D) H):mz (Its x) g tc te Q D σ0 H1:=by
 refine ⟨fun i m σ H=>m=x.cps.size - i/\i<=x.cps.size/\Pv i σ H,⟨x.cps.size,by simp,Nat.zero_le _,h0⟩, ?_⟩;rintro i m σ H ⟨rfl,hi,p⟩
 by_cases hlt:i<x.cps.size
 ·refine .inr ⟨hlt,Pv (i+1),fun σ' H' p'=>⟨x.cps.size - (i+1),by lia,rfl,hlt,p'⟩,fun y H' e=> ?_⟩
  obtain ⟨e,c,hc,rfl⟩:=e;subst e;exact hs i c σ _ hc p
 ·have e:i=x.cps.size:=by lia
  subst e;exact .inl ⟨Nat.le_refl _,hd σ H p⟩
theorem Ow {x:Str} (f:Nat->Option V) (hD:H1 D=none) (hx:x.cps.size<=100000)
 (hs:∀i c H (G:Hp->Prop) (F:VK),x.cps[i]? = some c->Same H1 H->(∀H',Same H H'->f i=none->G H')->(∀y H',Same H H'->f i=some y->F y H')->tc (some (.str ⟨#[c]⟩)::rest) H fun b H3=>if b=true then te (some (.str ⟨#[c]⟩)::rest) H3 F else G H3)
 (hd:∀H,Same H1 H->H D=some (.lst ((List.range x.cps.size).filterMap f))->Q (.ref D) H):mz (Its x) (gR 0) tc te Q D (none::rest) H1:=by
 refine Ox (fun i σ H=>(∃v,σ=v::rest)/\Same H1 H/\H D=some (.lst ((List.range i).filterMap f))) ⟨⟨none,rfl⟩,aH hD,ak⟩ ?_ (fun σ H ⟨_,sm,e⟩=>hd H sm e);rintro i c σ H hi ⟨⟨v,rfl⟩,sm,e⟩;have hil:i<x.cps.size:=(Array.getElem?_eq_some_iff.mp hi).1;refine hs i c H _ _ hi sm (fun H3 s3 ef=>⟨⟨_,rfl⟩,sm.trans s3,by rw [s3 _ _ e,d9,ef];simp⟩) (fun y H4 s4 ef=> ?_);refine ⟨_,s4 _ _ e, ?_,⟨_,rfl⟩,(sm.trans s4).newly hD, ?_⟩
 ·have:=t_ f i
  rw [sizeLine_eq];lia
 ·rw [ak,d9,ef];rfl
end
section
variable {X:Cx}
end
end L2
set_option Elab.async false
set_option linter.all false
set_option maxRecDepth 100000
set_option maxHeartbeats 4000000
namespace L2
open PySem PySem.Spec PyProof.Rows PySem.Builtin PySem.Builtin.Str
end L2
set_option Elab.async false
set_option linter.all false
set_option maxRecDepth 100000
set_option maxHeartbeats 4000000
namespace L2
open PySem PySem.Spec PyProof.Rows
section
variable (P:Program) (w:World) (K:PySem.W.Frag) (mg:Str->Option Value) (base:Heap)
def MethAt (k:Nat) (C:Addr) (m:Str) (ps:List Str) (sp:Sp):Prop:=∃f fd,bZ P w K mg base kY k f fd ps sp/\Meth K C m f/\Binds K fd ps []
def jq (k:Nat) (C:Addr) (m:Str) (ps:List Str) (sp:Sp):Prop:=∃f fd,bZ P w K mg base (vI P w) k f fd ps sp/\Meth K C m f/\Binds K fd ps []
def qR (k:Nat) (C:Addr) (x:Str) (ps:List Str) (uc:List V) (sp:Sp):Prop:=∃f fd ds,bZ P w K mg base kY k f fd ps sp/\Mk K C f/\mg x=some (.ref C)/\Binds K fd ps ds/\Vals uc ds
def vG (k:Nat) (C:Addr) (x:Str) (ps:List Str) (uc:List V) (sp:Sp):Prop:=∃f fd ds,bZ P w K mg base (vI P w) k f fd ps sp/\Mk K C f/\mg x=some (.ref C)/\Binds K fd ps ds/\Vals uc ds
def Wi (k:Nat) (C:Addr) (x:Str) (ps:List Str) (kn:Str) (sp:Sp):Prop:=∃f fd,bZ P w K mg base (vI P w) k f fd ps sp/\Mk K C f/\mg x=some (.ref C) /\
 ∀(s:Shared) (us:List Value) (z:Value),K.In s.heap->(us++[z]).length=ps.length->BindsTo s fd ⟨us,[(kn,z)]⟩ (ps.zip (us++[z]))
end
section
variable {P:Program} {w:World} {K:PySem.W.Frag} {mg:Str->Option Value} {base:Heap} {k:Nat} {C:Addr} {m x:Str} {ps:List Str} {sp:Sp} {uc:List V}
theorem bZ.calm {f:Addr} {fd:FuncData} (G:bZ P w K mg base (vI P w) k f fd ps sp):bZ P w K mg base kY k f fd ps (fun vs H Q _=>sp vs H Q fun _ _ _=>False):=by
 refine ⟨fun vs H Q E q=>G.len vs H Q _ q,fun A outer s H args us vs Q E hr he hbd hv hs=> ?_⟩;refine codeAny_mono (G.run A outer s H args us vs Q (fun _ _ _=>False) hr he hbd hv hs) fun res s' hq=> ?_
 match res,hq with
 | .error ev,hq=>
   obtain ⟨e,cls,dx,H',_,_,_,_,_,_,_,_,z⟩:=hq;exact z.elim
 | .ok (.ret u),hq=>exact hq
theorem jq.calm (F:jq P w K mg base k C m ps sp):MethAt P w K mg base k C m ps (fun vs H Q _=>sp vs H Q fun _ _ _=>False):=by
 obtain ⟨f,fd,G,r⟩:=F;exact ⟨f,fd,G.calm,r⟩
theorem vG.calm (F:vG P w K mg base k C x ps uc sp):qR P w K mg base k C x ps uc (fun vs H Q _=>sp vs H Q fun _ _ _=>False):=by
 obtain ⟨f,fd,ds,G,r⟩:=F;exact ⟨f,fd,ds,G.calm,r⟩
end
section
variable {X:Cx} {k:Nat} {C:Addr} {x m:Str} {ps:List Str} {sp:Sp} {uc:List V} {e o:Expr} {es:List Expr} {ta:TE} {t:TA} {p pos apos:Pos} {E:St->XK}
theorem cZ {pl:Sem Bool} (M:MethAt X.prog X.w X.K X.mg X.base k C m ps sp) (c:Cls X.K C) (hr:fL k X.A) (he:PE X o ta) (ha:PA X (e::es) t)
 (hst:starEach (e::es) X.env=(false,eval e X.env)::starEach es X.env:=by rfl) (hpl:(backTo pos (starEach es X.env)).any (·.1)=false:=by rfl)
 (ht:eval (.Call (.Attribute o m apos) (e::es) [] pos) X.env=(do
   let ov ←eval o X.env
   standAt apos.atName
   let (f,first) ←holding [ov] (getMethod ov m pl)
   callWith pos f first (backTo pos (starEach (e::es) X.env)) (backToKw pos (keywordEach [] X.env))):=by rfl):
 PE X (.Call (.Attribute o m apos) (e::es) [] pos) (Lb C m sp [] E0 ta t):=by
 obtain ⟨f,fd,G,hm,hb⟩:=M;exact Vf he c hm G hr hb .nil Lz ha hst hpl ht
theorem fP {pl:Sem Bool} (M:MethAt X.prog X.w X.K X.mg X.base k C m ps sp) (c:Cls X.K C) (hr:fL k X.A) (he:PE X o ta)
 (ht:eval (.Call (.Attribute o m apos) [] [] pos) X.env=(do
   let ov ←eval o X.env
   standAt apos.atName
   let (f,first) ←holding [ov] (getMethod ov m pl)
   callWith pos f first (backTo pos (starEach [] X.env)) (backToKw pos (keywordEach [] X.env))):=by rfl):
 PE X (.Call (.Attribute o m apos) [] [] pos) (Lb C m sp [] E0 ta Qk):=by
 obtain ⟨f,fd,G,hm,hb⟩:=M;exact QK he c hm G hr hb .nil Lz ht
def Yc (C:Addr) (m:Str) (sp:Sp) (E:St->XK) (ta:TE) (t:TA):TE:=fun σ H Q=>ta σ H fun x H1=>∃a dx fs,x = .ref a/\H1 a=some (.ins C dx fs)/\fs.lookup m=none/\t σ H1 fun vs H2=>sp (x::vs) H2 Q (E σ)
theorem UL {pins:List (Addr×Obj)} {σ:St} {H:Hp} {s:Shared} {Q:VK} {us:List Value} {vs:List V} {f:Addr} {fd:FuncData} (G:bZ X.prog X.w X.K X.mg X.base (vI X.prog X.w) k f fd ps sp) (hx:X.ex=[]) (R:Rz X E) (hr:fL k X.A) (hb:Binds X.K fd ps [])
 (I:Inv X pins σ H s) (r:Vals vs us) (q:sp vs H Q (E σ)):wpAny (model X.prog X.w) X.A (call (.ref f) us) (EP X pins σ Q) X.xe s:=by
 have hlen:us.length=ps.length:=by rw [←r.length];exact G.len _ _ _ _ q
 have hbd:=hb s us I.nM (by rw [List.append_nil];exact hlen);rw [List.append_nil] at hbd;refine wpAny_call (codeAny_mono (G.run X.A X.stack s H ⟨us,[]⟩ us vs Q (E σ) hr I.env0 hbd r q) fun res s' hq=> ?_)
 match res,hq with
 | .error ev,hq=>exact Ly hx R I hq
 | .ok (.ret u),hq=>exact I.after hq
theorem uU {pl:Sem Bool} (M:jq X.prog X.w X.K X.mg X.base k C m ps sp) (c:Cls X.K C) (hx:X.ex=[]) (R:Rz X E) (hr:fL k X.A) (he:PE X o ta) (ha:PA X (e::es) t)
 (hst:starEach (e::es) X.env=(false,eval e X.env)::starEach es X.env:=by rfl) (hpl:(backTo pos (starEach es X.env)).any (·.1)=false:=by rfl)
 (ht:eval (.Call (.Attribute o m apos) (e::es) [] pos) X.env=(do
   let ov ←eval o X.env
   standAt apos.atName
   let (f,first) ←holding [ov] (getMethod ov m pl)
   callWith pos f first (backTo pos (starEach (e::es) X.env)) (backToKw pos (keywordEach [] X.env))):=by rfl):
 PE X (.Call (.Attribute o m apos) (e::es) [] pos) (Yc C m sp E ta t):=by
 obtain ⟨f,fd,G,hm,hb⟩:=M;intro pins s σ H Q I h;refine PySem.W.methodCall_KW (pl:=pl) (dN (he pins s σ H _ I h) fun u s1 ⟨x,H1,I1,rx,a,dx,fs,ex,ea,l,q⟩=> ?_) ht;subst ex;obtain rfl:u=Value.ref a:=rx;refine tZ I1 ea c hm l ?_;refine PySem.W.callWith_K (first:=[.ref a]) (h₀:=X.base) I.ok.mod.RB hm.kp (dN (ha pos pins s1 σ H1 _ I1 q) fun us s2 ⟨vs,H2,I2,r,q2⟩=>⟨I2.nM, ?_⟩) hst hpl;exact UL (us:= .ref a::us) (vs:= .ref a::vs) G hx R hr hb I2 (.cons rfl r) q2
theorem qz (M:qR X.prog X.w X.K X.mg X.base k C x ps uc sp) (hr:fL (k+1) X.A) (hg:Gl X x) (ha:PA X (e::es) t) (hdb:(x==("__debug__" :Str))=false:=by decide)
 (he:starEach (e::es) X.env=(false,eval e X.env)::starEach es X.env:=by rfl) (hpl:(backTo pos (starEach es X.env)).any (·.1)=false:=by rfl):
 PE X (.Call (.Name x p) (e::es) [] pos) (Wy C sp uc E0 t):=by
 obtain ⟨f,fd,ds,G,mk,hm,hb,hd⟩:=M;exact Vg mk G hr hg hm hb hd Lz ha hdb he hpl
end
end L2
namespace L2
open PySem PySem.Spec PyProof.Rows PySem.Builtin PySem.Builtin.Str
section
variable {X:Cx} {K:PySem.W.Frag} {o e value:Expr} {f:Str} {pos pos' tpos:Pos} {ta tv:TE}
theorem bB (hK:X.K=K) (he:PE X e ta) (hb:attributeBase e f X.env (eval e X.env)=eval e X.env):PE X (.Attribute e f pos) (abd K ta f):=by subst hK;exact YX he hb
theorem cY (hK:X.K=K) (ha:PE X o ta) (hv:PE X value tv) (hs:swapsWith value (some (.Attribute o f pos')) pos.line X.env=pure false):PS X (.Assign [.Attribute o f pos'] value pos) (abo K ta tv f):=by subst hK;exact YK ha hv hs
theorem zZ {op:Operator} {rd:V->V->Hp->VK->Prop} (hK:X.K=K) (ha:PE X o ta) (hv:PE X value tv) (hop:adR X op rd):PS X (.AugAssign (.Attribute o f tpos) op value pos) (Lj K ta tv rd f):=by subst hK;exact Np ha hv hop
def abx:V->List V->Hp->VK->Prop:=fun x vs H Q=>∃(a y:Str) (i:Nat) (r:List Nat),x = .str a/\vs=[.str y]/\occurrences a y 0 a.length 1=i::r/\Q (.int i) H
theorem CZ:MtR X "str.index" abx:=by
 intro pins s σ H x vs v us Q I rx rv h;obtain ⟨a,y,i,r,rfl,rfl,ho,q⟩:=h;obtain ⟨t,rfl⟩:=rx;obtain ⟨u,rfl,ru⟩:=rv.one;obtain ⟨t2,rfl⟩:=ru;exact call_meets PySem.F.slot_str_index (typeIs_str _ _ _) PySem.F.entry_str_index (PySem.F.args_str_index_2 _ _) (gives_str_index a y t t2 i r ho).meets ⟨.int i,H,I.tok _,⟨_,rfl⟩,q⟩
end
structure Wk (K:PySem.W.Frag) (x qual:Str) (st:Stmt) (ds:List Value) (f:Addr) (fd:FuncData):Prop where
 ex:∃(oc:Value) (od:Option Addr) (T:Addr) (kV doc pm:Value) (an:Option Addr) (cdv ct:Value) (osl:Array (Option Value)) (tc:Value) (td:Option Addr) (tn:Nat) (Ww:Array (Option Value)),
  fd=PySem.W.fnOf x qual (aM st) (aJ st) (aA st) (.ref T) kV doc pm an cdv ct/\K.lookup f=some ⟨oc,od,.func fd,osl⟩/\PySem.W.codeIn K cdv qual=true/\K.lookup T=some ⟨tc,td,.seq ds.toArray tn,Ww⟩
 kp:PySem.W.keepIn K (.ref f)=true
section
variable {P:Program} {w:World} {K:PySem.W.Frag} {mg:Str->Option Value} {base:Heap}
theorem Wk.W2 {x qual:Str} {st:Stmt} {ds:List Value} {f:Addr} {fd:FuncData} {N ps:List Str} {k:Nat} {sp:Sp} (F:Wk K x qual st ds f fd) (S:bG N ps (aA st)) (len:∀vs H Q E,sp vs H Q E->vs.length=ps.length)
 (hbody:∀(cdv:Value) (A:Around) (outer:List Env) (s:Shared) (H:Hp) (vs:List V) (Q:VK) (E:XK),fL k (A.deeper (envOfC qual (aA st) s.heap.objs.size f cdv))->sp vs H Q E ->
   Rz (p7 (vI P w) P w K mg base N qual (aA st) f cdv A outer s H E) (fun _=>E) ->
   ∃t,Jp (p7 (vI P w) P w K mg base N qual (aA st) f cdv A outer s H E) (aJ st) t/\t {nx:=fun _ H'=>Q .non H',rt:=Q} (start N vs) H):bZ P w K mg base (vI P w) (k+1) f fd ps sp:=by
 obtain ⟨oc,od,T,kV,doc,pm,an,cdv,ct,osl,tc,td,tn,Ww,rfl,lk,hcd,_⟩:=F.ex;exact R0 lk hcd S len fun A outer s H vs Q E hr hsp=>hbody cdv A outer s H vs Q E hr hsp Ho
end
section
variable {X:Cx} {k:Nat} {C:Addr} {x kn:Str} {ps:List Str} {sp:Sp} {e ke:Expr} {es:List Expr} {te:TE} {t:TA} {p pos kpos:Pos} {E:St->XK}
end
end L2
set_option Elab.async false
set_option linter.all false
set_option maxRecDepth 100000
set_option maxHeartbeats 4000000
namespace Tim
open PySem PyProof.Rows
def mQ:Bool->Keyed->Array Keyed->Nat->Nat->Nat->StateT SortSt Sem (Option Nat):=sortPriv% PySem.Builtin.gallop
def pN (left:Bool) (key:Keyed) (arr:Array Keyed) (base i:Nat):StateT SortSt Sem (Option Bool):=do
 let x ←elem' arr (base+i)
 if left then lt' x key else return (←lt' key x).map (!·)
theorem Kq (left:Bool) (key:Keyed) (arr:Array Keyed) (base n hint:Nat):mQ left key arr base n hint=(do
 let mut lastofs:=0
 let mut ofs:=1
 let mut lo:=0
 let mut hi:=0
 let some right ←pN left key arr base hint|return none
 if right then
  let maxofs:=n - hint
  for _ in [0:n] do
   if ofs≥maxofs then break
   let some more ←pN left key arr base (hint+ofs)|return none
   if !more then break
   lastofs:=ofs
   ofs:=2*ofs+1
  lo:=hint+lastofs+1
  hi:=hint+min ofs maxofs
 else
  let maxofs:=hint+1
  for _ in [0:n] do
   if ofs≥maxofs then break
   let some found ←pN left key arr base (hint - ofs)|return none
   if found then break
   lastofs:=ofs
   ofs:=2*ofs+1
  lo:=hint+1 - min ofs maxofs
  hi:=hint - lastofs
 for _ in [0:n] do
  if lo≥hi then break
  let m:=lo+(hi - lo) / 2
  let some more ←pN left key arr base m|return none
  if more then lo:=m+1 else hi:=m
 return some hi):=rfl
section
variable {prog:Program} {w:World} {A:Around} {E:Value->Shared->Prop} {s:Shared} {κ:SortKind} {a₀:Array Keyed} {rk:Value->Nat}
structure K9 (prog:Program) (w:World) (A:Around) (s:Shared) (κ:SortKind) (a₀:Array Keyed) (rk:Value->Nat):Prop where
 ask:∀p∈a₀.toList,∀q∈a₀.toList,∀(E:Value->Shared->Prop) (Q:Bool->Shared->Prop),Q (decide (rk p.1<rk q.1)) s->wpAny (model prog w) A (keyLt' κ p.1 q.1) Q E s
def R (rk:Value->Nat) (xs:Array Keyed) (i:Nat):Nat:=match xs[i]? with
 | some p=>rk p.1
 | none=>0
theorem Bv {xs:Array Keyed} {i:Nat} {p:Keyed} (h:xs[i]? = some p):R rk xs i=rk p.1:=by unfold R;rw [h]
theorem iC {xs ys:Array Keyed} {i j:Nat} (h:xs[i]? = ys[j]?):R rk xs i=R rk ys j:=by unfold R;rw [h]
theorem zq {st:SortSt} {p q:Keyed} {Q:Option Bool->SortSt->Prop} (C:K9 prog w A s κ a₀ rk) (hk:kindOf st=κ) (hp:p∈a₀.toList) (hq:q∈a₀.toList) (h:Q (some (decide (rk p.1<rk q.1))) st):
 wpS (model prog w) A E s (lt' p q) Q st:=by
 rw [lt'_eq];refine wpS_bind (wpS_get ?_);rw [hk];refine wpS_bind (wpS_lift (wpAny_attempt (C.ask p hp q hq _ _ ⟨rfl, ?_⟩)));exact wpS_pure h
theorem b_ {st:SortSt} {arr:Array Keyed} {i:Nat} {p:Keyed} {Q:Keyed->SortSt->Prop} (hi:arr[i]? = some p) (h:Q p st):wpS (model prog w) A E s (elem' arr i) Q st:=by
 rw [elem'_eq,hi];exact wpS_pure h
def By (left:Bool) (k r:Nat):Bool:=if left then decide (r<k) else !decide (k<r)
theorem o9 {st:SortSt} {left:Bool} {key:Keyed} {arr:Array Keyed} {base i:Nat} {Q:Option Bool->SortSt->Prop} (C:K9 prog w A s κ a₀ rk) (hk:kindOf st=κ) (hkey:key∈a₀.toList) (u9:∀p∈arr.toList,p∈a₀.toList)
 (hi:base+i<arr.size) (h:Q (some (By left (rk key.1) (R rk arr (base+i)))) st):wpS (model prog w) A E s (pN left key arr base i) Q st:=by
 unfold pN;have e:arr[base+i]? = some arr[base+i]:=getElem?_pos arr (base+i) hi;have hm:arr[base+i]∈a₀.toList:=u9 _ (by simp);rw [Bv e] at h;refine wpS_bind (b_ e ?_);cases left with
 | true=>exact zq C hk hm hkey h
 | false=>exact wpS_bind (zq C hk hkey hm (wpS_pure h))
theorem GQ {left:Bool} {k r r':Nat} (h:By left k r=true) (le:r'<=r):By left k r'=true:=by
 unfold By at *;cases left<;>simp at * <;> lia
theorem BL {left:Bool} {k r r':Nat} (h:By left k r=false) (le:r<=r'):By left k r'=false:=by
 unfold By at *;cases left<;>simp at * <;> lia
def Seg (rk:Value->Nat) (xs:Array Keyed) (lo hi:Nat):Prop:=∀i j,lo<=i->i<=j->j<hi->R rk xs i<=R rk xs j
abbrev GSt:=Option (Option Nat)×Nat×Nat
theorem wW {st:SortSt} {left:Bool} {key:Keyed} {arr:Array Keyed} {base n lo hi:Nat} {Q:GSt->SortSt->Prop} (C:K9 prog w A s κ a₀ rk) (hk:kindOf st=κ) (hkey:key∈a₀.toList) (u9:∀p∈arr.toList,p∈a₀.toList)
 (hn:base+n<=arr.size) (hs:Seg rk arr base (base+n)) (hlh:lo<=hi) (hhn:hi<=n)
 (h1:∀i,i<lo->By left (rk key.1) (R rk arr (base+i))=true) (h2:∀i,hi<=i->i<n->By left (rk key.1) (R rk arr (base+i))=false)
 (h:∀k l,k<=n->(∀i,i<k->By left (rk key.1) (R rk arr (base+i))=true)->(∀i,k<=i->i<n->By left (rk key.1) (R rk arr (base+i))=false)->Q (none,l,k) st):
 wpS (model prog w) A E s (forIn [0:n] ((none,lo,hi):GSt) fun _ __s=>
       if __s.snd.fst≥__s.snd.snd then pure (ForInStep.done (none,__s.snd.fst,__s.snd.snd))
       else do
        let __x ←pN left key arr base (__s.snd.fst+(__s.snd.snd - __s.snd.fst) / 2)
        match __x with
         | some more=>
           if more=true then
            pure (ForInStep.yield (none,__s.snd.fst+(__s.snd.snd - __s.snd.fst) / 2+1,__s.snd.snd))
           else pure (ForInStep.yield (none,__s.snd.fst,__s.snd.fst+(__s.snd.snd - __s.snd.fst) / 2))
         | _=>pure (ForInStep.done (some none,__s.snd.fst,__s.snd.snd))) Q st:=by
 refine wpS_forRange (I:=fun x c st'=>st'=st /\ ∃lo hi,c=(none,lo,hi)/\lo<=hi/\hi<=n/\hi - lo<=n - x/\(∀i,i<lo->By left (rk key.1) (R rk arr (base+i))=true)/\(∀i,hi<=i->i<n->By left (rk key.1) (R rk arr (base+i))=false)) ?step ?fin ⟨rfl,lo,hi,rfl,hlh,hhn,by lia,h1,h2⟩
 case fin=>
  rintro c st' ⟨rfl,lo,hi,rfl,a1,a2,a3,a4,a5⟩;have:lo=hi:=by lia
  subst this;exact h _ _ a2 a4 a5
 case step=>
  rintro x c st' _ hx ⟨rfl,lo,hi,rfl,a1,a2,a3,a4,a5⟩;dsimp only
  by_cases hge:lo≥hi
  ·rw [if_pos hge]
   have:lo=hi:=by lia
   subst this;exact wpS_pure (h _ _ a2 a4 a5)
  ·rw [if_neg hge]
   refine wpS_bind (o9 C hk hkey u9 (by lia) ?_);dsimp only;cases hb:By left (rk key.1) (R rk arr (base+(lo+(hi - lo) / 2))) with
   | true=>
     simp only [if_true];refine wpS_pure ⟨rfl,_,_,rfl,by lia,a2,by lia,fun i hi'=> ?_,a5⟩;exact GQ hb (hs _ _ (by lia) (by lia) (by lia))
   | false=>
     simp only [Bool.false_eq_true,if_false];refine wpS_pure ⟨rfl,_,_,rfl,by lia,by lia,by lia,a4,fun i hi' hin=> ?_⟩;exact BL hb (hs _ _ (by lia) (by lia) (by lia))
theorem jE {st:SortSt} {left:Bool} {key:Keyed} {arr:Array Keyed} {base n hint:Nat} {Q:Option Nat->SortSt->Prop} (C:K9 prog w A s κ a₀ rk) (hk:kindOf st=κ) (hkey:key∈a₀.toList) (u9:∀p∈arr.toList,p∈a₀.toList)
 (hn:base+n<=arr.size) (hh:hint<n) (hs:Seg rk arr base (base+n))
 (h:∀k,k<=n->(∀i,i<k->By left (rk key.1) (R rk arr (base+i))=true)->(∀i,k<=i->i<n->By left (rk key.1) (R rk arr (base+i))=false)->Q (some k) st):
 wpS (model prog w) A E s (mQ left key arr base n hint) Q st:=by
 rw [Kq];refine wpS_bind (o9 C hk hkey u9 (by lia) ?_);dsimp only;cases hr:By left (rk key.1) (R rk arr (base+hint)) with
 | true=>
   simp only [if_true]
   refine wpS_bind (wpS_mono (wpS_forRange (I:=fun x c st'=>st'=st /\ ∃l o,c=(none,l,o)/\l<o/\x<o/\hint+l<n/\By left (rk key.1) (R rk arr (base+(hint+l)))=true)
    (Q:=fun c st'=>st'=st /\ ∃l o,c=(none,l,o)/\l<o/\hint+l<n/\By left (rk key.1) (R rk arr (base+(hint+l)))=true/\(o<n - hint->By left (rk key.1) (R rk arr (base+(hint+o)))=false)) ?step ?fin ⟨rfl,0,1,rfl,by lia,by lia,by lia,hr⟩) ?post)
   case fin=>
    rintro c st' ⟨rfl,l,o,rfl,a1,a2,a3,a4⟩;exact ⟨rfl,l,o,rfl,a1,a3,a4,fun z=>by lia⟩
   case step=>
    rintro x c st' _ hx ⟨rfl,l,o,rfl,a1,a2,a3,a4⟩;dsimp only
    by_cases hge:o≥n - hint
    ·rw [if_pos hge]
     exact wpS_pure ⟨rfl,l,o,rfl,a1,a3,a4,fun z=>by lia⟩
    ·rw [if_neg hge]
     refine wpS_bind (o9 C hk hkey u9 (by lia) ?_);dsimp only;cases hb:By left (rk key.1) (R rk arr (base+(hint+o))) with
     | true=>
       simp only [Bool.not_true,Bool.false_eq_true,if_false];exact wpS_pure ⟨rfl,o,2*o+1,rfl,by lia,by lia,by lia,hb⟩
     | false=>
       simp only [Bool.not_false,if_true];exact wpS_pure ⟨rfl,l,o,rfl,a1,a3,a4,fun _=>hb⟩
   case post=>
    rintro c st' ⟨rfl,l,o,rfl,a1,a2,a3,a4⟩;dsimp only;refine wpS_bind (wW C hk hkey u9 hn hs (by lia) (by lia) (fun i hi=> ?_) (fun i hi hin=> ?_) fun k l' b1 b2 b3=>wpS_pure (h k b1 b2 b3))
    ·exact GQ a3 (hs _ _ (by lia) (by lia) (by lia))
    ·exact BL (a4 (by lia)) (hs _ _ (by lia) (by lia) (by lia))
 | false=>
   simp only [Bool.false_eq_true,if_false]
   refine wpS_bind (wpS_mono (wpS_forRange (I:=fun x c st'=>st'=st /\ ∃l o,c=(none,l,o)/\l<o/\x<o/\l<=hint/\By left (rk key.1) (R rk arr (base+(hint - l)))=false)
    (Q:=fun c st'=>st'=st /\ ∃l o,c=(none,l,o)/\l<o/\l<=hint/\By left (rk key.1) (R rk arr (base+(hint - l)))=false/\(o<hint+1->By left (rk key.1) (R rk arr (base+(hint - o)))=true)) ?step ?fin ⟨rfl,0,1,rfl,by lia,by lia,by lia,hr⟩) ?post)
   case fin=>
    rintro c st' ⟨rfl,l,o,rfl,a1,a2,a3,a4⟩;exact ⟨rfl,l,o,rfl,a1,a3,a4,fun z=>by lia⟩
   case step=>
    rintro x c st' _ hx ⟨rfl,l,o,rfl,a1,a2,a3,a4⟩;dsimp only
    by_cases hge:o≥hint+1
    ·rw [if_pos hge]
     exact wpS_pure ⟨rfl,l,o,rfl,a1,a3,a4,fun z=>by lia⟩
    ·rw [if_neg hge]
     refine wpS_bind (o9 C hk hkey u9 (by lia) ?_);dsimp only;cases hb:By left (rk key.1) (R rk arr (base+(hint - o))) with
     | true=>
       simp only [if_true];exact wpS_pure ⟨rfl,l,o,rfl,a1,a3,a4,fun _=>hb⟩
     | false=>
       simp only [Bool.false_eq_true,if_false];exact wpS_pure ⟨rfl,o,2*o+1,rfl,by lia,by lia,by lia,hb⟩
   case post=>
    rintro c st' ⟨rfl,l,o,rfl,a1,a2,a3,a4⟩;dsimp only;refine wpS_bind (wW C hk hkey u9 hn hs (by lia) (by lia) (fun i hi=> ?_) (fun i hi hin=> ?_) fun k l' b1 b2 b3=>wpS_pure (h k b1 b2 b3))
    ·exact GQ (a4 (by lia)) (hs _ _ (by lia) (by lia) (by lia))
    ·exact BL a3 (hs _ _ (by lia) (by lia) (by lia))
end
end Tim
set_option Elab.async false
set_option linter.all false
set_option maxRecDepth 100000
set_option maxHeartbeats 4000000
namespace Tim
open PySem PyProof.Rows
def gM:Nat->StateT SortSt Sem Unit:=sortPriv% PySem.Builtin.setMinGallop
theorem v7 (g:Nat):gM g=modify fun s=>SortSt.mk' (kindOf s) (arrOf s) (pendingOf s) g (failedOf s):=rfl
def Af:Array Keyed->Array Keyed->StateT SortSt Sem (Array Keyed):=sortPriv% PySem.Builtin.mergeLo
def Ag:Array Keyed->Array Keyed->StateT SortSt Sem (Array Keyed):=sortPriv% PySem.Builtin.mergeHi
abbrev iJ (a b out:Array Keyed) (ia ib:Nat):Array Keyed:=out++a.extract ia a.size++b.extract ib b.size
abbrev tV (a b out:Array Keyed) (ia ib:Nat):Array Keyed:=out++b.extract ib b.size++a.extract ia a.size
theorem HN (a b:Array Keyed):Af a b=(do
 rule "list.sort.merge-lo"
 let total:=a.size+b.size
 let mut out:Array Keyed:= #[←elem' b 0]
 let mut ia:=0
 let mut ib:=1
 if ib==b.size then return iJ a b out ia ib
 if ia+1==a.size then return tV a b out ia ib
 let mut minGallop:=gallopOf (←get)
 for _ in [0:total] do
  let mut acount:=0
  let mut bcount:=0
  for _ in [0:total] do
   let some bWins ←lt' (←elem' b ib) (←elem' a ia)|return iJ a b out ia ib
   if bWins then
    out:=out.push (←elem' b ib);ib:=ib+1;bcount:=bcount+1;acount:=0
    if ib==b.size then return iJ a b out ia ib
    if bcount≥minGallop then break
   else
    out:=out.push (←elem' a ia);ia:=ia+1;acount:=acount+1;bcount:=0
    if ia+1==a.size then return tV a b out ia ib
    if acount≥minGallop then break
  rule "list.sort.gallop"
  minGallop:=minGallop+1
  for _ in [0:total] do
   if minGallop>1 then minGallop:=minGallop - 1
   gM minGallop
   let some k ←mQ false (←elem' b ib) a ia (a.size - ia) 0|return iJ a b out ia ib
   acount:=k
   if k>0 then
    out:=out++a.extract ia (ia+k);ia:=ia+k
    if ia+1==a.size then return tV a b out ia ib
    if ia==a.size then return iJ a b out ia ib
   out:=out.push (←elem' b ib);ib:=ib+1
   if ib==b.size then return iJ a b out ia ib
   let some k ←mQ true (←elem' a ia) b ib (b.size - ib) 0|return iJ a b out ia ib
   bcount:=k
   if k>0 then
    out:=out++b.extract ib (ib+k);ib:=ib+k
    if ib==b.size then return iJ a b out ia ib
   out:=out.push (←elem' a ia);ia:=ia+1
   if ia+1==a.size then return tV a b out ia ib
   if acount<7&&bcount<7 then break
  minGallop:=minGallop+1
  gM minGallop
 unsupported "internal:list.sort.merge-bound"):=rfl
section
variable {rk:Value->Nat} {a b out:Array Keyed} {ia ib k:Nat}
def Le (rk:Value->Nat) (x y:Keyed):Prop:=rk x.1<=rk y.1
def Pg (rk:Value->Nat) (l:List Keyed):Prop:=l.Pairwise (Le rk)
structure MI (rk:Value->Nat) (a b out:Array Keyed) (ia ib:Nat):Prop where
 perm:(out.toList++(a.toList.drop ia++b.toList.drop ib)).Perm (a.toList++b.toList)
 sa:Pg rk (out.toList++a.toList.drop ia)
 sb:Pg rk (out.toList++b.toList.drop ib)
structure Mg (rk:Value->Nat) (a b r:Array Keyed):Prop where
 perm:r.toList.Perm (a.toList++b.toList)
 srt:Pg rk r.toList
theorem dJ (a:Array Keyed) (i j:Nat):(a.extract i j).toList=(a.toList.drop i).take (j - i):=by
 rw [Array.toList_extract,List.extract_eq_take_drop]
theorem Ax (l:List Keyed) (i k:Nat):l.drop i=(l.drop i).take k++l.drop (i+k):=by
 rw [←List.drop_drop,List.take_append_drop]
theorem jo {a:Array Keyed} {i:Nat} (h:i<a.size):R rk a i=rk (a[i]).1:=Bv (getElem?_pos a i h)
theorem Rn {a:Array Keyed} {x:Keyed} (h:x∈a.toList.drop ia):∃j,ia<=j/\j<a.size/\R rk a j=rk x.1:=by
 obtain ⟨j,hj,e⟩:=List.getElem_of_mem h;rw [List.length_drop,Array.length_toList] at hj;rw [List.getElem_drop,Array.getElem_toList] at e;exact ⟨ia+j,by (clear e hj;lia),by (clear e;lia),by rw [jo (by (clear e;lia)),e]⟩
theorem jT {a:Array Keyed} {x:Keyed} (h:x∈(a.toList.drop ia).take k):∃j,j<k/\ia+j<a.size/\R rk a (ia+j)=rk x.1:=by
 obtain ⟨j,hj,e⟩:=List.getElem_of_mem h;rw [List.length_take,List.length_drop,Array.length_toList] at hj;rw [List.getElem_take,List.getElem_drop,Array.getElem_toList] at e;exact ⟨j,by (clear e;lia),by (clear e;lia),by rw [jo (by (clear e;lia)),e]⟩
theorem jQ {x y:List Keyed}:Pg rk (x++y)↔Pg rk x/\Pg rk y /\ ∀p∈x,∀q∈y,rk p.1<=rk q.1:=List.pairwise_append
theorem MI.wJ (m:MI rk a b out ia ib) (hle:∀i,i<k->ib+i<b.size -> ∀j,ia<=j->j<a.size->R rk b (ib+i)<=R rk a j):MI rk a b (out++b.extract ib (ib+k)) ia (ib+k):=by
 have e:(out++b.extract ib (ib+k)).toList=out.toList++(b.toList.drop ib).take k:=by rw [Array.toList_append,dJ];congr 2;lia
 have sp:=Ax b.toList ib k;refine ⟨?_, ?_, ?_⟩
 ·rw [e]
  refine List.Perm.trans ?_ m.perm;rw [List.append_assoc];refine List.Perm.append_left _ ?_;refine List.Perm.trans ?_ (List.Perm.of_eq (congrArg (a.toList.drop ia ++ ·) sp.symm));rw [←List.append_assoc];refine List.Perm.trans (List.Perm.append_right _ (List.perm_append_comm)) (List.Perm.of_eq (List.append_assoc _ _ _))
 ·rw [e,List.append_assoc]
  have h1:=jQ.mp m.sa;have h2:=m.sb;rw [sp] at h2;have h3:=jQ.mp h2;have h4:=jQ.mp h3.2.1;refine jQ.mpr ⟨h1.1,jQ.mpr ⟨h4.1,h1.2.1,fun p hp q hq=> ?_⟩,fun p hp q hq=> ?_⟩
  ·obtain ⟨i,i1,i2,i3⟩:=jT (rk:=rk) hp
   obtain ⟨j,j1,j2,j3⟩:=Rn (rk:=rk) hq;rw [←i3,←j3];exact hle i i1 i2 j j1 j2
  ·rcases List.mem_append.mp hq with hq|hq
   ·exact h3.2.2 p hp q (List.mem_append_left _ hq)
   ·exact h1.2.2 p hp q hq
 ·rw [e,List.append_assoc,←sp]
  exact m.sb
theorem MI.swap (m:MI rk a b out ia ib):MI rk b a out ib ia:=⟨(List.Perm.append_left _ List.perm_append_comm).trans (m.perm.trans List.perm_append_comm),m.sb,m.sa⟩
theorem MI.wK (m:MI rk a b out ia ib) (hle:∀i,i<k->ia+i<a.size -> ∀j,ib<=j->j<b.size->R rk a (ia+i)<=R rk b j):MI rk a b (out++a.extract ia (ia+k)) (ia+k) ib:=(m.swap.wJ hle).swap
theorem Hr (h:ib<b.size):out.push b[ib]=out++b.extract ib (ib+1):=by
 apply Array.toList_inj.mp;rw [Array.toList_push,Array.toList_append,dJ];congr 1;rw [show ib+1 - ib=1 by (clear h;lia),List.drop_eq_getElem_cons (by rw [Array.length_toList];exact h)];rfl
theorem MI.zX (m:MI rk a b out ia ib) (h:ib<b.size) (hle:∀j,ia<=j->j<a.size->R rk b ib<=R rk a j):MI rk a b (out.push b[ib]) ia (ib+1):=by
 rw [Hr h];refine m.wJ (k:=1) fun i hi hb j j1 j2=> ?_;have:i=0:=by (clear j2 j1 hb h;lia)
 subst this;exact hle j j1 j2
theorem MI.zY (m:MI rk a b out ia ib) (h:ia<a.size) (hle:∀j,ib<=j->j<b.size->R rk a ia<=R rk b j):MI rk a b (out.push a[ia]) (ia+1) ib:=(m.swap.zX h hle).swap
theorem MI.done (m:MI rk a b out ia ib) (h:ia=a.size\/ib=b.size):Mg rk a b (iJ a b out ia ib):=by
 have e:(iJ a b out ia ib).toList=out.toList++(a.toList.drop ia++b.toList.drop ib):=by
  unfold iJ;rw [Array.toList_append,Array.toList_append,dJ,dJ,List.append_assoc];congr 2
  ·rw [List.take_of_length_le];rw [List.length_drop,Array.length_toList];exact Nat.le_refl _
  ·rw [List.take_of_length_le];rw [List.length_drop,Array.length_toList];exact Nat.le_refl _
 refine ⟨by rw [e];exact m.perm, ?_⟩;rw [e];rcases h with h|h
 ·rw [h,show a.toList.drop a.size=[] by rw [List.drop_eq_nil_of_le];rw [Array.length_toList];exact Nat.le_refl _,List.nil_append]
  exact m.sb
 ·rw [h,show b.toList.drop b.size=[] by rw [List.drop_eq_nil_of_le];rw [Array.length_toList];exact Nat.le_refl _,List.append_nil]
  exact m.sa
theorem MI.last (m:MI rk a b out ia ib) (h:∀i j,ib<=i->i<b.size->ia<=j->j<a.size->R rk b i<=R rk a j):Mg rk a b (tV a b out ia ib):=by
 have m2:=m.wJ (k:=b.size - ib) fun i hi hb j j1 j2=>h _ _ (by (clear j2 j1 hb hi;lia)) hb j1 j2
 have e:(tV a b out ia ib)=iJ a b (out++b.extract ib (ib+(b.size - ib))) ia (ib+(b.size - ib)):=by
  unfold iJ tV;apply Array.toList_inj.mp;simp only [Array.toList_append,dJ]
  have e1:(b.toList.drop (ib+(b.size - ib))).take (b.size - (ib+(b.size - ib)))=[]:=by
   rw [List.take_eq_nil_iff];left;lia
  rw [e1,List.append_nil];congr 3
  (clear e1;lia)
 rw [e]
 by_cases hb:ib<=b.size
 ·exact m2.done (.inr (by (clear e;lia)))
 ·refine ⟨?_, ?_⟩
  ·have:=m2.perm
   have e2:(iJ a b (out++b.extract ib (ib+(b.size - ib))) ia (ib+(b.size - ib))).toList=(out++b.extract ib (ib+(b.size - ib))).toList++(a.toList.drop ia++b.toList.drop (ib+(b.size - ib))):=by
    unfold iJ;rw [Array.toList_append,Array.toList_append,dJ,dJ,List.append_assoc];congr 2
    ·rw [List.take_of_length_le];rw [List.length_drop,Array.length_toList];exact Nat.le_refl _
    ·rw [List.take_of_length_le];rw [List.length_drop,Array.length_toList];exact Nat.le_refl _
   rw [e2];exact this
  ·unfold iJ
   rw [Array.toList_append,Array.toList_append,dJ (a:=b) (i:=ib+(b.size - ib)),show b.size - (ib+(b.size - ib))=0 by (clear hb e;lia),List.take_zero,List.append_nil,dJ (a:=a)];rw [List.take_of_length_le (by rw [List.length_drop,Array.length_toList];exact Nat.le_refl _)];exact m2.sa
end
end Tim
set_option Elab.async false
set_option linter.all false
set_option maxRecDepth 100000
set_option maxHeartbeats 4000000
namespace Tim
open PySem PyProof.Rows
section
variable {prog:Program} {w:World} {A:Around} {E:Value->Shared->Prop} {s:Shared} {κ:SortKind} {a₀:Array Keyed} {rk:Value->Nat}
structure G3 (st st':SortSt):Prop where
 k:kindOf st'=kindOf st
 a:arrOf st'=arrOf st
 p:pendingOf st'=pendingOf st
 f:failedOf st'=failedOf st
theorem G3.refl (st:SortSt):G3 st st:=⟨rfl,rfl,rfl,rfl⟩
theorem G3.trans {a b c:SortSt} (h:G3 a b) (g:G3 b c):G3 a c:=⟨g.k.trans h.k,g.a.trans h.a,g.p.trans h.p,g.f.trans h.f⟩
theorem qX {st:SortSt} {g:Nat} {Q:Unit->SortSt->Prop} (h:∀st',G3 st st'->Q () st'):wpS (model prog w) A E s (gM g) Q st:=by
 rw [v7];exact wpS_modify (h _ ⟨rfl,rfl,rfl,rfl⟩)
theorem bA {α:Type} {c:Prop} [Decidable c] {x y:StateT SortSt Sem α} {Q:α->SortSt->Prop} {st:SortSt} (h1:c->wpS (model prog w) A E s x Q st) (h2:¬c->wpS (model prog w) A E s y Q st):wpS (model prog w) A E s (if c then x else y) Q st:=by
 by_cases hc:c
 ·rw [if_pos hc];exact h1 hc
 ·rw [if_neg hc];exact h2 hc
theorem aap {k r:Nat} (h:By true k r=true):r<k:=by simpa [By] using h
theorem Wq {k r:Nat} (h:By false k r=true):r<=k:=by simpa [By] using h
theorem Ju {k r:Nat} (h:By true k r=false):k<=r:=by simpa [By] using h
theorem TV {k r:Nat} (h:By false k r=false):k<r:=by simpa [By] using h
theorem G6 {st:SortSt} {a b:Array Keyed} {Q:Array Keyed->SortSt->Prop} (C:K9 prog w A s κ a₀ rk) (hk:kindOf st=κ) (ha:∀p∈a.toList,p∈a₀.toList) (hb:∀p∈b.toList,p∈a₀.toList)
 (ha1:1<=a.size) (hb1:1<=b.size) (sa:Seg rk a 0 a.size) (sb:Seg rk b 0 b.size) (h0:R rk b 0<=R rk a 0) (hl:R rk b (b.size - 1)<=R rk a (a.size - 1))
 (h:∀r st',G3 st st'->Mg rk a b r->Q r st'):wpS (model prog w) A E s (Af a b) Q st:=by
 have inb:∀i,i<b.size -> ∃p,b[i]? = some p/\p∈a₀.toList/\R rk b i=rk p.1:=fun i hi=>⟨b[i],getElem?_pos b i hi,hb _ (by simp),jo hi⟩;have W_:∀i,i<a.size -> ∃p,a[i]? = some p/\p∈a₀.toList/\R rk a i=rk p.1:=fun i hi=>⟨a[i],getElem?_pos a i hi,ha _ (by simp),jo hi⟩
 have mid:∀i j,i<b.size->j+1=a.size->R rk b i<=R rk a j:=fun i j hi hj=>by
  have:=sb i (b.size - 1) (by (clear hj hi hl h0 hb1 ha1 hk;lia)) (by (clear hj hl h0 hb1 ha1 hk;lia)) (by (clear hj hi hl h0 ha1 hk;lia));have e:a.size - 1=j:=by (clear this hi hl h0 hb1 ha1 hk;lia)
  rw [e] at hl
  (clear e hj hi h0 hb1 ha1 hk;lia)
 have m0:MI rk a b #[b[0]] 0 1:=by
  have m:MI rk a b #[] 0 0:=by
   refine ⟨by simp, ?_, ?_⟩
   ·show Pg rk ([]++a.toList.drop 0)
    rw [List.nil_append,List.drop_zero];refine List.pairwise_iff_getElem.mpr fun i j hi hj hij=> ?_;rw [Array.length_toList] at hi hj;have:=sa i j (by (clear hij hj hi hl h0 hb1 ha1 hk;lia)) (by (clear hj hi hl h0 hb1 ha1 hk;lia)) hj;rw [jo hi,jo hj] at this;simpa [Le] using this
   ·show Pg rk ([]++b.toList.drop 0)
    rw [List.nil_append,List.drop_zero];refine List.pairwise_iff_getElem.mpr fun i j hi hj hij=> ?_;rw [Array.length_toList] at hi hj;have:=sb i j (by (clear hij hj hi hl h0 hb1 ha1 hk;lia)) (by (clear hj hi hl h0 hb1 ha1 hk;lia)) hj;rw [jo hi,jo hj] at this;simpa [Le] using this
  exact m.zX (by (clear hl h0 ha1 hk;lia)) fun j _ j2=>Nat.le_trans h0 (sa 0 j (by (clear j2 hl h0 hb1 ha1 hk;lia)) (by (clear j2 hl h0 hb1 ha1 hk;lia)) j2)
 rw [HN];refine wpS_bind (wpS_lift (wpAny_rule ⟨rfl, ?_⟩));refine wpS_bind (b_ (p:=b[0]) (getElem?_pos b 0 (by (clear hl h0 ha1 hk;lia))) ?_);dsimp only;refine bA (fun e=> ?_) (fun e=> ?_)
 ·have e:1=b.size:=by simpa using e
  exact wpS_pure (h _ _ (.refl _) (m0.done (.inr e)))
 have eb:¬1=b.size:=by simpa using e
 refine bA (fun e=> ?_) (fun e=> ?_)
 ·have e:1=a.size:=by simpa using e
  exact wpS_pure (h _ _ (.refl _) (m0.last fun i j _ hi _ hj=>mid i j hi (by (clear hi eb hl h0 ha1 hk;lia))))
 have ea:¬1=a.size:=by simpa using e
 refine wpS_bind (wpS_get ?_)
 refine wpS_bind (wpS_mono (wpS_forRange (I:=fun x c st'=>G3 st st' /\ ∃out ia ib mg,c=(none,out,ia,ib,mg)/\MI rk a b out ia ib/\ia+2<=a.size/\ib+1<=b.size/\(a.size - ia)+(b.size - ib)+x<=a.size+b.size)
  (Q:=fun c st'=>G3 st st' /\ ∃r cc,c=(some r,cc)/\Mg rk a b r) ?step ?fin ⟨.refl _,_,_,_,_,rfl,m0,by (clear e eb hl h0 hk;lia),by (clear ea e hl h0 ha1 hk;lia),by (clear ea e eb hl h0 ha1 hk;lia)⟩) ?post)
 case post=>
  rintro c st' ⟨kp,r,cc,rfl,m⟩;exact wpS_pure (h _ _ kp m)
 case fin=>
  rintro c st' ⟨kp,out,ia,ib,mg,rfl,m,a1,b1,le⟩
  (clear b1 ea e eb hl h0 ha1 hk;lia)
 case step=>
  rintro x c st' _ hx ⟨kp,out,ia,ib,mg,rfl,m,a1,b1,le⟩;dsimp only
  refine wpS_bind (wpS_mono (wpS_forRange (I:=fun y c st2=>st2=st' /\ ∃out ia ib ac bc,c=(none,out,ia,ib,ac,bc)/\MI rk a b out ia ib/\ia+2<=a.size/\ib+1<=b.size/\(a.size - ia)+(b.size - ib)+x+y<=a.size+b.size)
   (Q:=fun c st2=>st2=st'/\((∃r cc,c=(some r,cc)/\Mg rk a b r) \/ ∃out ia ib ac bc,c=(none,out,ia,ib,ac,bc)/\MI rk a b out ia ib/\ia+2<=a.size/\ib+1<=b.size/\(a.size - ia)+(b.size - ib)+x+1<=a.size+b.size)) ?step1 ?ZS ⟨rfl,_,_,_,_,_,rfl,m,a1,b1,by (clear b1 a1 hx ea e eb hl h0 ha1 hk;lia)⟩) ?QC)
  case ZS=>
   rintro c st2 ⟨rfl,out,ia,ib,ac,bc,rfl,m,a1,b1,le⟩
   (clear b1 hx ea e eb hl h0 ha1 hk;lia)
  case step1=>
   rintro y c st2 _ hy ⟨rfl,out,ia,ib,ac,bc,rfl,m,a1,b1,le⟩;dsimp only;obtain ⟨p,ep,mp,rp⟩:=inb ib (by (clear le a1 hy hx ea e eb hl h0 ha1 hk;lia));obtain ⟨q,eq,mq,rq⟩:=W_ ia (by (clear rp ep le b1 hy hx ea e eb hl h0 ha1 hk;lia));refine wpS_bind (b_ ep (wpS_bind (b_ eq (wpS_bind (zq C (kp.k.trans hk) mp mq ?_)))));dsimp only;have cO:p=b[ib]:=by rw [getElem?_pos b ib (by (clear rq eq rp ep le a1 hy hx ea e eb hl h0 ha1 hk;lia))] at ep;exact (Option.some.inj ep).symm
   have jf:q=a[ia]:=by rw [getElem?_pos a ia (by (clear cO rq eq rp ep le b1 hy hx ea e eb hl h0 ha1 hk;lia))] at eq;exact (Option.some.inj eq).symm
   refine bA (fun lt=> ?_) (fun lt=> ?_)
   ·have lt:R rk b ib<R rk a ia:=by rw [rp,rq];simpa using lt
    have m2:MI rk a b (out.push p) ia (ib+1):=by
     rw [cO];exact m.zX (by (clear lt jf cO rq eq rp ep le a1 hy hx ea e eb hl h0 ha1 hk;lia)) fun j j1 j2=>by have:=sa ia j (by (clear j2 j1 lt jf cO rq eq rp ep le b1 a1 hy hx ea e eb hl h0 ha1 hk;lia)) j1 j2;(clear j2 j1 jf cO rq eq rp ep le b1 a1 hy hx ea e eb hl h0 ha1 hk;lia)
    refine wpS_bind (b_ ep ?_);refine bA (fun e=> ?_) (fun e=> ?_)
    ·exact wpS_pure ⟨rfl,.inl ⟨_,_,rfl,m2.done (.inr (by simpa using e))⟩⟩
    have e:¬ib+1=b.size:=by simpa using e
    refine bA (fun _=> ?_) (fun _=> ?_)
    ·exact wpS_pure ⟨rfl,.inr ⟨_,_,_,_,_,rfl,m2,a1,by (clear lt jf cO rq eq rp ep le a1 hy hx ea eb hl h0 ha1 hk;lia),by (clear e lt jf cO rq eq rp ep a1 hy hx ea eb hl h0 ha1 hk;lia)⟩⟩
    ·exact wpS_pure ⟨rfl,_,_,_,_,_,rfl,m2,a1,by (clear lt jf cO rq eq rp ep le a1 hy hx ea eb hl h0 ha1 hk;lia),by (clear e lt jf cO rq eq rp ep a1 hy hx ea eb hl h0 ha1 hk;lia)⟩
   ·have lt:R rk a ia<=R rk b ib:=by rw [rp,rq];simpa using lt
    have m2:MI rk a b (out.push q) (ia+1) ib:=by
     rw [jf];exact m.zY (by lia) fun j j1 j2=>by have:=sb ib j (by lia) j1 j2;lia
    refine wpS_bind (b_ eq ?_);refine bA (fun e=> ?_) (fun e=> ?_)
    ·have e:ia+1+1=a.size:=by simpa using e
     exact wpS_pure ⟨rfl,.inl ⟨_,_,rfl,m2.last fun i j _ hi _ hj=>mid i j hi (by lia)⟩⟩
    have e:¬ia+1+1=a.size:=by simpa using e
    refine bA (fun _=> ?_) (fun _=> ?_)
    ·exact wpS_pure ⟨rfl,.inr ⟨_,_,_,_,_,rfl,m2,by lia,b1,by lia⟩⟩
    ·exact wpS_pure ⟨rfl,_,_,_,_,_,rfl,m2,by lia,b1,by lia⟩
  case QC=>
   rintro c st2 ⟨rfl,(⟨r,cc,rfl,mr⟩|⟨out,ia,ib,ac,bc,rfl,m,a1,b1,le⟩)⟩
   ·exact wpS_pure ⟨kp,r,_,rfl,mr⟩
   dsimp only;refine wpS_bind (wpS_lift (wpAny_rule ⟨rfl, ?_⟩))
   refine wpS_bind (wpS_mono (wpS_forRange (I:=fun y c st3=>G3 st st3 /\ ∃out ia ib mg ac bc,c=(none,out,ia,ib,mg,ac,bc)/\MI rk a b out ia ib/\ia+2<=a.size/\ib+1<=b.size/\(a.size - ia)+(b.size - ib)+x+1+y<=a.size+b.size)
    (Q:=fun c st3=>G3 st st3/\((∃r cc,c=(some r,cc)/\Mg rk a b r) \/ ∃out ia ib mg ac bc,c=(none,out,ia,ib,mg,ac,bc)/\MI rk a b out ia ib/\ia+2<=a.size/\ib+1<=b.size/\(a.size - ia)+(b.size - ib)+x+1<=a.size+b.size)) ?Qn ?fin2 ⟨kp,_,_,_,_,_,_,rfl,m,a1,b1,by lia⟩) ?post2)
   case fin2=>
    rintro c st3 ⟨Ry,out,ia,ib,mg,ac,bc,rfl,m,a1,b1,le⟩
    lia
   case post2=>
    rintro c st3 ⟨Ry,(⟨r,cc,rfl,mr⟩|⟨out,ia,ib,mg,ac,bc,rfl,m,a1,b1,le⟩)⟩
    ·exact wpS_pure ⟨Ry,r,_,rfl,mr⟩
    dsimp only;refine wpS_bind (qX fun qp k4=>wpS_pure ⟨Ry.trans k4,_,_,_,_,rfl,m,a1,b1,by lia⟩)
   case Qn=>
    rintro y c st3 _ hy ⟨Ry,out,ia,ib,mg,ac,bc,rfl,m,a1,b1,le⟩;dsimp only;refine bA (fun _=> ?_) (fun _=> ?_)
    all_goals
     refine wpS_bind (qX fun qp k4=> ?_);have yr:=Ry.trans k4;obtain ⟨p,ep,mp,rp⟩:=inb ib (by lia);have cO:p=b[ib]:=by rw [getElem?_pos b ib (by lia)] at ep;exact (Option.some.inj ep).symm
     refine wpS_bind (b_ ep (wpS_bind (jE C (yr.k.trans hk) mp ha (by lia) (by lia) (fun i j h1 h2 h3=>sa i j (by lia) h2 (by lia)) fun k k1 k2 k3=> ?_)));dsimp only
     have mA:MI rk a b (out++a.extract ia (ia+k)) (ia+k) ib:=m.wK (k:=k) fun i hi hs j j1 j2=>by
      have e1:=Wq (k2 i hi);have e2:=sb ib j (by lia) j1 j2;rw [rp] at e2
      lia
     have nxt:∀j,ia+k<=j->j<a.size->R rk b ib<=R rk a j:=fun j j1 j2=>by
      have:=TV (k3 (j - ia) (by lia) (by lia));rw [show ia+(j - ia)=j by lia] at this;rw [rp];lia
     apply bA
     case' h1=>
      intro kpos;refine bA (fun e=> ?_) (fun e=> ?_)
      ·have e:ia+k+1=a.size:=by simpa using e
       exact wpS_pure ⟨yr,.inl ⟨_,_,rfl,mA.last fun i j _ hi _ hj=>mid i j hi (by lia)⟩⟩
      have e1:¬ia+k+1=a.size:=by simpa using e
      refine bA (fun e=> ?_) (fun e=> ?_)
      ·exact wpS_pure ⟨yr,.inl ⟨_,_,rfl,mA.done (.inl (by simpa using e))⟩⟩
      have e2:¬ia+k=a.size:=by simpa using e
      have a3:ia+k+2<=a.size:=by lia
      have i_:(a.size - (ia+k))+(b.size - ib)+x+1+y<=a.size+b.size:=by lia
      generalize out++a.extract ia (ia+k)=ao9 at mA ⊢;generalize ia+k=ia3 at mA nxt a3 i_ ⊢
     case' h2=>
      intro kpos;have k0:k=0:=by lia
      have a3:ia+2<=a.size:=by lia
      have i_:(a.size - ia)+(b.size - ib)+x+1+y<=a.size+b.size:=by lia
      subst k0
      replace nxt:∀j,ia<=j->j<a.size->R rk b ib<=R rk a j:=nxt
      replace mA:=m
     all_goals
      have mB:=mA.zX (by lia) nxt;rw [←cO] at mB;refine wpS_bind (b_ ep ?_);refine bA (fun e=> ?_) (fun e=> ?_)
      ·exact wpS_pure ⟨yr,.inl ⟨_,_,rfl,mB.done (.inr (by simpa using e))⟩⟩
      have e3:¬ib+1=b.size:=by simpa using e
      obtain ⟨q,eq,mq,rq⟩:=W_ _ (show _<a.size from Nat.lt_of_lt_of_le (Nat.lt_succ_of_lt (Nat.lt_succ_self _)) a3);refine wpS_bind (b_ eq (wpS_bind (jE C (yr.k.trans hk) mq hb (by lia) (by lia) (fun i j h1 h2 h3=>sb i j (by lia) h2 (by lia)) fun k' l1 l2 l3=> ?_)));dsimp only
      have mC:=mB.wJ (k:=k') fun i hi hs j j1 j2=>by
       have e1:=aap (l2 i hi);have e2:=sa _ j (by lia) j1 j2;rw [rq] at e2
       lia
      apply bA
      case' h1=>
       intro kpos;refine bA (fun e=> ?_) (fun e=> ?_)
       ·exact wpS_pure ⟨yr,.inl ⟨_,_,rfl,mC.done (.inr (by simpa using e))⟩⟩
       have e5:¬ib+1+k'=b.size:=by simpa using e
       have nx:∀j,ib+1+k'<=j->j<b.size->rk q.1<=R rk b j:=fun j j1 j2=>by
        have:=Ju (l3 (j - (ib+1)) (by lia) (by lia));rw [show ib+1+(j - (ib+1))=j by lia] at this
        lia
       have b3:ib+1+k'+1<=b.size:=by lia
      case' h2=>
       intro kpos;have k0:k'=0:=by lia
       have nx:∀j,ib+1<=j->j<b.size->rk q.1<=R rk b j:=fun j j1 j2=>by
        have:=Ju (l3 (j - (ib+1)) (by lia) (by lia));rw [show ib+1+(j - (ib+1))=j by lia] at this
        lia
       have b3:ib+1+1<=b.size:=by lia
       replace mC:=mB
      all_goals
       have mD:=mC.zY (by lia) (fun j j1 j2=>by rw [rq];exact nx j j1 j2);have jf:=Option.some.inj ((getElem?_pos a _ (by lia)).symm.trans eq);rw [jf] at mD;refine wpS_bind (b_ eq ?_);refine bA (fun e=> ?_) (fun e=> ?_)
       ·exact wpS_pure ⟨yr,.inl ⟨_,_,rfl,mD.last fun i j _ hi _ hj=>mid i j hi (by have e:=eq_of_beq e;lia)⟩⟩
       have e6:¬_=a.size:=fun z=>e (beq_iff_eq.mpr z);refine bA (fun _=> ?_) (fun _=> ?_)
       ·exact wpS_pure ⟨yr,.inr ⟨_,_,_,_,_,_,rfl,mD,by lia,by lia,by lia⟩⟩
       ·exact wpS_pure ⟨yr,_,_,_,_,_,_,rfl,mD,by lia,by lia,by lia⟩
end
end Tim
set_option Elab.async false
set_option linter.all false
set_option maxRecDepth 100000
set_option maxHeartbeats 4000000
namespace Tim
open PySem PyProof.Rows
abbrev kI (a b out:Array Keyed) (na nb:Nat):Array Keyed:=a.extract 0 na++b.extract 0 nb++out.reverse
abbrev rM (a b out:Array Keyed) (na nb:Nat):Array Keyed:=b.extract 0 nb++a.extract 0 na++out.reverse
theorem HS (a b:Array Keyed):Ag a b=(do
 rule "list.sort.merge-hi"
 let total:=a.size+b.size
 let mut na:=a.size - 1
 let mut nb:=b.size
 let mut out:Array Keyed:= #[←elem' a na]
 if na==0 then return kI a b out na nb
 if nb==1 then return rM a b out na nb
 let mut minGallop:=gallopOf (←get)
 for _ in [0:total] do
  let mut acount:=0
  let mut bcount:=0
  for _ in [0:total] do
   let some aWins ←lt' (←elem' b (nb - 1)) (←elem' a (na - 1))|return kI a b out na nb
   if aWins then
    na:=na - 1;out:=out.push (←elem' a na);acount:=acount+1;bcount:=0
    if na==0 then return kI a b out na nb
    if acount≥minGallop then break
   else
    nb:=nb - 1;out:=out.push (←elem' b nb);bcount:=bcount+1;acount:=0
    if nb==1 then return rM a b out na nb
    if bcount≥minGallop then break
  rule "list.sort.gallop"
  minGallop:=minGallop+1
  for _ in [0:total] do
   if minGallop>1 then minGallop:=minGallop - 1
   gM minGallop
   let some at_ ←mQ false (←elem' b (nb - 1)) a 0 na (na - 1)|return kI a b out na nb
   let k:=na - at_
   acount:=k
   if k>0 then
    out:=out++(a.extract at_ na).reverse;na:=at_
    if na==0 then return kI a b out na nb
   nb:=nb - 1;out:=out.push (←elem' b nb)
   if nb==1 then return rM a b out na nb
   let some at_ ←mQ true (←elem' a (na - 1)) b 0 nb (nb - 1)|return kI a b out na nb
   let k:=nb - at_
   bcount:=k
   if k>0 then
    out:=out++(b.extract at_ nb).reverse;nb:=at_
    if nb==1 then return rM a b out na nb
    if nb==0 then return kI a b out na nb
   na:=na - 1;out:=out.push (←elem' a na)
   if na==0 then return kI a b out na nb
   if acount<7&&bcount<7 then break
  minGallop:=minGallop+1
  gM minGallop
 unsupported "internal:list.sort.merge-bound"):=rfl
section
variable {rk:Value->Nat} {a b out:Array Keyed} {na nb k:Nat}
structure MH (rk:Value->Nat) (a b out:Array Keyed) (na nb:Nat):Prop where
 perm:(a.toList.take na++(b.toList.take nb++out.toList.reverse)).Perm (a.toList++b.toList)
 sa:Pg rk (a.toList.take na++out.toList.reverse)
 sb:Pg rk (b.toList.take nb++out.toList.reverse)
theorem JC (l:List Keyed) {i j:Nat} (h:i<=j):l.take j=l.take i++(l.drop i).take (j - i):=by
 rw [List.take_drop,show i+(j - i)=j by lia];have:=(List.take_append_drop i (l.take j)).symm;rwa [List.take_take,Nat.min_eq_left h] at this
theorem Od {a:Array Keyed} {x:Keyed} (h:x∈a.toList.take na):∃j,j<na/\j<a.size/\R rk a j=rk x.1:=by
 have h':x∈(a.toList.drop 0).take na:=by rw [List.drop_zero];exact h
 obtain ⟨j,j1,j2,j3⟩:=jT (rk:=rk) h';rw [Nat.zero_add] at j2 j3;exact ⟨j,j1,j2,j3⟩
theorem MH.wK (m:MH rk a b out na nb) {at_:Nat} (hat:at_<=na) (hle:∀i,at_<=i->i<na->i<a.size -> ∀j,j<nb->j<b.size->R rk b j<=R rk a i):MH rk a b (out++(a.extract at_ na).reverse) at_ nb:=by
 have e:(out++(a.extract at_ na).reverse).toList.reverse=(a.toList.drop at_).take (na - at_)++out.toList.reverse:=by
  rw [Array.toList_append,List.reverse_append,Array.toList_reverse,List.reverse_reverse,dJ]
 have sp:=JC a.toList hat;refine ⟨?_, ?_, ?_⟩
 ·rw [e]
  refine List.Perm.trans ?_ m.perm;rw [sp,List.append_assoc];refine List.Perm.append_left _ ?_;rw [←List.append_assoc,←List.append_assoc];exact List.Perm.append_right _ List.perm_append_comm
 ·rw [e,←List.append_assoc,←sp]
  exact m.sa
 ·rw [e]
  have h1:=m.sa;rw [sp,List.append_assoc] at h1;have h2:=jQ.mp (jQ.mp h1).2.1;have h3:=jQ.mp m.sb;refine jQ.mpr ⟨h3.1,jQ.mpr ⟨h2.1,h3.2.1,h2.2.2⟩,fun p hp q hq=> ?_⟩;rcases List.mem_append.mp hq with hq|hq
  ·obtain ⟨i,i1,i2,i3⟩:=Od (rk:=rk) hp
   obtain ⟨j,j1,j2,j3⟩:=jT (rk:=rk) hq;rw [←i3,←j3];exact hle _ (by lia) (by lia) j2 i i1 i2
  ·exact h3.2.2 p hp q hq
theorem MH.swap (m:MH rk a b out na nb):MH rk b a out nb na:=by
 refine ⟨?_,m.sb,m.sa⟩;refine List.Perm.trans ?_ (m.perm.trans List.perm_append_comm);rw [←List.append_assoc,←List.append_assoc];exact List.Perm.append_right _ List.perm_append_comm
theorem MH.wJ (m:MH rk a b out na nb) {at_:Nat} (hat:at_<=nb) (hle:∀i,at_<=i->i<nb->i<b.size -> ∀j,j<na->j<a.size->R rk a j<=R rk b i):MH rk a b (out++(b.extract at_ nb).reverse) na at_:=(m.swap.wK hat hle).swap
theorem Qx (h1:1<=na) (h:na<=a.size):out.push (a[na - 1]'(by lia))=out++(a.extract (na - 1) na).reverse:=by
 have e:=Hr (out:= #[]) (b:=a) (ib:=na - 1) (by lia);rw [show na - 1+1=na by lia] at e
 have e2:a.extract (na - 1) na = #[a[na - 1]'(by lia)]:=by
  apply Array.toList_inj.mp;have:=congrArg Array.toList e;rw [Array.toList_append] at this;simpa using this.symm
 rw [e2];apply Array.toList_inj.mp;simp
theorem MH.zY (m:MH rk a b out na nb) (h1:1<=na) (h:na<=a.size) (hle:∀j,j<nb->j<b.size->R rk b j<=R rk a (na - 1)):MH rk a b (out.push (a[na - 1]'(by lia))) (na - 1) nb:=by
 rw [Qx h1 h];refine m.wK (by lia) fun i i1 i2 i3 j j1 j2=> ?_;have:i=na - 1:=by lia
 subst this;exact hle j j1 j2
theorem MH.zX (m:MH rk a b out na nb) (h1:1<=nb) (h:nb<=b.size) (hle:∀j,j<na->j<a.size->R rk a j<=R rk b (nb - 1)):MH rk a b (out.push (b[nb - 1]'(by lia))) na (nb - 1):=(m.swap.zY h1 h hle).swap
theorem yt:(kI a b out na nb).toList=a.toList.take na++(b.toList.take nb++out.toList.reverse):=by
 unfold kI;rw [Array.toList_append,Array.toList_append,dJ,dJ,Array.toList_reverse,List.append_assoc];rfl
theorem MH.done (m:MH rk a b out na nb) (h:na=0\/nb=0):Mg rk a b (kI a b out na nb):=by
 refine ⟨by rw [yt];exact m.perm, ?_⟩;rw [yt];rcases h with h|h
 ·subst h
  exact m.sb
 ·subst h
  exact m.sa
theorem MH.first (m:MH rk a b out na nb) (h:∀i j,i<nb->i<b.size->j<na->j<a.size->R rk b i<=R rk a j):Mg rk a b (rM a b out na nb):=by
 have m2:=m.wK (at_:=0) (by lia) fun i _ i2 i3 j j1 j2=>h j i j1 j2 i2 i3
 have e:rM a b out na nb=kI a b (out++(a.extract 0 na).reverse) 0 nb:=by
  apply Array.toList_inj.mp;rw [yt,yt,Array.toList_append,List.reverse_append,Array.toList_reverse,List.reverse_reverse,dJ];simp
 rw [e];exact m2.done (.inl rfl)
end
section
variable {prog:Program} {w:World} {A:Around} {E:Value->Shared->Prop} {s:Shared} {κ:SortKind} {a₀:Array Keyed} {rk:Value->Nat}
theorem G7 {st:SortSt} {a b:Array Keyed} {Q:Array Keyed->SortSt->Prop} (C:K9 prog w A s κ a₀ rk) (hk:kindOf st=κ) (ha:∀p∈a.toList,p∈a₀.toList) (hb:∀p∈b.toList,p∈a₀.toList)
 (ha1:1<=a.size) (hb1:1<=b.size) (sa:Seg rk a 0 a.size) (sb:Seg rk b 0 b.size) (h0:R rk b 0<=R rk a 0) (hl:R rk b (b.size - 1)<=R rk a (a.size - 1))
 (h:∀r st',G3 st st'->Mg rk a b r->Q r st'):wpS (model prog w) A E s (Ag a b) Q st:=by
 have inb:∀i,i<b.size -> ∃p,b[i]? = some p/\p∈a₀.toList/\R rk b i=rk p.1:=fun i hi=>⟨b[i],getElem?_pos b i hi,hb _ (by simp),jo hi⟩;have W_:∀i,i<a.size -> ∃p,a[i]? = some p/\p∈a₀.toList/\R rk a i=rk p.1:=fun i hi=>⟨a[i],getElem?_pos a i hi,ha _ (by simp),jo hi⟩
 have mid:∀i j nb,i<nb->nb=1->j<a.size->R rk b i<=R rk a j:=fun i j nb hi hn hj=>by
  have:=sa 0 j (by lia) (by lia) hj;have e:i=0:=by lia
  subst e
  lia
 have m0:MH rk a b #[a[a.size - 1]] (a.size - 1) b.size:=by
  have m:MH rk a b #[] a.size b.size:=by
   refine ⟨?_, ?_, ?_⟩
   ·rw [←Array.length_toList,←Array.length_toList,List.take_length,List.take_length];simp
   ·rw [←Array.length_toList,List.take_length]
    show Pg rk (a.toList++[]);rw [List.append_nil];refine List.pairwise_iff_getElem.mpr fun i j hi hj hij=> ?_;rw [Array.length_toList] at hi hj;have:=sa i j (by lia) (by lia) hj;rw [jo hi,jo hj] at this;simpa [Le] using this
   ·rw [←Array.length_toList,List.take_length]
    show Pg rk (b.toList++[]);rw [List.append_nil];refine List.pairwise_iff_getElem.mpr fun i j hi hj hij=> ?_;rw [Array.length_toList] at hi hj;have:=sb i j (by lia) (by lia) hj;rw [jo hi,jo hj] at this;simpa [Le] using this
  exact m.zY ha1 (Nat.le_refl _) fun j j1 j2=>Nat.le_trans (sb j (b.size - 1) (by lia) (by lia) (by lia)) hl
 rw [HS];refine wpS_bind (wpS_lift (wpAny_rule ⟨rfl, ?_⟩));refine wpS_bind (b_ (p:=a[a.size - 1]) (getElem?_pos a _ (by lia)) ?_);dsimp only;refine bA (fun e=> ?_) (fun e=> ?_)
 ·exact wpS_pure (h _ _ (.refl _) (m0.done (.inl (by simpa using e))))
 have ea:¬a.size - 1=0:=fun z=>e (beq_iff_eq.mpr z);refine bA (fun e=> ?_) (fun e=> ?_)
 ·exact wpS_pure (h _ _ (.refl _) (m0.first fun i j i1 i2 j1 j2=>mid i j _ i1 (by simpa using e) j2))
 have eb:¬b.size=1:=by simpa using e
 refine wpS_bind (wpS_get ?_)
 refine wpS_bind (wpS_mono (wpS_forRange (I:=fun x c st'=>G3 st st' /\ ∃na nb out mg,c=(none,na,nb,out,mg)/\MH rk a b out na nb/\1<=na/\2<=nb/\na<=a.size/\nb<=b.size/\na+nb+x<=a.size+b.size)
  (Q:=fun c st'=>G3 st st' /\ ∃r cc,c=(some r,cc)/\Mg rk a b r) ?step ?fin ⟨.refl _,_,_,_,_,rfl,m0,by lia,by lia,by lia,by lia,by lia⟩) ?post)
 case post=>
  rintro c st' ⟨kp,r,cc,rfl,m⟩;exact wpS_pure (h _ _ kp m)
 case fin=>
  rintro c st' ⟨kp,na,nb,out,mg,rfl,m,a1,b1,a2,b2,le⟩
  lia
 case step=>
  rintro x c st' _ hx ⟨kp,na,nb,out,mg,rfl,m,a1,b1,a2,b2,le⟩;dsimp only
  refine wpS_bind (wpS_mono (wpS_forRange (I:=fun y c st2=>st2=st' /\ ∃na nb out ac bc,c=(none,na,nb,out,ac,bc)/\MH rk a b out na nb/\1<=na/\2<=nb/\na<=a.size/\nb<=b.size/\na+nb+x+y<=a.size+b.size)
   (Q:=fun c st2=>st2=st'/\((∃r cc,c=(some r,cc)/\Mg rk a b r) \/ ∃na nb out ac bc,c=(none,na,nb,out,ac,bc)/\MH rk a b out na nb/\1<=na/\2<=nb/\na<=a.size/\nb<=b.size/\na+nb+x+1<=a.size+b.size)) ?step1 ?ZS ⟨rfl,_,_,_,_,_,rfl,m,a1,b1,a2,b2,by lia⟩) ?QC)
  case ZS=>
   rintro c st2 ⟨rfl,na,nb,out,ac,bc,rfl,m,a1,b1,a2,b2,le⟩
   lia
  case step1=>
   rintro y c st2 _ hy ⟨rfl,na,nb,out,ac,bc,rfl,m,a1,b1,a2,b2,le⟩;dsimp only;obtain ⟨p,ep,mp,rp⟩:=inb (nb - 1) (by lia);obtain ⟨q,eq,mq,rq⟩:=W_ (na - 1) (by lia);refine wpS_bind (b_ ep (wpS_bind (b_ eq (wpS_bind (zq C (kp.k.trans hk) mp mq ?_)))));dsimp only;have cO:b[nb - 1]=p:=Option.some.inj ((getElem?_pos b _ (by lia)).symm.trans ep);have jf:a[na - 1]=q:=Option.some.inj ((getElem?_pos a _ (by lia)).symm.trans eq);refine bA (fun lt=> ?_) (fun lt=> ?_)
   ·have lt:R rk b (nb - 1)<R rk a (na - 1):=by rw [rp,rq];simpa using lt
    have m2:=m.zY a1 a2 fun j j1 j2=>by have:=sb j (nb - 1) (by lia) (by lia) (by lia);lia
    rw [jf] at m2;refine wpS_bind (b_ eq ?_);refine bA (fun e=> ?_) (fun e=> ?_)
    ·exact wpS_pure ⟨rfl,.inl ⟨_,_,rfl,m2.done (.inl (by simpa using e))⟩⟩
    have e:¬na - 1=0:=fun z=>e (beq_iff_eq.mpr z);refine bA (fun _=> ?_) (fun _=> ?_)
    ·exact wpS_pure ⟨rfl,.inr ⟨_,_,_,_,_,rfl,m2,by lia,b1,by lia,b2,by lia⟩⟩
    ·exact wpS_pure ⟨rfl,_,_,_,_,_,rfl,m2,by lia,b1,by lia,b2,by lia⟩
   ·have lt:R rk a (na - 1)<=R rk b (nb - 1):=by rw [rp,rq];simpa using lt
    have m2:=m.zX (by lia) b2 fun j j1 j2=>by have:=sa j (na - 1) (by lia) (by lia) (by lia);lia
    rw [cO] at m2;refine wpS_bind (b_ ep ?_);refine bA (fun e=> ?_) (fun e=> ?_)
    ·exact wpS_pure ⟨rfl,.inl ⟨_,_,rfl,m2.first fun i j i1 i2 j1 j2=>mid i j _ i1 (eq_of_beq e) j2⟩⟩
    have e:¬nb - 1=1:=fun z=>e (beq_iff_eq.mpr z);refine bA (fun _=> ?_) (fun _=> ?_)
    ·exact wpS_pure ⟨rfl,.inr ⟨_,_,_,_,_,rfl,m2,a1,by lia,a2,by lia,by lia⟩⟩
    ·exact wpS_pure ⟨rfl,_,_,_,_,_,rfl,m2,a1,by lia,a2,by lia,by lia⟩
  case QC=>
   rintro c st2 ⟨rfl,(⟨r,cc,rfl,mr⟩|⟨na,nb,out,ac,bc,rfl,m,a1,b1,a2,b2,le⟩)⟩
   ·exact wpS_pure ⟨kp,r,_,rfl,mr⟩
   dsimp only;refine wpS_bind (wpS_lift (wpAny_rule ⟨rfl, ?_⟩))
   refine wpS_bind (wpS_mono (wpS_forRange (I:=fun y c st3=>G3 st st3 /\ ∃na nb out mg ac bc,c=(none,na,nb,out,mg,ac,bc)/\MH rk a b out na nb/\1<=na/\2<=nb/\na<=a.size/\nb<=b.size/\na+nb+x+1+y<=a.size+b.size)
    (Q:=fun c st3=>G3 st st3/\((∃r cc,c=(some r,cc)/\Mg rk a b r) \/ ∃na nb out mg ac bc,c=(none,na,nb,out,mg,ac,bc)/\MH rk a b out na nb/\1<=na/\2<=nb/\na<=a.size/\nb<=b.size/\na+nb+x+1<=a.size+b.size)) ?Qn ?fin2 ⟨kp,_,_,_,_,_,_,rfl,m,a1,b1,a2,b2,by lia⟩) ?post2)
   case fin2=>
    rintro c st3 ⟨Ry,na,nb,out,mg,ac,bc,rfl,m,a1,b1,a2,b2,le⟩
    lia
   case post2=>
    rintro c st3 ⟨Ry,(⟨r,cc,rfl,mr⟩|⟨na,nb,out,mg,ac,bc,rfl,m,a1,b1,a2,b2,le⟩)⟩
    ·exact wpS_pure ⟨Ry,r,_,rfl,mr⟩
    dsimp only;refine wpS_bind (qX fun qp k4=>wpS_pure ⟨Ry.trans k4,_,_,_,_,rfl,m,a1,b1,a2,b2,by lia⟩)
   case Qn=>
    rintro y c st3 _ hy ⟨Ry,na,nb,out,mg,ac,bc,rfl,m,a1,b1,a2,b2,le⟩;dsimp only;refine bA (fun _=> ?_) (fun _=> ?_)
    all_goals
     refine wpS_bind (qX fun qp k4=> ?_);have yr:=Ry.trans k4;obtain ⟨p,ep,mp,rp⟩:=inb (nb - 1) (by lia);have cO:b[nb - 1]=p:=Option.some.inj ((getElem?_pos b _ (by lia)).symm.trans ep);refine wpS_bind (b_ ep (wpS_bind (jE C (yr.k.trans hk) mp ha (by lia) (by lia) (fun i j h1 h2 h3=>sa i j (by lia) h2 (by lia)) fun k k1 k2 k3=> ?_)));dsimp only;simp only [Nat.zero_add] at k2 k3
     have mA:=m.wK k1 fun i i1 i2 i3 j j1 j2=>by
      have e1:=TV (k3 i i1 i2);have e2:=sb j (nb - 1) (by lia) (by lia) (by lia)
      lia
     have nxt:∀j,j<k->j<a.size->R rk a j<=R rk b (nb - 1):=fun j j1 j2=>by
      have:=Wq (k2 j j1)
      lia
     apply bA
     case' h1=>
      intro kpos;refine bA (fun e=> ?_) (fun e=> ?_)
      ·exact wpS_pure ⟨yr,.inl ⟨_,_,rfl,mA.done (.inl (by simpa using e))⟩⟩
      have e1:¬k=0:=fun z=>e (beq_iff_eq.mpr z);have a3:1<=k:=by lia
      have a4:k<=a.size:=by lia
      have i_:k+nb+x+1+y<=a.size+b.size:=by lia
     case' h2=>
      intro kpos;have k0:k=na:=by lia
      have a3:1<=na:=a1;have a4:na<=a.size:=a2;have i_:na+nb+x+1+y<=a.size+b.size:=by lia
      rw [k0] at nxt
      replace mA:=m
     all_goals
      have mB:=mA.zX (by lia) b2 nxt;rw [cO] at mB;refine wpS_bind (b_ ep ?_);refine bA (fun e=> ?_) (fun e=> ?_)
      ·exact wpS_pure ⟨yr,.inl ⟨_,_,rfl,mB.first fun i j i1 i2 j1 j2=>mid i j _ i1 (eq_of_beq e) j2⟩⟩
      have e3:¬nb - 1=1:=fun z=>e (beq_iff_eq.mpr z);obtain ⟨q,eq,mq,rq⟩:=W_ _ (Nat.lt_of_lt_of_le (Nat.sub_lt a3 Nat.one_pos) a4);refine wpS_bind (b_ eq (wpS_bind (jE C (yr.k.trans hk) mq hb (by lia) (by lia) (fun i j h1 h2 h3=>sb i j (by lia) h2 (by lia)) fun k' l1 l2 l3=> ?_)));dsimp only;simp only [Nat.zero_add] at l2 l3
      have mC:=mB.wJ l1 fun i i1 i2 i3 j j1 j2=>by
       have e1:=Ju (l3 i i1 i2);have e2:=sa j _ (by lia) (Nat.le_sub_one_of_lt j1) (by lia)
       lia
      have nx:∀j,j<k'->j<b.size->R rk b j<=rk q.1:=fun j j1 j2=>by
       have:=aap (l2 j j1)
       lia
      apply bA
      case' h1=>
       intro kpos;refine bA (fun e=> ?_) (fun e=> ?_)
       ·exact wpS_pure ⟨yr,.inl ⟨_,_,rfl,mC.first fun i j i1 i2 j1 j2=>mid i j _ i1 (eq_of_beq e) j2⟩⟩
       have e4:¬k'=1:=fun z=>e (beq_iff_eq.mpr z);refine bA (fun e=> ?_) (fun e=> ?_)
       ·exact wpS_pure ⟨yr,.inl ⟨_,_,rfl,mC.done (.inr (by simpa using e))⟩⟩
       have e5:¬k'=0:=fun z=>e (beq_iff_eq.mpr z);have b3:2<=k':=by lia
      case' h2=>
       intro kpos;have k0:k'=nb - 1:=by lia
       rw [k0] at nx;have b3:2<=nb - 1:=by lia
       replace mC:=mB
      all_goals
       have mD:=mC.zY a3 a4 (fun j j1 j2=>by rw [rq];exact nx j j1 j2);have jf:=Option.some.inj ((getElem?_pos a _ (by lia)).symm.trans eq);rw [jf] at mD;refine wpS_bind (b_ eq ?_);refine bA (fun e=> ?_) (fun e=> ?_)
       ·exact wpS_pure ⟨yr,.inl ⟨_,_,rfl,mD.done (.inl (eq_of_beq e))⟩⟩
       have e6:¬_=0:=fun z=>e (beq_iff_eq.mpr z);refine bA (fun _=> ?_) (fun _=> ?_)
       ·exact wpS_pure ⟨yr,.inr ⟨_,_,_,_,_,_,rfl,mD,by lia,by lia,by lia,by lia,by lia⟩⟩
       ·exact wpS_pure ⟨yr,_,_,_,_,_,_,rfl,mD,by lia,by lia,by lia,by lia,by lia⟩
end
end Tim
set_option Elab.async false
set_option linter.all false
set_option maxRecDepth 100000
set_option maxHeartbeats 4000000
namespace Tim
open PySem PyProof.Rows
section
variable {prog:Program} {w:World} {A:Around} {E:Value->Shared->Prop} {s:Shared} {κ:SortKind} {a₀:Array Keyed} {rk:Value->Nat} {pd:Array (Nat×Nat×Nat)}
structure SB (κ:SortKind) (a₀:Array Keyed) (pd:Array (Nat×Nat×Nat)) (st:SortSt):Prop where
 perm:(arrOf st).Perm a₀
 kind:kindOf st=κ
 failed:failedOf st=none
 pend:pendingOf st=pd
theorem SB.size {st:SortSt} (h:SB κ a₀ pd st):(arrOf st).size=a₀.size:=h.perm.size_eq
theorem SB.setArr {st:SortSt} (h:SB κ a₀ pd st) {xs:Array Keyed} (hp:xs.Perm (arrOf st)):SB κ a₀ pd (setArr st xs):=⟨hp.trans h.perm,h.kind,h.failed,h.pend⟩
theorem SB.mem {st:SortSt} (h:SB κ a₀ pd st) {p:Keyed} (hp:p∈(arrOf st).toList):p∈a₀.toList:=(Array.perm_iff_toList_perm.mp h.perm).mem_iff.mp hp
theorem lG {st:SortSt} {i j:Nat} {Q:Option Bool->SortSt->Prop} (C:K9 prog w A s κ a₀ rk) (hB:SB κ a₀ pd st) (hi:i<a₀.size) (hj:j<a₀.size) (h:Q (some (decide (R rk (arrOf st) i<R rk (arrOf st) j))) st):
 wpS (model prog w) A E s (ltAt' i j) Q st:=by
 rw [ltAt'_eq];refine wpS_bind (wpS_get ?_);have hi':i<(arrOf st).size:=by rw [hB.size];exact hi
 have hj':j<(arrOf st).size:=by rw [hB.size];exact hj
 rw [jo hi',jo hj'] at h;exact wpS_bind (b_ (getElem?_pos (arrOf st) i hi') (wpS_bind (b_ (getElem?_pos (arrOf st) j hj') (zq C hB.kind (hB.mem (by simp)) (hB.mem (by simp)) h))))
def Kb (lo:Nat) (st st':SortSt):Prop:=∀i,i<lo->(arrOf st')[i]? = (arrOf st)[i]?
theorem Kb.refl {lo:Nat} {st:SortSt}:Kb lo st st:=fun _ _=>rfl
theorem Kb.trans {lo:Nat} {a b c:SortSt} (h:Kb lo a b) (g:Kb lo b c):Kb lo a c:=fun i hi=>(g i hi).trans (h i hi)
theorem Bw {xs:Array Keyed} {i j:Nat} (hj:j<=xs.size) (k:Nat):R rk (mirror xs i j ((j - i) / 2)) k=if i<=k/\k<j then R rk xs (i+j - 1 - k) else R rk xs k:=by
 have e:=getElem?_mirror_all (i:=i) hj k
 by_cases h1:i<=k/\k<j
 ·rw [if_pos h1] at e ⊢;exact iC e
 ·rw [if_neg h1] at e ⊢;exact iC e
theorem rK {st:SortSt} {lo i j:Nat} (hj:j<=(arrOf st).size) (hi:lo<=i):Kb lo st (setArr st (mirror (arrOf st) i j ((j - i) / 2))):=fun k hk=>by
 show (mirror (arrOf st) i j ((j - i) / 2))[k]? = _;rw [getElem?_mirror_all hj,if_neg (by lia)]
theorem jY {xs:Array Keyed} {i j:Nat} (hj:j<=xs.size) (heq:∀k,i<=k->k<j->R rk xs k=R rk xs (j - 1)) (k:Nat):R rk (mirror xs i j ((j - i) / 2)) k=R rk xs k:=by
 rw [Bw hj];split
 ·rw [heq _ (by lia) (by lia),heq k (by lia) (by lia)]
 ·rfl
theorem Jo {xs:Array Keyed} {src d:Nat} (hs:src<xs.size) (hd:d<=src) (k:Nat):
 R rk (bubble xs src d) k=if k=src - d then R rk xs src else if src - d<k/\k<=src then R rk xs (k - 1) else R rk xs k:=by
 have e:=getElem?_bubble hs d hd k
 by_cases h1:k=src - d
 ·rw [if_pos h1] at e ⊢;exact iC e
 ·rw [if_neg h1] at e ⊢
  by_cases h2:src - d<k/\k<=src
  ·rw [if_pos h2] at e ⊢;exact iC e
  ·rw [if_neg h2] at e ⊢;exact iC e
def Dwn (rk:Value->Nat) (xs:Array Keyed) (lo hi:Nat):Prop:=∀i j,lo<=i->i<=j->j<hi->R rk xs j<=R rk xs i
theorem wpS_countRun {st:SortSt} {lo nrem:Nat} {Q:Option Nat->SortSt->Prop} (C:K9 prog w A s κ a₀ rk) (hn:lo+nrem<=a₀.size) (h1:1<=nrem) (hB:SB κ a₀ pd st)
 (h:∀m st',SB κ a₀ pd st'->Kb lo st st'->1<=m->m<=nrem->Seg rk (arrOf st') lo (lo+m)->Q (some m) st'):wpS (model prog w) A E s (countRun' lo nrem) Q st:=by
 rw [countRun'_eq]
 refine wpS_bind (wpS_mono (wpS_forRange (I:=fun x c st'=>st'=st/\c=(none,x)/\Seg rk (arrOf st) lo (lo+x))
  (Q:=fun c st'=>st'=st /\ ∃n,c=(none,n)/\1<=n/\n<=nrem/\Seg rk (arrOf st) lo (lo+n)/\(n=nrem\/R rk (arrOf st) (lo+n)<R rk (arrOf st) (lo+n - 1))) ?step ?fin ⟨rfl,rfl,fun i j a b c=>by rw [show i=j by lia];exact Nat.le_refl _⟩) ?post)
 case fin=>
  rintro c st' ⟨rfl,rfl,hs⟩;rw [show max 1 nrem=nrem by lia] at hs ⊢;exact ⟨rfl,nrem,rfl,h1,Nat.le_refl _,hs,.inl rfl⟩
 case step=>
  rintro x c st' x1 xn ⟨rfl,rfl,hs⟩;dsimp only;refine wpS_bind (lG C hB (by lia) (by lia) ?_);dsimp only;refine bA (fun lt=> ?_) (fun lt=> ?_)
  ·exact wpS_pure ⟨rfl,x,rfl,x1,by lia,hs,.inr (of_decide_eq_true lt)⟩
  ·have lt:R rk (arrOf st') (lo+x - 1)<=R rk (arrOf st') (lo+x):=Nat.le_of_not_lt fun z=>lt (decide_eq_true z)
   refine wpS_pure ⟨rfl,rfl,fun i j a b c=> ?_⟩
   by_cases hj:j<lo+x
   ·exact hs i j a b hj
   ·have:j=lo+x:=by lia
    subst this
    by_cases hi:i=lo+x
    ·rw [hi];exact Nat.le_refl _
    ·exact Nat.le_trans (hs i (lo+x - 1) a (by lia) (by lia)) lt
 case post=>
  rintro c st' ⟨rfl,n,rfl,n1,nn,hs,hor⟩;dsimp only;have hsz:(arrOf st').size=a₀.size:=hB.size;refine bA (fun e=> ?_) (fun e=> ?_)
  ·exact wpS_pure (h n _ hB Kb.refl n1 nn hs)
  have e:¬n=nrem:=fun z=>e (beq_iff_eq.mpr z);have lt:=hor.resolve_left e;have n2:n+1<=nrem:=by lia
  apply bA
  case' h1=>
   intro gt;refine wpS_bind (lG C hB (by lia) (by lia) ?_);dsimp only;refine bA (fun rose=> ?_) (fun rose=> ?_)
   ·exact wpS_pure (h n _ hB Kb.refl n1 nn hs)
   have rose:R rk (arrOf st') (lo+n - 1)<=R rk (arrOf st') lo:=Nat.le_of_not_lt fun z=>rose (decide_eq_true z)
   have all:∀k,lo<=k->k<lo+n->R rk (arrOf st') k=R rk (arrOf st') (lo+n - 1):=fun k k1 k2=>by
    have a1:=hs lo k (Nat.le_refl _) k1 k2;have a2:=hs k (lo+n - 1) k1 (by lia) (by lia)
    lia
   rw [reverseSlice'_eq];refine wpS_bind (wpS_modify ?_);have Ik:SB κ a₀ pd (setArr st' (mirror (arrOf st') lo (lo+n) ((lo+n - lo) / 2))):=hB.setArr (mirror_perm _ _ _ _);have k1:Kb lo st' (setArr st' (mirror (arrOf st') lo (lo+n) ((lo+n - lo) / 2))):=rK (by lia) (Nat.le_refl _)
   have dw:Dwn rk (arrOf (setArr st' (mirror (arrOf st') lo (lo+n) ((lo+n - lo) / 2)))) lo (lo+n+1):=fun i j a b c=>by
    show R rk (mirror _ _ _ _) j<=R rk (mirror _ _ _ _) i;rw [jY (by lia) all,jY (by lia) all]
    by_cases hj:j<lo+n
    ·rw [all i a (by lia),all j (by lia) hj];exact Nat.le_refl _
    ·have:j=lo+n:=by lia
     subst this
     by_cases hi:i=lo+n
     ·rw [hi];exact Nat.le_refl _
     ·rw [all i a (by lia)];lia
   generalize setArr st' (mirror (arrOf st') lo (lo+n) ((lo+n - lo) / 2))=st1 at Ik k1 dw ⊢
  case' h2=>
   intro gt;have Ik:=hB;have k1:Kb lo st' st':=Kb.refl
   have dw:Dwn rk (arrOf st') lo (lo+n+1):=fun i j a b c=>by
    have e1:n=1:=by lia
    subst e1
    by_cases hi:i=j
    ·rw [hi];exact Nat.le_refl _
    ·have:i=lo+1 - 1:=by lia
     have:j=lo+1:=by lia
     subst_vars
     lia
   revert Ik k1 dw;generalize hst:st'=st1;intro Ik k1 dw
  all_goals
   refine wpS_bind (wpS_lift (wpAny_rule ⟨rfl, ?_⟩))
   refine wpS_bind (wpS_mono (wpS_forRange (I:=fun x c st2=>∃neq,c=(none,x,neq)/\SB κ a₀ pd st2/\Kb lo st1 st2/\Dwn rk (arrOf st2) lo (lo+x)/\neq+1<=x/\(∀i,lo+x - (neq+1)<=i->i<lo+x->R rk (arrOf st2) i=R rk (arrOf st2) (lo+x - 1)))
    (Q:=fun c st2=>∃x neq,c=(none,x,neq)/\n+1<=x/\x<=nrem/\SB κ a₀ pd st2/\Kb lo st1 st2/\Dwn rk (arrOf st2) lo (lo+x)/\neq+1<=x/\(∀i,lo+x - (neq+1)<=i->i<lo+x->R rk (arrOf st2) i=R rk (arrOf st2) (lo+x - 1))) ?_ ?_ ⟨0,rfl,Ik,Kb.refl,dw,by lia,fun i a b=>by congr 1;lia⟩) ?_)
   ·rintro x c st2 x1 xn ⟨neq,rfl,hB2,k2,d2,q2,e2⟩
    dsimp only;have oG:(arrOf st2).size=a₀.size:=hB2.size;refine wpS_bind (lG C hB2 (by lia) (by lia) ?_);dsimp only;refine bA (fun lt=> ?_) (fun lt=> ?_)
    ·have lt:R rk (arrOf st2) (lo+x)<R rk (arrOf st2) (lo+x - 1):=of_decide_eq_true lt
     have step1:∀xs:Array Keyed,(∀k,R rk xs k=R rk (arrOf st2) k)->Dwn rk xs lo (lo+(x+1)):=by
      intro xs hk i j a b c;rw [hk,hk]
      by_cases hj:j<lo+x
      ·exact d2 i j a b hj
      ·have:j=lo+x:=by lia
       subst this
       by_cases hi:i=lo+x
       ·rw [hi];exact Nat.le_refl _
       ·exact Nat.le_trans (Nat.le_of_lt lt) (d2 i (lo+x - 1) a (by lia) (by lia))
     refine bA (fun _=> ?_) (fun _=> ?_)
     ·rw [reverseSlice'_eq]
      refine wpS_bind (wpS_modify (wpS_pure ⟨0,rfl,hB2.setArr (mirror_perm _ _ _ _),k2.trans (rK (by lia) (by lia)),step1 _ (jY (by lia) e2),by lia,fun i a b=>by congr 1;lia⟩))
     ·exact wpS_pure ⟨0,rfl,hB2,k2,step1 _ (fun _=>rfl),by lia,fun i a b=>by congr 1;lia⟩
    ·have ge:R rk (arrOf st2) (lo+x - 1)<=R rk (arrOf st2) (lo+x):=Nat.le_of_not_lt fun z=>lt (decide_eq_true z)
     refine wpS_bind (lG C hB2 (by lia) (by lia) ?_);dsimp only;refine bA (fun lg=> ?_) (fun lg=> ?_)
     ·exact wpS_pure ⟨x,neq,rfl,x1,by lia,hB2,k2,d2,q2,e2⟩
     ·have le:R rk (arrOf st2) (lo+x)<=R rk (arrOf st2) (lo+x - 1):=Nat.le_of_not_lt fun z=>lg (decide_eq_true z)
      have V3:R rk (arrOf st2) (lo+x)=R rk (arrOf st2) (lo+x - 1):=by lia
      refine wpS_pure ⟨neq+1,rfl,hB2,k2,fun i j a b c=> ?_,by lia,fun i a b=> ?_⟩
      ·by_cases hj:j<lo+x
       ·exact d2 i j a b hj
       ·have:j=lo+x:=by lia
        subst this
        by_cases hi:i=lo+x
        ·rw [hi];exact Nat.le_refl _
        ·rw [V3];exact d2 i (lo+x - 1) a (by lia) (by lia)
      ·rw [show lo+(x+1) - 1=lo+x by lia]
       by_cases hi:i=lo+x
       ·rw [hi]
       ·rw [V3];exact e2 i (by lia) (by lia)
   ·rintro c st2 ⟨neq,rfl,hB2,k2,d2,q2,e2⟩
    rw [show max (n+1) nrem=nrem by lia] at d2 q2 e2 ⊢;exact ⟨nrem,neq,rfl,n2,Nat.le_refl _,hB2,k2,d2,q2,e2⟩
   ·rintro c st2 ⟨x,neq,rfl,x1,xn,hB2,k2,d2,q2,e2⟩
    dsimp only;have oG:(arrOf st2).size=a₀.size:=hB2.size;apply bA
    case' h1=>
     intro _;rw [reverseSlice'_eq];refine wpS_bind (wpS_modify ?_);have hB3:SB κ a₀ pd (setArr st2 (mirror (arrOf st2) (lo+x - (neq+1)) (lo+x) ((lo+x - (lo+x - (neq+1))) / 2))):=hB2.setArr (mirror_perm _ _ _ _);have k3:=k2.trans (rK (st:=st2) (lo:=lo) (i:=lo+x - (neq+1)) (j:=lo+x) (by lia) (by lia))
     have d3:Dwn rk (arrOf (setArr st2 (mirror (arrOf st2) (lo+x - (neq+1)) (lo+x) ((lo+x - (lo+x - (neq+1))) / 2)))) lo (lo+x):=fun i j a b c=>by
      show R rk (mirror _ _ _ _) j<=R rk (mirror _ _ _ _) i;rw [jY (by lia) e2,jY (by lia) e2];exact d2 i j a b c
     generalize setArr st2 (mirror (arrOf st2) (lo+x - (neq+1)) (lo+x) ((lo+x - (lo+x - (neq+1))) / 2))=st3 at hB3 k3 d3 ⊢
    case' h2=>
     intro _;have hB3:=hB2;have k3:=k2;have d3:=d2;revert hB3 k3 d3;generalize st2=st3;intro hB3 k3 d3
    all_goals
     have Ld:(arrOf st3).size=a₀.size:=hB3.size;rw [reverseSlice'_eq];refine wpS_bind (wpS_modify ?_);have wH:SB κ a₀ pd (setArr st3 (mirror (arrOf st3) lo (lo+x) ((lo+x - lo) / 2))):=hB3.setArr (mirror_perm _ _ _ _);have k4:=k3.trans (rK (st:=st3) (lo:=lo) (i:=lo) (j:=lo+x) (by lia) (by lia))
     have s4:Seg rk (arrOf (setArr st3 (mirror (arrOf st3) lo (lo+x) ((lo+x - lo) / 2)))) lo (lo+x):=fun i j a b c=>by
      show R rk (mirror _ _ _ _) i<=R rk (mirror _ _ _ _) j;rw [Bw (by lia),Bw (by lia),if_pos (by lia),if_pos (by lia)];exact d3 _ _ (by lia) (by lia) (by lia)
     generalize setArr st3 (mirror (arrOf st3) lo (lo+x) ((lo+x - lo) / 2))=qp at wH k4 s4 ⊢
     refine wpS_bind (wpS_mono (wpS_forRange (I:=fun y c GX=>GX=qp/\c=(none,y)/\Seg rk (arrOf qp) lo (lo+y))
      (Q:=fun c GX=>GX=qp /\ ∃y,c=(none,y)/\x<=y/\y<=nrem/\Seg rk (arrOf qp) lo (lo+y)) ?_ ?_ ⟨rfl,rfl,s4⟩) ?_)
     ·rintro y c GX y1 yn ⟨rfl,rfl,Xe⟩
      dsimp only;refine wpS_bind (lG C wH (by lia) (by lia) ?_);dsimp only;refine bA (fun lt=> ?_) (fun lt=> ?_)
      ·exact wpS_pure ⟨rfl,y,rfl,y1,by lia,Xe⟩
      ·have lt:R rk (arrOf GX) (lo+y - 1)<=R rk (arrOf GX) (lo+y):=Nat.le_of_not_lt fun z=>lt (decide_eq_true z)
       refine wpS_pure ⟨rfl,rfl,fun i j a b c=> ?_⟩
       by_cases hj:j<lo+y
       ·exact Xe i j a b hj
       ·have:j=lo+y:=by lia
        subst this
        by_cases hi:i=lo+y
        ·rw [hi];exact Nat.le_refl _
        ·exact Nat.le_trans (Xe i (lo+y - 1) a (by lia) (by lia)) lt
     ·rintro c GX ⟨rfl,rfl,Xe⟩
      rw [show max x nrem=nrem by lia] at Xe ⊢;exact ⟨rfl,nrem,rfl,xn,Nat.le_refl _,Xe⟩
     ·rintro c GX ⟨rfl,y,rfl,y1,yn,Xe⟩
      exact wpS_pure (h y _ wH (by first |exact k1.trans k4|(subst hst;exact k4)) (by lia) yn Xe)
theorem wpS_binarySort {st:SortSt} {lo n ok:Nat} {Q:Bool->SortSt->Prop} (C:K9 prog w A s κ a₀ rk) (hn:lo+n<=a₀.size) (hok:ok<=n) (hB:SB κ a₀ pd st) (hs:Seg rk (arrOf st) lo (lo+ok))
 (h:∀st',SB κ a₀ pd st'->Kb lo st st'->Seg rk (arrOf st') lo (lo+n)->Q true st'):wpS (model prog w) A E s (binarySort' lo n ok) Q st:=by
 rw [binarySort'_eq]
 refine wpS_bind (wpS_mono (wpS_forRange (I:=fun k c st'=>c=(none,())/\SB κ a₀ pd st'/\Kb lo st st'/\Seg rk (arrOf st') lo (lo+min k n))
  (Q:=fun c st'=>c=(none,())/\SB κ a₀ pd st'/\Kb lo st st'/\Seg rk (arrOf st') lo (lo+n)) ?step ?fin ?init) ?post)
 case post=>
  rintro c st' ⟨rfl,hB',k',hs'⟩;exact wpS_pure (h st' hB' k' hs')
 case init=>
  refine ⟨rfl,hB,Kb.refl,fun i j a b c=> ?_⟩
  by_cases h1:ok=0
  ·rw [show i=j by lia];exact Nat.le_refl _
  ·exact hs i j a b (by lia)
 case fin=>
  rintro c st' ⟨hc,hB',k',hs'⟩;refine ⟨hc,hB',k', ?_⟩;rwa [show min (max (max ok 1) n) n=n by lia] at hs'
 case step=>
  rintro k c st' hak hkn ⟨rfl,hB',k',hs'⟩;rw [show min k n=k by lia] at hs';have sz:(arrOf st').size=a₀.size:=hB'.size
  refine wpS_bind (wpS_mono (wpS_forRange (I:=fun x c st''=>st''=st' /\ ∃l r,c=(none,l,r)/\l<=r/\r<=k/\r - l<=k - x /\
   (∀i,i<l->R rk (arrOf st') (lo+i)<=R rk (arrOf st') (lo+k))/\(∀i,r<=i->i<k->R rk (arrOf st') (lo+k)<R rk (arrOf st') (lo+i)))
   (Q:=fun c st''=>st''=st' /\ ∃l r,c=(none,l,r)/\l<=k /\
     (∀i,i<l->R rk (arrOf st') (lo+i)<=R rk (arrOf st') (lo+k))/\(∀i,l<=i->i<k->R rk (arrOf st') (lo+k)<R rk (arrOf st') (lo+i))) ?istep ?ifin ?iinit) ?ipost)
  case iinit=>exact ⟨rfl,0,k,rfl,by lia,by lia,by lia,fun i hi=>by lia,fun i h1 h2=>by lia⟩
  case ifin=>
   rintro c st'' ⟨rfl,l,r,rfl,hlr,hrk,hm,hlo,hhi⟩;have:l=r:=by lia
   subst this;exact ⟨rfl,l,l,rfl,hrk,hlo,hhi⟩
  case istep=>
   rintro x c st'' _ hxk ⟨rfl,l,r,rfl,hlr,hrk,hm,hlo,hhi⟩;dsimp only;refine bA (fun hge=> ?_) (fun hge=> ?_)
   ·have:l=r:=by lia
    subst this;exact wpS_pure ⟨rfl,l,l,rfl,hrk,hlo,hhi⟩
   ·refine wpS_bind (lG C hB' (by lia) (by lia) ?_)
    dsimp only;refine bA (fun lt=> ?_) (fun lt=> ?_)
    ·have lt:=of_decide_eq_true lt
     refine wpS_pure ⟨rfl,l,(l+r) / 2,rfl,by lia,by lia,by lia,hlo,fun i h1 h2=> ?_⟩;exact Nat.lt_of_lt_of_le lt (hs' _ _ (by lia) (by lia) (by lia))
    ·have lt:R rk (arrOf st'') (lo+(l+r) / 2)<=R rk (arrOf st'') (lo+k):=Nat.le_of_not_lt fun z=>lt (decide_eq_true z)
     refine wpS_pure ⟨rfl,(l+r) / 2+1,r,rfl,by lia,by lia,by lia,fun i h1=> ?_,hhi⟩;exact Nat.le_trans (hs' (lo+i) (lo+(l+r) / 2) (by lia) (by lia) (by lia)) lt
  case ipost=>
   rintro c st'' ⟨rfl,l,r,rfl,hlk,hlo,hhi⟩;show wpS _ _ _ _ (do moveDown' (lo+k) (lo+l);pure (ForInStep.yield (none,()))) _ _;rw [moveDown'_eq];refine wpS_bind (wpS_modify (wpS_pure ⟨rfl,hB'.setArr (bubble_perm _ _ _),k'.trans ?_, ?_⟩))
   ·intro i hi
    show (bubble (arrOf st'') (lo+k) (lo+k - (lo+l)))[i]? = _;rw [getElem?_bubble (by lia) _ (by lia),if_neg (by lia),if_neg (by lia)]
   rw [show min (k+1) n=k+1 by lia];intro i j a b c;show R rk (bubble (arrOf st'') (lo+k) (lo+k - (lo+l))) i<=R rk (bubble (arrOf st'') (lo+k) (lo+k - (lo+l))) j;rw [Jo (by lia) (by lia),Jo (by lia) (by lia),show lo+k - (lo+k - (lo+l))=lo+l by lia]
   have L1:∀i,lo<=i->i<lo+l->R rk (arrOf st'') i<=R rk (arrOf st'') (lo+k):=fun i i1 i2=>by
    have:=hlo (i - lo) (by lia);rwa [show lo+(i - lo)=i by lia] at this
   have L2:∀i,lo+l<=i->i<lo+k->R rk (arrOf st'') (lo+k)<R rk (arrOf st'') i:=fun i i1 i2=>by
    have:=hhi (i - lo) (by lia) (by lia);rwa [show lo+(i - lo)=i by lia] at this
   repeat' split
   all_goals first
    | (exfalso;lia)
    | exact Nat.le_refl _
    | exact L1 _ (by lia) (by lia)
    | exact Nat.le_of_lt (L2 _ (by lia) (by lia))
    | exact hs' _ _ (by lia) (by lia) (by lia)
end
end Tim
set_option Elab.async false
set_option linter.all false
set_option maxRecDepth 100000
set_option maxHeartbeats 4000000
namespace Tim
open PySem PyProof.Rows
theorem HW (i:Nat):mergeAt' i=(do
 let s ←get
 let (some (sa,na,power),some (sb,nb,_)):=((pendingOf s)[i]?,(pendingOf s)[i+1]?)|unsupported "internal:list.sort.pending"
 set (SortSt.mk' (kindOf s) (arrOf s) (((pendingOf s).setIfInBounds i (sa,na+nb,power)).eraseIdxIfInBounds (i+1)) (gallopOf s) (failedOf s))
 let some k ←mQ false (←elem' (arrOf s) sb) (arrOf s) sa na 0|return false
 let (sa,na):=(sa+k,na - k)
 if na==0 then return true
 let some nb ←mQ true (←elem' (arrOf s) (sa+na - 1)) (arrOf s) sb nb (nb - 1)|return false
 if nb==0 then return true
 let x:=(arrOf s).extract sa sb
 let y:=(arrOf s).extract sb (sb+nb)
 let merged ←if na<=nb then Af x y else Ag x y
 modify fun s=>setArr s (merged.toList.zipIdx.foldl (fun a (p,j)=>a.setIfInBounds (sa+j) p) (arrOf s))
 return (failedOf (←get)).isNone):=rfl
section
variable {prog:Program} {w:World} {A:Around} {E:Value->Shared->Prop} {s:Shared} {κ:SortKind} {a₀:Array Keyed} {rk:Value->Nat} {pd:Array (Nat×Nat×Nat)}
theorem Lp (b:Nat) (m:List Keyed):∀(n:Nat) (xs:Array Keyed) (j:Nat),b+n+m.length<=xs.size->((m.zipIdx n).foldl (fun a x=>a.setIfInBounds (b+x.2) x.1) xs)[j]? = if b+n<=j/\j<b+n+m.length then m[j - (b+n)]? else xs[j]? :=by
 induction m with
 | nil=>intro n xs j h;rw [if_neg (by simp)];rfl
 | cons p m ih=>
   intro n xs j h;rw [List.length_cons] at h;rw [List.zipIdx_cons,List.foldl_cons,ih (n+1) _ j (by rw [Array.size_setIfInBounds];lia)]
   by_cases e:j=b+n
   ·subst e
    rw [if_neg (by lia),if_pos (by rw [List.length_cons];lia),Nat.sub_self];rw [Array.getElem?_setIfInBounds_self_of_lt (by lia)];rfl
   ·by_cases c:b+(n+1)<=j/\j<b+(n+1)+m.length
    ·rw [if_pos c,if_pos (by rw [List.length_cons];lia),show j - (b+n)=(j - (b+(n+1)))+1 by lia,List.getElem?_cons_succ]
    ·rw [if_neg c,if_neg (by rw [List.length_cons];lia),Array.getElem?_setIfInBounds_ne (Ne.symm e)]
theorem Qw {b n:Nat} {m:List Keyed} {xs:Array Keyed} (hl:m.length=n) (hb:b+n<=xs.size) (hp:m.Perm ((xs.toList.drop b).take n)):((m.zipIdx).foldl (fun a x=>a.setIfInBounds (b+x.2) x.1) xs).Perm xs:=by
 have e:((m.zipIdx).foldl (fun a x=>a.setIfInBounds (b+x.2) x.1) xs).toList=xs.toList.take b++(m++xs.toList.drop (b+n)):=by
  have hx:xs.toList.length=xs.size:=Array.length_toList;apply List.ext_getElem?;intro j;rw [Array.getElem?_toList,Lp b m 0 xs j (by lia)]
  by_cases j1:j<b
  ·rw [if_neg (by lia),List.getElem?_append_left (by rw [List.length_take,hx];lia),List.getElem?_take_of_lt j1,Array.getElem?_toList]
  ·rw [List.getElem?_append_right (by rw [List.length_take,hx];lia),List.length_take,hx,Nat.min_eq_left (by lia)]
   by_cases j2:j<b+n
   ·rw [if_pos (by lia),List.getElem?_append_left (by lia)];rfl
   ·rw [if_neg (by lia),List.getElem?_append_right (by lia),List.getElem?_drop,Array.getElem?_toList]
    congr 1
    lia
 refine Array.perm_iff_toList_perm.mpr ?_;rw [e]
 have sp:xs.toList=xs.toList.take b++((xs.toList.drop b).take n++xs.toList.drop (b+n)):=by
  rw [←Ax,List.take_append_drop]
 refine List.Perm.trans ?_ (List.Perm.of_eq sp.symm);exact List.Perm.append_left _ (List.Perm.append_right _ hp)
theorem xO {xs:Array Keyed} {lo hi i:Nat} (h:lo+i<hi) (hh:hi<=xs.size):R rk (xs.extract lo hi) i=R rk xs (lo+i):=by
 apply iC;rw [Array.getElem?_extract];rw [if_pos (by lia)]
theorem Ug {σ:Type} {M:Model} {A:Around} {E:Value->Shared->Prop} {s:Shared} {x:σ} {Q:PUnit->σ->Prop} {st:σ} (h:Q ⟨⟩ x):wpS M A E s (set x:StateT σ Sem PUnit) Q st:=by
 unfold wpS;rw [StateT.run_set];exact wpAny_pure ⟨rfl,h⟩
theorem G8 {st:SortSt} {i sa na pw sb nb pw2:Nat} {Q:Bool->SortSt->Prop} (C:K9 prog w A s κ a₀ rk) (hB:SB κ a₀ pd st) (h1:pd[i]? = some (sa,na,pw)) (h2:pd[i+1]? = some (sb,nb,pw2)) (hsb:sb=sa+na) (na1:1<=na) (eG:1<=nb) (hz:sb+nb<=a₀.size)
 (s1:Seg rk (arrOf st) sa (sa+na)) (s2:Seg rk (arrOf st) sb (sb+nb))
 (h:∀st',SB κ a₀ ((pd.setIfInBounds i (sa,na+nb,pw)).eraseIdxIfInBounds (i+1)) st'->(∀j,j<sa\/sb+nb<=j->(arrOf st')[j]? = (arrOf st)[j]?)->Seg rk (arrOf st') sa (sb+nb)->Q true st'):
 wpS (model prog w) A E s (mergeAt' i) Q st:=by
 rw [HW];refine wpS_bind (wpS_get ?_);rw [hB.pend,h1,h2];dsimp only;have sz:(arrOf st).size=a₀.size:=hB.size;have u9:∀p∈(arrOf st).toList,p∈a₀.toList:=fun p hp=>hB.mem hp;have W_:∀i,i<a₀.size -> ∃p,(arrOf st)[i]? = some p/\p∈a₀.toList/\R rk (arrOf st) i=rk p.1:=fun i hi=>⟨(arrOf st)[i]'(by lia),getElem?_pos (arrOf st) i (by lia),hB.mem (by simp),jo (by lia)⟩;refine wpS_bind (Ug ?_);have Ik:SB κ a₀ ((pd.setIfInBounds i (sa,na+nb,pw)).eraseIdxIfInBounds (i+1)) (SortSt.mk' (kindOf st) (arrOf st) ((pd.setIfInBounds i (sa,na+nb,pw)).eraseIdxIfInBounds (i+1)) (gallopOf st) (failedOf st)):=⟨hB.perm,hB.kind,hB.failed,rfl⟩;have dU:arrOf (SortSt.mk' (kindOf st) (arrOf st) ((pd.setIfInBounds i (sa,na+nb,pw)).eraseIdxIfInBounds (i+1)) (gallopOf st) (failedOf st))=arrOf st:=rfl;generalize (pd.setIfInBounds i (sa,na+nb,pw)).eraseIdxIfInBounds (i+1)=pd1 at Ik dU h ⊢;generalize SortSt.mk' (kindOf st) (arrOf st) pd1 (gallopOf st) (failedOf st)=st1 at Ik dU ⊢;obtain ⟨p,ep,mp,rp⟩:=W_ sb (by lia);refine wpS_bind (b_ ep (wpS_bind (jE C Ik.kind mp u9 (by lia) (by lia) s1 fun k k1 k2 k3=> ?_)));dsimp only;refine bA (fun e=> ?_) (fun e=> ?_)
 ·have e:na - k=0:=eq_of_beq e
  refine wpS_pure (h st1 Ik (fun j _=>by rw [dU]) fun i j a b c=> ?_);rw [dU]
  by_cases hj:j<sb
  ·exact s1 i j a b (by lia)
  ·by_cases hi:i<sb
   ·have e1:=Wq (k2 (i - sa) (by lia))
    rw [show sa+(i - sa)=i by lia] at e1;have e2:=s2 sb j (Nat.le_refl _) (by lia) c
    lia
   ·exact s2 i j (by lia) b c
 have ek:k<na:=by have:¬na - k=0:=fun z=>e (beq_iff_eq.mpr z);lia
 obtain ⟨q,eq,mq,rq⟩:=W_ (sa+k+(na - k) - 1) (by lia);refine wpS_bind (b_ eq (wpS_bind (jE C Ik.kind mq u9 (by lia) (by lia) s2 fun n2 l1 l2 l3=> ?_)));dsimp only;have bF:sa+k+(na - k) - 1=sb - 1:=by lia
 rw [bF] at rq;refine bA (fun e=> ?_) (fun e=> ?_)
 ·have e:n2=0:=eq_of_beq e
  refine wpS_pure (h st1 Ik (fun j _=>by rw [dU]) fun i j a b c=> ?_);rw [dU]
  by_cases hj:j<sb
  ·exact s1 i j a b (by lia)
  ·by_cases hi:i<sb
   ·have e1:=Ju (l3 (j - sb) (by lia) (by lia))
    rw [show sb+(j - sb)=j by lia] at e1;have e2:=s1 i (sb - 1) a (by lia) (by lia)
    lia
   ·exact s2 i j (by lia) b c
 have e2:¬n2=0:=fun z=>e (beq_iff_eq.mpr z);have gW:((arrOf st).extract (sa+k) sb).size=sb - (sa+k):=by rw [Array.size_extract,Nat.min_eq_left (by lia)]
 have gY:((arrOf st).extract sb (sb+n2)).size=n2:=by rw [Array.size_extract,Nat.min_eq_left (by lia)];lia
 have xin:∀p∈((arrOf st).extract (sa+k) sb).toList,p∈a₀.toList:=fun p hp=>u9 p (by rw [dJ] at hp;exact List.mem_of_mem_drop (List.mem_of_mem_take hp));have yin:∀p∈((arrOf st).extract sb (sb+n2)).toList,p∈a₀.toList:=fun p hp=>u9 p (by rw [dJ] at hp;exact List.mem_of_mem_drop (List.mem_of_mem_take hp))
 have sx:Seg rk ((arrOf st).extract (sa+k) sb) 0 ((arrOf st).extract (sa+k) sb).size:=fun i j a b c=>by
  rw [gW] at c;rw [xO (by lia) (by lia),xO (by lia) (by lia)];exact s1 _ _ (by lia) (by lia) (by lia)
 have sy:Seg rk ((arrOf st).extract sb (sb+n2)) 0 ((arrOf st).extract sb (sb+n2)).size:=fun i j a b c=>by
  rw [gY] at c;rw [xO (by lia) (by lia),xO (by lia) (by lia)];exact s2 _ _ (by lia) (by lia) (by lia)
 have h0:R rk ((arrOf st).extract sb (sb+n2)) 0<=R rk ((arrOf st).extract (sa+k) sb) 0:=by
  rw [xO (by lia) (by lia),xO (by lia) (by lia),Nat.add_zero,Nat.add_zero,rp];have:=TV (k3 k (Nat.le_refl _) ek)
  lia
 have hl:R rk ((arrOf st).extract sb (sb+n2)) (((arrOf st).extract sb (sb+n2)).size - 1)<=R rk ((arrOf st).extract (sa+k) sb) (((arrOf st).extract (sa+k) sb).size - 1):=by
  rw [gW,gY,xO (by lia) (by lia),xO (by lia) (by lia),show sa+k+(sb - (sa+k) - 1)=sb - 1 by lia,rq];have:=aap (l2 (n2 - 1) (by lia))
  lia
 have fin:∀r st2,G3 st1 st2->Mg rk ((arrOf st).extract (sa+k) sb) ((arrOf st).extract sb (sb+n2)) r->wpS (model prog w) A E s (do
  modify fun s=>setArr s (List.foldl (fun a x=>a.setIfInBounds (sa+k+x.snd) x.fst) (arrOf s) r.toList.zipIdx)
  let __do_lift ←get
  pure (failedOf __do_lift).isNone) Q st2:=by
  intro r st2 k2' mg;have nO:arrOf st2=arrOf st:=k2'.a.trans dU;refine wpS_bind (wpS_modify ?_);refine wpS_bind (wpS_get ?_);have hf:failedOf (setArr st2 (List.foldl (fun a x=>a.setIfInBounds (sa+k+x.snd) x.fst) (arrOf st2) r.toList.zipIdx))=none:=k2'.f.trans Ik.failed;rw [hf]
  have rl:r.toList.length=sb - (sa+k)+n2:=by
   rw [mg.perm.length_eq,List.length_append,Array.length_toList,Array.length_toList,gW,gY]
  have rp':r.toList.Perm (((arrOf st).toList.drop (sa+k)).take (sb - (sa+k)+n2)):=by
   refine mg.perm.trans (List.Perm.of_eq ?_);rw [dJ,dJ,List.take_add,List.drop_drop,show sb+n2 - sb=n2 by lia,show sa+k+(sb - (sa+k))=sb by lia]
  have get:∀j,(arrOf (setArr st2 (List.foldl (fun a x=>a.setIfInBounds (sa+k+x.snd) x.fst) (arrOf st2) r.toList.zipIdx)))[j]? = if sa+k<=j/\j<sb+n2 then r.toList[j - (sa+k)]? else (arrOf st)[j]? :=fun j=>by
   show (List.foldl (fun a x=>a.setIfInBounds (sa+k+x.snd) x.fst) (arrOf st2) r.toList.zipIdx)[j]? = _;rw [nO,Lp (sa+k) r.toList 0 (arrOf st) j (by lia),rl]
   by_cases c:sa+k<=j/\j<sb+n2
   ·rw [if_pos c,if_pos (by lia)];rfl
   ·rw [if_neg c,if_neg (by lia)]
  have hB2:SB κ a₀ pd1 (setArr st2 (List.foldl (fun a x=>a.setIfInBounds (sa+k+x.snd) x.fst) (arrOf st2) r.toList.zipIdx)):=by
   refine ⟨?_,k2'.k.trans Ik.kind,hf,k2'.p.trans Ik.pend⟩;show (List.foldl (fun a x=>a.setIfInBounds (sa+k+x.snd) x.fst) (arrOf st2) r.toList.zipIdx).Perm a₀;rw [nO];exact (Qw rl (by lia) rp').trans hB.perm
  generalize setArr st2 (List.foldl (fun a x=>a.setIfInBounds (sa+k+x.snd) x.fst) (arrOf st2) r.toList.zipIdx)=st3 at get hB2 ⊢;have out:∀j,¬(sa+k<=j/\j<sb+n2)->R rk (arrOf st3) j=R rk (arrOf st) j:=fun j hj=>iC (by rw [get j,if_neg hj])
  have mid:∀j,sa+k<=j->j<sb+n2 -> ∃j0,sa+k<=j0/\j0<sb+n2/\R rk (arrOf st3) j=R rk (arrOf st) j0:=fun j j1 j2=>by
   have e:=get j;rw [if_pos ⟨j1,j2⟩,List.getElem?_eq_getElem (by lia)] at e;have hm:r.toList[j - (sa+k)]'(by lia)∈((arrOf st).toList.drop (sa+k)).take (sb - (sa+k)+n2):=rp'.mem_iff.mp (List.getElem_mem _);obtain ⟨j0,a1,a2,a3⟩:=jT (rk:=rk) hm;exact ⟨sa+k+j0,by lia,by lia,by rw [Bv e,a3]⟩
  refine wpS_pure (h st3 hB2 (fun j hj=>by rw [get j,if_neg (by lia)]) fun i j a b c=> ?_)
  by_cases i1:i<sa+k
  ·have ei:=Wq (k2 (i - sa) (by lia))
   rw [show sa+(i - sa)=i by lia,←rp] at ei;rw [out i (by lia)]
   have key:∀j0,sa+k<=j0->j0<sb+nb->R rk (arrOf st) i<=R rk (arrOf st) j0:=fun j0 b1 b2=>by
    by_cases c:j0<sb
    ·exact s1 i j0 a (by lia) (by lia)
    ·have:=s2 sb j0 (Nat.le_refl _) (by lia) b2;lia
   by_cases j1:sa+k<=j/\j<sb+n2
   ·obtain ⟨j0,b1,b2,b3⟩:=mid j j1.1 j1.2
    rw [b3];exact key j0 b1 (by lia)
   ·rw [out j j1]
    by_cases j2:j<sa+k
    ·exact s1 i j a b (by lia)
    ·exact key j (by lia) c
  ·by_cases i2:i<sb+n2
   ·by_cases j2:j<sb+n2
    ·have e1:=get i
     have e2:=get j;rw [if_pos ⟨by lia,i2⟩,List.getElem?_eq_getElem (by lia)] at e1;rw [if_pos ⟨by lia,j2⟩,List.getElem?_eq_getElem (by lia)] at e2;rw [Bv e1,Bv e2]
     by_cases eij:i=j
     ·subst eij;exact Nat.le_refl _
     ·exact List.pairwise_iff_getElem.mp mg.srt _ _ _ _ (by lia)
    ·obtain ⟨i0,b1,b2,b3⟩:=mid i (by lia) i2
     rw [b3,out j (by lia)]
     by_cases c':i0<sb
     ·have e1:=s1 i0 (sb - 1) (by lia) (by lia) (by lia)
      have e2:=Ju (l3 (j - sb) (by lia) (by lia));rw [show sb+(j - sb)=j by lia,←rq] at e2
      lia
     ·exact s2 i0 j (by lia) (by lia) c
   ·rw [out i (by lia),out j (by lia)]
    exact s2 i j (by lia) b c
 refine bA (fun _=> ?_) (fun _=> ?_)
 ·exact wpS_bind (G6 C Ik.kind xin yin (by lia) (by lia) sx sy h0 hl fin)
 ·exact wpS_bind (G7 C Ik.kind xin yin (by lia) (by lia) sx sy h0 hl fin)
end
end Tim
set_option Elab.async false
set_option linter.all false
set_option maxRecDepth 100000
set_option maxHeartbeats 4000000
namespace Tim
open PySem PyProof.Rows
section
variable {prog:Program} {w:World} {A:Around} {E:Value->Shared->Prop} {s:Shared} {κ:SortKind} {a₀:Array Keyed} {rk:Value->Nat} {pd:Array (Nat×Nat×Nat)}
def Runs (rk:Value->Nat) (xs:Array Keyed):List (Nat×Nat×Nat)->Nat->Nat->Prop
 | [],a,e=>a=e
 | (s,n,_)::r,a,e=>s=a/\1<=n/\Seg rk xs a (a+n)/\Runs rk xs r (a+n) e
theorem Runs.le {xs:Array Keyed}:∀{l:List (Nat×Nat×Nat)} {a e:Nat},Runs rk xs l a e->a+l.length<=e
 | [],a,e,h=>Nat.le_of_eq h
 | (s,n,_)::r,a,e,h=>by
   have:=Runs.le h.2.2.2;have:=h.2.1;rw [List.length_cons];lia
theorem Runs.app {xs:Array Keyed} {r:List (Nat×Nat×Nat)}:∀{l:List (Nat×Nat×Nat)} {a e:Nat},Runs rk xs (l++r) a e ↔ ∃m,Runs rk xs l a m/\Runs rk xs r m e
 | [],a,e=>⟨fun h=>⟨a,rfl,h⟩,fun ⟨m,h1,h2⟩=>by
     have h1:a=m:=h1;subst h1;exact h2⟩
 | (s,n,_)::l,a,e=>by
   constructor
   ·rintro ⟨h1,h2,h3,h4⟩
    obtain ⟨m,m1,m2⟩:=Runs.app.mp h4;exact ⟨m,⟨h1,h2,h3,m1⟩,m2⟩
   ·rintro ⟨m,⟨h1,h2,h3,h4⟩,m2⟩
    exact ⟨h1,h2,h3,Runs.app.mpr ⟨m,h4,m2⟩⟩
theorem Runs.congr {xs ys:Array Keyed}:∀{l:List (Nat×Nat×Nat)} {a e:Nat},Runs rk xs l a e->(∀j,a<=j->j<e->R rk xs j=R rk ys j)->Runs rk ys l a e
 | [],a,e,h,_=>h
 | (s,n,_)::r,a,e,⟨h1,h2,h3,h4⟩,g=>by
   have le:=Runs.le h4;refine ⟨h1,h2,fun i j x y z=> ?_,Runs.congr h4 fun j x y=>g j (by lia) y⟩;rw [←g i x (by lia),←g j (by lia) (by lia)];exact h3 i j x y z
theorem Ym {α:Type} {l:List α} {i:Nat} (h:i+1<l.length):∃pre p q post,l=pre++p::q::post/\pre.length=i:=by
 refine ⟨l.take i,l[i],l[i+1],l.drop (i+2), ?_,by rw [List.length_take];lia⟩;rw [←List.drop_eq_getElem_cons,←List.drop_eq_getElem_cons,List.take_append_drop]
theorem rQ {st:SortSt} {i e:Nat} {Q:Bool->SortSt->Prop} (C:K9 prog w A s κ a₀ rk) (hB:SB κ a₀ pd st) (hr:Runs rk (arrOf st) pd.toList 0 e) (he:e<=a₀.size) (hi:i+1<pd.size)
 (h:∀pd' st',SB κ a₀ pd' st'->Runs rk (arrOf st') pd'.toList 0 e->pd'.size+1=pd.size->(∀j,e<=j->(arrOf st')[j]? = (arrOf st)[j]?)->Q true st'):wpS (model prog w) A E s (mergeAt' i) Q st:=by
 obtain ⟨pre,⟨sa,na,pw⟩,⟨sb,nb,pw2⟩,post,el,pl⟩:=Ym (l:=pd.toList) (i:=i) (by rw [Array.length_toList];exact hi);rw [el] at hr;obtain ⟨m,r1,r2⟩:=Runs.app.mp hr;obtain ⟨e1,n1,s1,e2,n2,s2,r3⟩:=r2;subst e1;have i_:=Runs.le r3;have h1:pd[i]? = some (sa,na,pw):=by rw [←Array.getElem?_toList,el,List.getElem?_append_right (by lia),pl,Nat.sub_self];rfl
 have h2:pd[i+1]? = some (sb,nb,pw2):=by rw [←Array.getElem?_toList,el,List.getElem?_append_right (by lia),pl,show i+1 - i=1 by lia];rfl
 refine G8 C hB h1 h2 e2 n1 n2 (by lia) s1 (by rw [e2];exact s2) fun st' hB' out seg=> ?_
 have ep:((pd.setIfInBounds i (sa,na+nb,pw)).eraseIdxIfInBounds (i+1)).toList=pre++(sa,na+nb,pw)::post:=by
  rw [Array.toList_eraseIdxIfInBounds,Array.toList_setIfInBounds,el,List.set_append_right _ _ (by lia),pl,Nat.sub_self];rw [List.eraseIdx_append_of_length_le (by lia),pl,show i+1 - i=1 by lia];rfl
 refine h _ st' hB' ?_ ?_ fun j hj=>out j (.inr (by lia))
 ·rw [ep]
  refine Runs.app.mpr ⟨sa,r1.congr fun j _ j2=>iC (out j (.inl j2)).symm,rfl,by lia, ?_, ?_⟩
  ·rw [show sa+(na+nb)=sb+nb by lia];exact seg
  ·rw [←Nat.add_assoc]
   exact r3.congr fun j j1 j2=>iC (out j (.inr (by lia))).symm
 ·rw [←Array.length_toList,ep,←Array.length_toList,el]
  simp only [List.length_append,List.length_cons]
  lia
theorem Runs.modify {xs:Array Keyed} {f:Nat×Nat×Nat->Nat×Nat×Nat} (hf:∀x,(f x).1=x.1/\(f x).2.1=x.2.1) (l:List (Nat×Nat×Nat)):∀(i a e:Nat),Runs rk xs l a e->Runs rk xs (l.modify i f) a e:=by
 induction l with
 | nil=>intro i a e h;cases i<;>exact h
 | cons t r ih=>
   obtain ⟨s,n,p⟩:=t;intro i a e h;obtain ⟨h1,h2,h3,h4⟩:=h;cases i with
   | zero=>
     rw [List.modify_zero_cons];have e2:=hf (s,n,p);rcases hfp:f (s,n,p) with ⟨s',n',p'⟩
     rw [hfp] at e2;obtain ⟨q1,q2⟩:=e2;have q1:s'=s:=q1;have q2:n'=n:=q2;rw [q1,q2];exact ⟨h1,h2,h3,h4⟩
   | succ i=>
     rw [List.modify_succ_cons];exact ⟨h1,h2,h3,ih i _ _ h4⟩
theorem wpS_sortRuns {st:SortSt} {Q:Unit->SortSt->Prop} (C:K9 prog w A s κ a₀ rk) (hB:SB κ a₀ #[] st) (h2:2<=a₀.size)
 (h:∀st',(arrOf st').Perm a₀->failedOf st'=none->Seg rk (arrOf st') 0 a₀.size->Q () st'):wpS (model prog w) A E s sortRuns' Q st:=by
 rw [sortRuns'_eq];refine wpS_bind (wpS_get ?_);dsimp only;simp only [hB.size];generalize minRun' a₀.size a₀.size 0=mr
 refine wpS_bind (wpS_mono (wpS_forRange (I:=fun x c st'=>∃lo pd,c=(none,lo)/\x<=lo/\lo<=a₀.size/\SB κ a₀ pd st'/\Runs rk (arrOf st') pd.toList 0 lo)
  (Q:=fun c st'=>∃pd,c=(none,a₀.size)/\SB κ a₀ pd st'/\Runs rk (arrOf st') pd.toList 0 a₀.size) ?step ?fin ⟨0, #[],rfl,by lia,by lia,hB,rfl⟩) ?post)
 case fin=>
  rintro c st' ⟨lo,pd,rfl,x1,x2,hB',hr⟩;have:lo=a₀.size:=by lia
  subst this;exact ⟨pd,rfl,hB',hr⟩
 case step=>
  rintro x c st' _ hx ⟨lo,pd,rfl,x1,x2,hB',hr⟩;dsimp only;refine bA (fun ge=> ?_) (fun ge=> ?_)
  ·have:lo=a₀.size:=by lia
   subst this;exact wpS_pure ⟨pd,rfl,hB',hr⟩
  refine wpS_bind (wpS_countRun C (by lia) (by lia) hB' fun m st2 hB2 kb2 m1 m2 hs2=> ?_);dsimp only;have hr2:=hr.congr (ys:=arrOf st2) fun j _ j2=>iC (kb2 j j2).symm;apply bA
  case' h1=>
   intro lt;refine wpS_bind (wpS_lift (wpAny_rule ⟨rfl, ?_⟩));refine wpS_bind (wpS_binarySort C (by lia) (by lia) hB2 hs2 fun st3 hB3 kb3 hs3=> ?_);simp only [Bool.not_true,Bool.false_eq_true,if_false];have Xg:=hr2.congr (ys:=arrOf st3) fun j _ j2=>iC (kb3 j j2).symm;have n1:1<=min (a₀.size - lo) mr:=by lia
   have n2:min (a₀.size - lo) mr<=a₀.size - lo:=by lia
   generalize min (a₀.size - lo) mr=n at hs3 n1 n2 ⊢
  case' h2=>
   intro lt;have Xg:=hr2;have hB3:=hB2;have hs3:=hs2;have n1:=m1;have n2:=m2;revert Xg hB3 hs3;generalize st2=st3;revert n1 n2;generalize m=n;intro n1 n2 Xg hB3 hs3
  all_goals
   refine wpS_bind (wpS_get ?_)
   have done:∀pX qp,SB κ a₀ pX qp->Runs rk (arrOf qp) pX.toList 0 lo->Seg rk (arrOf qp) lo (lo+n)->wpS (model prog w) A E s (do
    modify fun s=>setPending s ((pendingOf s).push (lo,n,0))
    pure (ForInStep.yield ((none:Option Unit),lo+n))) (fun r st'=>match r with
     | ForInStep.done c'=>∃pd,c'=(none,a₀.size)/\SB κ a₀ pd st'/\Runs rk (arrOf st') pd.toList 0 a₀.size
     | ForInStep.yield c'=>∃lo pd,c'=(none,lo)/\x+1<=lo/\lo<=a₀.size/\SB κ a₀ pd st'/\Runs rk (arrOf st') pd.toList 0 lo) qp:=by
    intro pX qp wH Ca Zy;refine wpS_bind (wpS_modify (wpS_pure ⟨lo+n,pX.push (lo,n,0),rfl,by lia,by lia,⟨wH.perm,wH.kind,wH.failed,by show (pendingOf qp).push _=_;rw [wH.pend]⟩, ?_⟩));rw [Array.toList_push];exact Runs.app.mpr ⟨lo,Ca,rfl,n1,Zy,rfl⟩
   cases hb:(pendingOf st3).back? with
   | none=>exact done _ _ hB3 Xg hs3
   | some t=>
     obtain ⟨s1,n1',pw⟩:=t;dsimp only;generalize power' a₀.size (2*s1+n1') (2*s1+n1'+n1'+n) a₀.size=pwr
     refine wpS_bind (wpS_mono (wpS_forRange (I:=fun y c qp=>∃pX,c=(none,())/\SB κ a₀ pX qp/\Runs rk (arrOf qp) pX.toList 0 lo/\Seg rk (arrOf qp) lo (lo+n))
      (Q:=fun c qp=>∃pX,c=(none,())/\SB κ a₀ pX qp/\Runs rk (arrOf qp) pX.toList 0 lo/\Seg rk (arrOf qp) lo (lo+n)) ?_ (fun _ _ z=>z) ⟨_,rfl,hB3,Xg,hs3⟩) ?_)
     ·rintro y c qp _ hy ⟨pX,rfl,wH,Ca,Zy⟩
      refine wpS_bind (wpS_get ?_);rw [wH.pend];cases hg:(if pX.size>1 then pX[pX.size - 2]? else none) with
      | none=>exact wpS_pure ⟨pX,rfl,wH,Ca,Zy⟩
      | some t=>
        obtain ⟨f1,f2,older⟩:=t;dsimp only
        have gt:pX.size>1:=by
         by_cases g:pX.size>1
         ·exact g
         ·rw [if_neg g] at hg;cases hg
        refine bA (fun _=> ?_) (fun _=> ?_)
        ·exact wpS_pure ⟨pX,rfl,wH,Ca,Zy⟩
        ·refine wpS_bind (rQ C wH Ca x2 (by lia) fun pd5 GX hB5 hr5 _ abC=> ?_)
         simp only [Bool.not_true,Bool.false_eq_true,if_false];refine wpS_pure ⟨pd5,rfl,hB5,hr5,fun i j a b c=> ?_⟩;rw [iC (abC i a),iC (abC j (by lia))];exact Zy i j a b c
     ·rintro c qp ⟨pX,rfl,wH,Ca,Zy⟩
      dsimp only;refine wpS_bind (wpS_modify ?_);refine done _ _ ⟨wH.perm,wH.kind,wH.failed,rfl⟩ ?_ Zy;rw [←wH.pend] at Ca;rw [Array.toList_modify];refine Runs.modify (fun x=> ?_) _ _ _ _ Ca;exact ⟨rfl,rfl⟩
 case post=>
  rintro c st' ⟨pd,rfl,hB',hr⟩;dsimp only;have le:=Runs.le hr;rw [Array.length_toList] at le
  refine wpS_bind (wpS_mono (wpS_forRange (I:=fun y c qp=>∃pX,c=(none,())/\SB κ a₀ pX qp/\Runs rk (arrOf qp) pX.toList 0 a₀.size/\pX.size<=max 1 (a₀.size - y))
   (Q:=fun c qp=>∃pX,c=(none,())/\SB κ a₀ pX qp/\Runs rk (arrOf qp) pX.toList 0 a₀.size/\pX.size<=1) ?_ ?_ ⟨pd,rfl,hB',hr,by lia⟩) ?_)
  ·rintro y c qp _ hy ⟨pX,rfl,wH,Ca,le4⟩
   refine wpS_bind (wpS_get ?_);rw [wH.pend];refine bA (fun l1=> ?_) (fun l1=> ?_)
   ·exact wpS_pure ⟨pX,rfl,wH,Ca,l1⟩
   ·have hix:∀(c:Prop) [Decidable c],(if c then pX.size - 2 - 1 else pX.size - 2)+1<pX.size:=by
     intro c _;split<;>lia
    refine wpS_bind (rQ C wH Ca (Nat.le_refl _) (hix _) fun pd5 GX hB5 hr5 z5 _=> ?_);simp only [Bool.not_true,Bool.false_eq_true,if_false];exact wpS_pure ⟨pd5,rfl,hB5,hr5,by lia⟩
  ·rintro c qp ⟨pX,rfl,wH,Ca,le4⟩
   exact ⟨pX,rfl,wH,Ca,by lia⟩
  ·rintro c qp ⟨pX,rfl,wH,Ca,le4⟩
   refine wpS_pure (h qp wH.perm wH.failed ?_);have ll:pX.toList.length<=1:=by rw [Array.length_toList];exact le4
   match hl:pX.toList,ll,Ca with
   | [],_,Ca=>have:0=a₀.size:=Ca;lia
   | [(s,n,p)],_,Ca=>
     obtain ⟨_,_,hs,e⟩:=Ca;have e:0+n=a₀.size:=e;rw [e] at hs;exact hs
end
end Tim
set_option Elab.async false
set_option linter.all false
set_option maxRecDepth 100000
set_option maxHeartbeats 4000000
namespace Tim
open PySem PyProof.Rows
section
variable {prog:Program} {w:World} {A:Around} {E:Value->Shared->Prop} {s:Shared} {κ:SortKind} {rk:Value->Nat}
theorem Y5 {vs:List Value} {xs:Array Keyed} (hp:xs.Perm (pairsOf vs)) (hs:Seg rk xs 0 (pairsOf vs).size):(xs.map (·.2)).toList.Perm vs/\(xs.map (·.2)).toList.Pairwise (fun x y=>rk x<=rk y):=by
 have hl:xs.toList.Perm (vs.zip vs):=by rw [←pairsOf_toList];exact Array.perm_iff_toList_perm.mp hp
 have hmem:∀p,p∈xs.toList->p.1=p.2:=fun p hp'=>(mem_zip_self (hl.mem_iff.mp hp')).1
 have e:(xs.map (·.2)).toList=xs.toList.map (·.1):=by
  rw [Array.toList_map];exact List.map_congr_left fun p hp'=>(hmem p hp').symm
 rw [e];constructor
 ·have:=hl.map Prod.fst
  rwa [List.map_fst_zip (Nat.le_refl _)] at this
 ·rw [List.pairwise_map,List.pairwise_iff_getElem]
  intro i j hi hj hij;rw [Array.length_toList] at hi hj;have:=hs i j (Nat.zero_le _) (Nat.le_of_lt hij) (by rw [←hp.size_eq];exact hj);rw [jo hi,jo hj] at this;simpa using this
theorem B_ {a:Addr} {vs:List Value} {n:Nat} {P:PySem.Fin->Shared->Prop} (ho:s.heap.get? a=some (seqObj "list" vs.toArray n)) (hz:vs.length<=sizeLine)
 (hk:2<=vs.length -> ∀h':Heap,(∀b o,b≠a->s.heap.get? b=some o->h'.get? b=some o)->(∀(Q:SortKind->Shared->Prop) (E:Value->Shared->Prop),Q κ {s with heap:=h'}->wpAny (model prog w) A (keyKind' vs.toArray) Q E {s with heap:=h'})/\K9 prog w A {s with heap:=h'} κ (pairsOf vs) rk)
 (h:∀out:List Value,out.Perm vs->out.Pairwise (fun x y=>rk x<=rk y)->P (.done (.ret .none)) {s with heap:=sortedHeap s.heap a vs out.toArray}):
 wpAny (model prog w) A (Builtin.«list.sort» ⟨[.ref a],[]⟩) P E s:=by
 rw [list_sort_plain];have ha:a<s.heap.objs.size:=Heap.lt_size ho;refine wpAny_bind (listItems_at ho rfl ?_);refine wpAny_bind (listUpdate_at ho rfl ?_ (by rw [List.size_toArray];exact hz) (Nat.zero_le _));obtain ⟨e1,ho1⟩:∃e1,(s.heap.update a (Obj.mapSeq fun _=> #[])).get? a=some (seqObj "list" #[] e1):=⟨_,get?_update_seq ho (fun _=> #[])⟩;refine wpAny_bind (seqEpoch_at ho1 rfl ?_);refine wpAny_bind (wpAny_newTuple ?_ (by show vs.length<=_;exact hz));refine wpAny_bind (wpAny_newList ?_ (Nat.zero_le _));refine wpAny_holding ?_
 have keep:∀b o,b≠a->s.heap.get? b=some o->(((s.heap.update a (Obj.mapSeq fun _=> #[])).push (seqObj "tuple" vs.toArray 0)).push (seqObj "list" #[] 0)).get? b=some o:=fun b o nb e=>by
  refine Heap.get?_push_of_some _ (Heap.get?_push_of_some _ ?_);rw [Heap.get?_update_ne _ _ _ _ nb];exact e
 have ho6:(((s.heap.update a (Obj.mapSeq fun _=> #[])).push (seqObj "tuple" vs.toArray 0)).push (seqObj "list" #[] 0)).get? a=some (seqObj "list" #[] e1):=Heap.get?_push_of_some _ (Heap.get?_push_of_some _ ho1);show wpAny (model prog w) A _ P E {s with heap:=((s.heap.update a (Obj.mapSeq fun _=> #[])).push (seqObj "tuple" vs.toArray 0)).push (seqObj "list" #[] 0)};dsimp only;have hsz:vs.toArray.size=vs.length:=by simp
 have fin:∀st':SortSt,(arrOf st').Perm (pairsOf vs)->Seg rk (arrOf st') 0 (pairsOf vs).size ->
  P (.done (.ret .none)) {s with heap:=sortedHeap s.heap a vs ((arrOf st').map (·.2))}:=by
  intro st' hp hs;obtain ⟨h1,h2⟩:=Y5 hp hs;have:=h _ h1 h2;rwa [Array.toArray_toList] at this
 by_cases h2:vs.toArray.size<2
 ·rw [if_pos h2,if_pos h2]
  refine wpAny_bind (wpAny_pure ?_);rw [StateT.run_pure];refine wpAny_bind (wpAny_pure ?_);dsimp only;refine wpAny_bind (seqEpoch_at ho6 rfl ?_);refine wpAny_bind (listUpdate_at ho6 rfl ?_ (Nat.zero_le _) (by rw [Array.size_map];show (pairsOf vs).size<=_;rw [pairsOf_size];lia));simp only [bne_self_eq_false,Bool.false_eq_true,if_false];refine wpAny_pure (fin (SortSt.mk' general' (vs.toArray.zip vs.toArray) #[] 7 none) (Array.Perm.refl _) ?_);intro i j _ hij hj;have:i=j:=by rw [pairsOf_size] at hj;lia
  subst this;exact Nat.le_refl _
 ·rw [if_neg h2,if_neg h2]
  obtain ⟨kk,kc⟩:=hk (by lia) _ keep;refine wpAny_bind (kk _ _ ?_)
  refine wpAny_bind (wpAny_mono (wpS_sortRuns (a₀:=pairsOf vs) (rk:=rk) (st:=SortSt.mk' κ (vs.toArray.zip vs.toArray) #[] 7 none)
   (Q:=fun _ st'=>(arrOf st').Perm (pairsOf vs)/\failedOf st'=none/\Seg rk (arrOf st') 0 (pairsOf vs).size)
   kc ⟨Array.Perm.refl _,rfl,rfl,rfl⟩ (by rw [pairsOf_size];lia) fun st' a1 a2 a3=>⟨a1,a2,a3⟩) ?_ fun _ _ e=>e)
  rintro ⟨⟨⟩,st'⟩ s' ⟨rfl,hp,hf,hs⟩;dsimp only;refine wpAny_bind (seqEpoch_at ho6 rfl ?_);refine wpAny_bind (listUpdate_at ho6 rfl ?_ (Nat.zero_le _) (Nat.le_trans (Nat.le_of_eq ((Array.size_map ..).trans (hp.size_eq.trans (pairsOf_size _)))) (Nat.le_succ_of_le hz)));rw [hf];simp only [bne_self_eq_false,Bool.false_eq_true,if_false];exact wpAny_pure (fin st' hp hs)
theorem JK {l:Addr} {vs:List Value} {Q:Value->Shared->Prop} (hl:s.heap.IsList l vs.toArray) (hz:vs.length<=sizeLine)
 (hk:2<=vs.length -> ∀h':Heap,(∀b o,s.heap.get? b=some o->h'.get? b=some o)->(∀(Q:SortKind->Shared->Prop) (E:Value->Shared->Prop),Q κ {s with heap:=h'}->wpAny (model prog w) A.in1.in1 (keyKind' vs.toArray) Q E {s with heap:=h'})/\K9 prog w A.in1.in1 {s with heap:=h'} κ (pairsOf vs) rk)
 (h:∀(h':Heap) (D:Addr) (c:Nat) (out:List Value),(∀b o,s.heap.get? b=some o->h'.get? b=some o)->s.heap.objs.size<=D->h'.get? D=some (seqObj "list" out.toArray c)->out.Perm vs->out.Pairwise (fun x y=>rk x<=rk y)->Q (.ref D) {s with heap:=h'}):
 wpAny (model prog w) A (call (.builtin "sorted") [.ref l]) Q E s:=by
 refine Calls.call_function_entry kind_sorted plain_sorted entry_sorted (args_sorted1 _) ?_;unfold Builtin.«sorted»;refine wpAny_bind (m:=checkCount "sorted" 1 1 _) (wpAny_pure ?_);refine wpAny_bind (collect_list hl ?_ hz);refine wpAny_bind (wpAny_newList ?_ hz)
 have hsz:((s.heap.push (seqObj "list" #[] 0)).update s.heap.objs.size (Obj.mapSeq (· ++ vs.toArray))).objs.size=s.heap.objs.size+1:=by
  rw [Heap.size_update,size_push']
 have hoL:(((s.heap.push (seqObj "list" #[] 0)).update s.heap.objs.size (Obj.mapSeq (· ++ vs.toArray))).push (seqObj "list" vs.toArray 0)).get? (s.heap.objs.size+1)=some (seqObj "list" vs.toArray 0):=by
  rw [←hsz];exact Heap.get?_push_size _ rfl
 have keep:∀b o,s.heap.get? b=some o->(((s.heap.push (seqObj "list" #[] 0)).update s.heap.objs.size (Obj.mapSeq (· ++ vs.toArray))).push (seqObj "list" vs.toArray 0)).get? b=some o:=fun b o q=>by
  have hlt:b<s.heap.objs.size:=Heap.lt_size q;rw [Heap.get?_push_ne _ _ _ (by rw [hsz];exact Nat.ne_of_lt (Nat.lt_succ_of_lt hlt)),Heap.get?_update_ne _ _ _ _ (Nat.ne_of_lt hlt),Heap.get?_push_ne _ _ _ (Nat.ne_of_lt hlt)];exact q
 show wpAny _ _ _ _ _ {s with heap:=((s.heap.push (seqObj "list" #[] 0)).update s.heap.objs.size (Obj.mapSeq (· ++ vs.toArray))).push (seqObj "list" vs.toArray 0)};rw [hsz];generalize ((s.heap.push (seqObj "list" #[] 0)).update s.heap.objs.size (Obj.mapSeq (· ++ vs.toArray))).push (seqObj "list" vs.toArray 0)=h1 at keep hoL ⊢;have nD:∀b o,s.heap.get? b=some o->b≠s.heap.objs.size+1:=fun b o e=>Nat.ne_of_lt (Nat.lt_succ_of_lt (Heap.lt_size e));refine wpAny_bind (wpAny_holding (wpAny_call_entry slot_list_sort ⟨_,hoL,rfl⟩ entry_list_sort (B_ (s:={s with heap:=h1}) hoL hz (fun h2 h' kp=>hk h2 h' fun b o e=>kp b o (nD b o e) (keep b o e)) fun out p1 p2=>⟨_,rfl, ?_⟩) (args_list_sort _)));refine wpAny_pure ⟨_,rfl, ?_⟩;obtain ⟨e1,ho1⟩:∃e1,(h1.update (s.heap.objs.size+1) (Obj.mapSeq fun _=> #[])).get? (s.heap.objs.size+1)=some (seqObj "list" #[] e1):=⟨_,get?_update_seq hoL (fun _=> #[])⟩;have ho2:(((h1.update (s.heap.objs.size+1) (Obj.mapSeq fun _=> #[])).push (seqObj "tuple" vs.toArray 0)).push (seqObj "list" #[] 0)).get? (s.heap.objs.size+1)=some (seqObj "list" #[] e1):=Heap.get?_push_of_some _ (Heap.get?_push_of_some _ ho1);refine h (sortedHeap h1 (s.heap.objs.size+1) vs out.toArray) _ _ out (fun b o e=> ?_) (Nat.le_succ _) (by unfold sortedHeap;exact get?_update_seq ho2 (fun _=>out.toArray)) p1 p2;unfold sortedHeap;rw [Heap.get?_update_ne _ _ _ _ (nD b o e)];refine Heap.get?_push_of_some _ (Heap.get?_push_of_some _ ?_);rw [Heap.get?_update_ne _ _ _ _ (nD b o e)];exact keep b o e
end
section
theorem Dz {α:Type} {p q:α->Bool} {u:α}:∀{l:List α},u∈l->q u=true->p u=false->(∀x,p x=true->q x=true)->l.countP p<l.countP q
 | [],hm,_,_,_=>by simp at hm
 | x::l,hm,hq,hp,hi=>by
   have mono:l.countP p<=l.countP q:=List.countP_mono_left fun x _=>hi x;rw [List.countP_cons,List.countP_cons];rcases List.mem_cons.mp hm with rfl|hm
   ·rw [hq,hp];simp;lia
   ·have:=Dz hm hq hp hi
    cases e:p x with
    | true=>rw [hi x e];simp;lia
    | false=>simp;lia
def qx {α:Type} (L:α->α->Bool) (vs:List α) (v:α):Nat:=vs.countP fun u=>L u v
structure Swo {α:Type} (L:α->α->Bool):Prop where
 irr:∀a,L a a=false
 tr:∀a b c,L a b=true->L b c=true->L a c=true
 ntr:∀a b c,L a b=false->L b c=false->L a c=false
theorem Lk {α:Type} {L:α->α->Bool} (S:Swo L) {vs:List α} {u v:α} (hu:u∈vs):decide (qx L vs u<qx L vs v)=L u v:=by
 cases e:L u v with
 | true=>exact decide_eq_true (Dz hu e (S.irr u) fun x hx=>S.tr x u v hx e)
 | false=>
   refine decide_eq_false fun z=> ?_
   have:qx L vs v<=qx L vs u:=List.countP_mono_left fun x _ hx=>by
    cases e':L x u with
    | true=>rfl
    | false=>rw [S.ntr x u v e' e] at hx;cases hx
   lia
theorem U3 {α:Type} {L:α->α->Bool} (S:Swo L) {vs:List α} {u v:α} (hv:v∈vs) (h:qx L vs u<=qx L vs v):L v u=false:=by
 have:=Lk S (u:=v) (v:=u) hv;rw [←this];exact decide_eq_false (by lia)
def jV:List Int->List Int->Bool
 | _,[]=>false
 | [],_::_=>true
 | a::as,b::bs=>if a=b then jV as bs else decide (a<b)
theorem Ib (a:List Int):jV a []=false:=by cases a<;>rfl
theorem Ie:∀a,jV a a=false
 | []=>rfl
 | a::as=>by unfold jV;rw [if_pos rfl];exact Ie as
theorem Mh:∀a b c,jV a b=true->jV b c=true->jV a c=true
 | a,[],_,h,_=>by rw [Ib] at h;cases h
 | [],_::_,[],_,h=>by cases h
 | [],_::_,_::_,_,_=>rfl
 | _::_,_::_,[],_,h=>by cases h
 | a::as,b::bs,c::cs,h1,h2=>by
   unfold jV at h1 h2 ⊢
   by_cases e1:a=b
   ·rw [if_pos e1] at h1
    by_cases e2:b=c
    ·rw [if_pos e2] at h2
     rw [if_pos (e1.trans e2)];exact Mh as bs cs h1 h2
    ·rw [if_neg e2] at h2
     rw [if_neg (e1▸e2),e1];exact h2
   ·rw [if_neg e1] at h1
    have h1:=of_decide_eq_true h1
    by_cases e2:b=c
    ·rw [←e2,if_neg e1];exact decide_eq_true h1
    ·rw [if_neg e2] at h2
     have h2:=of_decide_eq_true h2;rw [if_neg (by lia)];exact decide_eq_true (by lia)
theorem Ia:∀a b c,jV a b=false->jV b c=false->jV a c=false
 | a,_,[],_,_=>Ib a
 | [],[],_::_,_,h=>by cases h
 | [],_::_,_::_,h,_=>by cases h
 | _::_,[],_::_,_,h=>by cases h
 | a::as,b::bs,c::cs,h1,h2=>by
   unfold jV at h1 h2 ⊢
   by_cases e1:a=b
   ·rw [if_pos e1] at h1
    by_cases e2:b=c
    ·rw [if_pos e2] at h2
     rw [if_pos (e1.trans e2)];exact Ia as bs cs h1 h2
    ·rw [if_neg e2] at h2
     rw [if_neg (e1▸e2),e1];exact h2
   ·rw [if_neg e1] at h1
    have h1:=of_decide_eq_false h1
    by_cases e2:b=c
    ·rw [←e2,if_neg e1];exact decide_eq_false h1
    ·rw [if_neg e2] at h2
     have h2:=of_decide_eq_false h2;rw [if_neg (by lia)];exact decide_eq_false (by lia)
theorem H_:∀a b,jV a b=false->jV b a=false->a=b
 | [],[],_,_=>rfl
 | [],_::_,h,_=>by cases h
 | _::_,[],_,h=>by cases h
 | a::as,b::bs,h1,h2=>by
   unfold jV at h1 h2
   by_cases e:a=b
   ·rw [if_pos e] at h1
    rw [if_pos e.symm] at h2;rw [e,H_ as bs h1 h2]
   ·rw [if_neg e] at h1
    rw [if_neg (Ne.symm e)] at h2;have h1:=of_decide_eq_false h1;have h2:=of_decide_eq_false h2;lia
theorem Lf {α:Type} (key:α->List Int):Swo fun a b=>jV (key a) (key b):=⟨fun a=>Ie _,fun a b c=>Mh _ _ _,fun a b c=>Ia _ _ _⟩
end
end Tim
set_option Elab.async false
set_option linter.all false
set_option maxRecDepth 100000
set_option maxHeartbeats 4000000
namespace L2
open PySem PySem.Spec PyProof.Rows PySem.W
section
variable {X:Cx}
def keyOf (h:Heap):Value->List Int
 | .int n _=>[n]
 | .ref a=>match h.get? a with
   | some o=>match o.data with
     | .seq xs _=>xs.toList.map numOf
     | _=>[]
   | none=>[]
 | _=>[]
theorem Mf {prog:Program} {w:World} {A:Around} {s:Shared} {Q:Bool->Shared->Prop}:∀(xs ys:List Value) (ns ms:List Int) (i:Nat),IntsAre xs ns->IntsAre ys ms -> ∀(fin:Bool),(ns.length=ms.length->fin=false)->ns.length=ms.length->Q (Tim.jV ns ms) s->KatLex prog w A true fin Q (xs.zip ys) i s
 | _,_,[],[],i,.nil,.nil,fin,hf,_,h=>by
   show Q fin s;rw [hf rfl];exact h
 | _,_,_::_,[],_,_,_,_,_,hl,_=>by cases hl
 | _,_,[],_::_,_,_,_,_,_,hl,_=>by cases hl
 | _,_,n::ns,m::ms,i,.cons _ t hx,.cons _ u hy,fin,hf,hl,h=>by
   rw [List.zip_cons_cons];refine kat_cons (wpAny_eqBool_int ?_);have hl':ns.length=ms.length:=by simpa using hl
   by_cases e:n=m
   ·subst e
    rw [show (n==n)=true by simp];refine kat_yes (Mf _ _ ns ms (i+1) hx hy fin (fun z=>hf (by simpa using z)) hl' ?_);unfold Tim.jV at h;rwa [if_pos rfl] at h
   ·rw [show (n==m)=false by simpa using e]
    unfold Tim.jV at h;rw [if_neg e] at h;refine kat_no ?_;cases (true&&i==0) with
    | true=>exact oneLt_int h
    | false=>exact kat_one _ _ (lt_int (show W.BoolBack Q (.bool (decide (n<m))) s from h))
theorem rJ {h:Heap} {a:Addr} {its:List Value} {ns:List Int} (ht:IsTup h a its.toArray) (hi:IntsAre its ns):keyOf h (.ref a)=ns:=by
 obtain ⟨o,e,_,n,d⟩:=ht
 show (match h.get? a with
  | some o=>match o.data with
    | .seq xs _=>xs.toList.map numOf
    | _=>[]
  | none=>[])=ns
 rw [e];dsimp only;rw [d];dsimp only;exact hi.nums
def M5 (h:Heap) (k:Nat) (vs:List Value):Prop:=∀v∈vs,∃a its ns,v = .ref a/\IsTup h a its.toArray/\IntsAre its ns/\ns.length=k
theorem Qf {prog:Program} {w:World} {A:Around} {s:Shared} {vs:List Value} {k:Nat} {h0:Heap} (T:M5 h0 k vs) (kp:∀b o,h0.get? b=some o->s.heap.get? b=some o):
 Tim.K9 prog w A s (tuples' true) (pairsOf vs) (Tim.qx (fun a b=>Tim.jV (keyOf h0 a) (keyOf h0 b)) vs):=by
 refine ⟨fun p hp q hq E Q h=> ?_⟩;rw [pairsOf_toList] at hp hq;obtain ⟨_,mp⟩:=mem_zip_self hp;obtain ⟨_,mq⟩:=mem_zip_self hq;rw [Tim.Lk (Tim.Lf (keyOf h0)) mp] at h;obtain ⟨a,its,ns,ep,ta,ia,la⟩:=T _ mp;obtain ⟨b,jts,ms,eq,tb,ib,lb⟩:=T _ mq;rw [ep,eq] at h ⊢;rw [rJ ta ia,rJ tb ib] at h;obtain ⟨oa,ea,ca,n1,da⟩:=ta;obtain ⟨ob,eb,cb,n2,db⟩:=tb;have l1:its.length=ns.length:=ia.length;have l2:jts.length=ms.length:=ib.length;refine kat_lt (kp _ _ ea) da (kp _ _ eb) db ?_;have e1:its.toArray.toList=its:=by simp
 have e2:jts.toArray.toList=jts:=by simp
 rw [e1,e2];exact Mf its jts ns ms 0 ia ib _ (fun z=>decide_eq_false (by rw [List.size_toArray,List.size_toArray];lia)) (by lia) h
theorem wX {h0 h1:Heap} {k:Nat} (hk:1<=k) (kp:∀b o,h0.get? b=some o->h1.get? b=some o):∀{vs:List Value},M5 h0 k vs -> ∃fs,KatTups h1 vs fs/\fs.length=vs.length /\ ∀f∈fs,∃n t,f=Value.int n t
 | [],_=>⟨[],trivial,rfl,fun _ z=>absurd z (by simp)⟩
 | v::vs,T=>by
   obtain ⟨fs,t1,t2,t3⟩:=wX hk kp (vs:=vs) fun u hu=>T u (List.mem_cons_of_mem _ hu);obtain ⟨a,its,ns,rfl,⟨o,e,c,n,d⟩,ia,la⟩:=T v (List.mem_cons_self ..)
   match its,ns,ia,la,d with
   | _,_,.nil,la,d=>simp at la;lia
   | _,_,.cons m t r,la,d=>
     refine ⟨_::fs,KatTups.cons (kp _ _ e) c d rfl t1,by simp [t2],fun f hf=> ?_⟩;rcases List.mem_cons.mp hf with rfl|hf
     ·exact ⟨_,_,rfl⟩
     ·exact t3 f hf
theorem Nh {prog:Program} {w:World} {A:Around} {s:Shared} {vs:List Value} {k:Nat} {h0:Heap} {Q:SortKind->Shared->Prop} {E:Value->Shared->Prop} (hk:1<=k) (T:M5 h0 k vs) (hv:2<=vs.length) (kp:∀b o,h0.get? b=some o->s.heap.get? b=some o)
 (h:Q (tuples' true) s):wpAny (model prog w) A (keyKind' vs.toArray) Q E s:=by
 obtain ⟨fs,t1,t2,t3⟩:=wX hk kp T;refine kat_kind (T:= .type "int") t1 (by lia) (fun v hv=> ?_) rfl h;obtain ⟨n,t,rfl⟩:=t3 v hv;exact .now
theorem M9 {ys:List V} {us out:List Value} (r:Vals ys us) (p:out.Perm us):∃zs,Vals zs out/\zs.Perm ys:=by
 induction p generalizing ys with
 | nil=>cases r;exact ⟨[],.nil,.refl _⟩
 | cons x p ih=>
   cases r with
   | cons rx rt=>
     obtain ⟨zs,z1,z2⟩:=ih rt;exact ⟨_::zs,.cons rx z1,.cons _ z2⟩
 | swap x y l=>
   cases r with
   | cons rx rt=>
     cases rt with
     | cons ry rl=>exact ⟨_,.cons ry (.cons rx rl),.swap _ _ _⟩
 | trans p q ih1 ih2=>
   obtain ⟨zs,z1,z2⟩:=ih2 r;obtain ⟨ws,w1,w2⟩:=ih1 z1;exact ⟨ws,w1,w2.trans z2⟩
theorem Dk:∀{ns:List Int} {vs:List Value},Vals (ns.map V.int) vs->IntsAre vs ns
 | [],_,.nil=> .nil
 | n::ns,_,.cons ⟨t,e⟩ r=>by subst e;exact .cons n t (Dk r)
theorem Cv {R:Value->Value->Prop} {S:V->V->Prop} (hRS:∀x y u v,RelV x u->RelV y v->R u v->S x y):∀{zs:List V} {out:List Value},Vals zs out->out.Pairwise R->zs.Pairwise S
 | _,_,.nil,_=> .nil
 | _,_,.cons rx rt,p=>by
   rw [List.pairwise_cons] at p;refine .cons (fun y hy=> ?_) (Cv hRS rt p.2);obtain ⟨i,hi,e⟩:=List.getElem_of_mem hy;obtain ⟨v,hv,ry⟩:=Vals.get rt (i:=i) (x:=y) (by rw [List.getElem?_eq_getElem hi,e]);exact hRS _ _ _ _ rx ry (p.1 v (List.mem_of_getElem? hv))
def amA (K:PySem.W.Frag) (H:Hp) (k:Nat) (f:V->List Int) (x:V):Prop:=∃a,x = .ref a/\cN K H a ((f x).map V.int)/\(f x).length=k
def JT (K:PySem.W.Frag):List V->Hp->VK->Prop:=fun xs H Q=>∃(p:Addr) (ys:List V) (k:Nat) (f:V->List Int),xs=[.ref p]/\bN K H p ys/\1<=k/\(∀y∈ys,amA K H k f y) /\
 ∀l zs,H l=none->zs.Perm ys->zs.Pairwise (fun x y=>Tim.jV (f y) (f x)=false)->Q (.ref l) (upd H l (.lst zs))
theorem Ky:jy X (.builtin "sorted") (JT X.K):=by
 intro pins s σ H xs us Q I r h;obtain ⟨p,ys,k,f,rfl,hq,hk,ht,q⟩:=h;obtain ⟨u,rfl,rx⟩:=vals1 r;cases rx;obtain ⟨its,rv,pl,hz⟩:=I.list hq;have hlen:its.length=ys.length:=by rw [←rv.length]
 have item:∀x v,x∈ys->RelV x v -> ∃a jts,v = .ref a/\IsTup s.heap a jts.toArray/\IntsAre jts (f x)/\(f x).length=k:=by
  intro x v hx rxv;obtain ⟨a,rfl,sq,hl⟩:=ht x hx;cases rxv;obtain ⟨jts,rj,tj,_⟩:=I.tuple sq;exact ⟨a,jts,rfl,tj,Dk rj,hl⟩
 have T:M5 s.heap k its:=fun v hv=>by
  obtain ⟨i,hi,e⟩:=List.getElem_of_mem hv;have hy:i<ys.length:=by lia
  obtain ⟨v',hv',ry⟩:=rv.get (i:=i) (x:=ys[i]) (by rw [List.getElem?_eq_getElem hy]);rw [List.getElem?_eq_getElem hi,e] at hv';cases hv';obtain ⟨a,jts,e1,e2,e3,e4⟩:=item _ _ (List.getElem_mem hy) ry;exact ⟨a,jts,_,e1,e2,e3,e4⟩
 refine Tim.JK (κ:=tuples' true) (rk:=Tim.qx (fun a b=>Tim.jV (keyOf s.heap a) (keyOf s.heap b)) its) pl.isList (by lia)
  (fun h2 h' kp=>⟨fun Q E hQ=>Nh hk T h2 kp hQ,Qf T kp⟩) fun h' D c out kp hD hd hp hs=> ?_
 obtain ⟨zs,z1,z2⟩:=M9 rv hp;have hzl:zs.length<=sizeLine:=by rw [z2.length_eq];lia
 refine ⟨.ref D,_,I.laid (t':=s.toks) kp hD (show dg X.prog X.w _ h' _ (.lst zs) from ⟨hzl,out,c,z1,hd⟩),rfl,q D zs (I.hok.fresh hD) z2 ?_⟩
 have hs':out.Pairwise (fun u v=>u∈its/\v∈its/\Tim.jV (keyOf s.heap v) (keyOf s.heap u)=false):=by
  refine List.Pairwise.imp_of_mem (fun {u v} hu hv huv=> ?_) hs;have mu:=hp.mem_iff.mp hu;have mv:=hp.mem_iff.mp hv;exact ⟨mu,mv,Tim.U3 (Tim.Lf (keyOf s.heap)) mv huv⟩
 have zin:∀z∈zs,z∈ys:=fun z hz=>z2.mem_iff.mp hz
 have zp:zs.Pairwise (fun x y=>x∈zs/\y∈zs):=by
  rw [List.pairwise_iff_getElem];intro i j hi hj _;exact ⟨List.getElem_mem hi,List.getElem_mem hj⟩
 have:=Cv (S:=fun x y=>x∈ys->y∈ys->Tim.jV (f y) (f x)=false) (fun x y u v rx ry huv hx hy=>by
  obtain ⟨a,jts,rfl,e2,e3,e4⟩:=item x u hx rx;obtain ⟨b,kts,rfl,g2,g3,g4⟩:=item y v hy ry;have:=huv.2.2;rwa [rJ e2 e3,rJ g2 g3] at this) z1 hs'
 exact List.Pairwise.imp₂ (fun {x y} (h1:x∈ys->y∈ys->Tim.jV (f y) (f x)=false) (h2:x∈zs/\y∈zs)=>h1 (zin _ h2.1) (zin _ h2.2)) this zp
theorem xM {K:PySem.W.Frag} (hK:X.K=K):jy X (.builtin "sorted") (JT K):=by subst hK;exact Ky
end
end L2
set_option Elab.async false
set_option linter.all false
set_option maxRecDepth 100000
set_option maxHeartbeats 4000000
namespace L2
open PySem PySem.Spec PyProof.Rows
section
variable {prog:Program} {w:World} {A:Around} {E:Value->Shared->Prop} {s:Shared} {it d:Addr} {ep:Nat} {od:Obj} {es:Array DictEntry}
end
end L2
set_option Elab.async false
set_option linter.all false
set_option maxRecDepth 100000
set_option maxHeartbeats 4000000
namespace L2
open PySem PySem.Spec PyProof.Rows
section
variable {X:Cx} {pins:List (Addr×Obj)} {σ:St} {H:Hp} {s:Shared} {d:Addr}
end
section
variable {X:Cx} {tg:Expr}
end
section
variable {d D:Addr} {o:Obj} {kvs:List (List Key×V)} {tc:TT} {te:TE} {Q:VK} {rest:St} {H1:Hp}
end
end L2
set_option Elab.async false
set_option linter.all false
set_option maxRecDepth 100000
set_option maxHeartbeats 4000000
namespace L2
open PySem PySem.Spec PyProof.Rows
section
variable {prog:Program} {w:World} {A:Around} {E:Value->Shared->Prop} {s:Shared}
end
section
variable {X:Cx} {pos:Pos}
end
end L2
set_option Elab.async false
set_option linter.all false
set_option maxRecDepth 100000
set_option maxHeartbeats 4000000
namespace L2
open PySem
abbrev Tg:=Addr->List Nat
def aO (τ:Tg) (x:Addr) (t:List Nat):Tg:=fun y=>if y=x then t else τ y
theorem bI {τ:Tg} {x:Addr} {t:List Nat}:aO τ x t x=t:=if_pos rfl
theorem aP {τ:Tg} {x y:Addr} {t:List Nat} (h:y≠x):aO τ x t y=τ y:=if_neg h
def vH (τ:Tg) (H:Hp):Prop:=∀x,H x=none->τ x=[]
theorem vH.dom {τ:Tg} {H H':Hp} (u:vH τ H) (d:∀x,H' x=none->H x=none):vH τ H':=fun x e=>u x (d x e)
theorem vH.same {τ:Tg} {H H':Hp} (u:vH τ H) (k:Same H H'):vH τ H':=u.dom fun _ e=>k.free e
theorem vH.claim {τ:Tg} {H H':Hp} {p:Addr} {t:List Nat} (u:vH τ H) (k:Same H H') (hp:∃o,H' p=some o):vH (aO τ p t) H':=fun x e=>by
 have n:x≠p:=fun z=>by
  obtain ⟨o,ho⟩:=hp;rw [z,ho] at e;cases e
 rw [aP n];exact u.same k x e
theorem eU {τ:Tg} {a b:Addr} {s t:List Nat} (ha:τ a=s) (hb:τ b=t) (h:s≠t):a≠b:=fun e=>h (by rw [←ha,←hb,e])
structure p8 (i:Nat) (τ:Tg) (H H':Hp):Prop where
 keep:∀x o,H x=some o->(τ x).head?≠some i->H' x=some o
 tup:∀x xs,H x=some (.tup xs)->H' x=some (.tup xs)
 dom:∀x,H' x=none->H x=none
theorem p8.of_same {i:Nat} {τ:Tg} {H H':Hp} (k:Same H H'):p8 i τ H H':=⟨fun x o e _=>k _ _ e,fun x xs e=>k _ _ e,fun x e=>k.free e⟩
theorem p8.trans {i:Nat} {τ:Tg} {H H1 H2:Hp} (a:p8 i τ H H1) (b:p8 i τ H1 H2):p8 i τ H H2:=⟨fun x o e n=>b.keep _ _ (a.keep _ _ e n) n,fun x xs e=>b.tup _ _ (a.tup _ _ e),fun x e=>a.dom _ (b.dom _ e)⟩
theorem p8.set {i:Nat} {τ:Tg} {H:Hp} {x:Addr} {o u:HO} (ht:(τ x).head?=some i) (hx:H x=some o) (hn:∀xs,o ≠ .tup xs):p8 i τ H (upd H x u):=by
 refine ⟨fun y v e n=> ?_,fun y xs e=> ?_,fun y e=> ?_⟩
 ·have z:y≠x:=fun z=>n (by rw [z];exact ht)
  rw [aD z];exact e
 ·rw [aD (dX e hx fun z=>hn xs z.symm)];exact e
 ·by_cases z:y=x
  ·rw [z,ak] at e;cases e
  ·rw [aD z] at e;exact e
theorem p8.un {i:Nat} {τ:Tg} {H H':Hp} (a:p8 i τ H H') (u:vH τ H):vH τ H':=u.dom a.dom
structure Mv (i:Nat) (τ:Tg) (H:Hp) (τ':Tg) (H':Hp):Prop where
 keep:∀x o,H x=some o->τ x=[0]\/(τ x).head?=some i->H' x=some o/\τ' x=τ x
 tup:∀x xs,H x=some (.tup xs)->H' x=some (.tup xs)
theorem Mv.of_same {i:Nat} {τ:Tg} {H H':Hp} (k:Same H H'):Mv i τ H τ H':=⟨fun x o e _=>⟨k _ _ e,rfl⟩,fun x xs e=>k _ _ e⟩
theorem Mv.tags {i:Nat} {τ τ':Tg} {H H':Hp} (k:Same H H') (t:∀x o,H x=some o->τ' x=τ x):Mv i τ H τ' H':=⟨fun x o e _=>⟨k _ _ e,t x o e⟩,fun x xs e=>k _ _ e⟩
theorem Mv.claim {i:Nat} {τ:Tg} {H H':Hp} {p:Addr} {t:List Nat} (k:Same H H') (hp:H p=none):Mv i τ H (aO τ p t) H':= .tags k fun x o e=>aP (au e hp)
theorem Mv.m_ {i j:Nat} {τ:Tg} {H H':Hp} (k:p8 j τ H H') (h:j≠i) (h0:j≠0):Mv i τ H τ H':=⟨fun x o e t=>⟨k.keep _ _ e (by
 rcases t with t|t
 ·rw [t];intro z;exact h0 (Option.some.inj z).symm
 ·rw [t];intro z;exact h (Option.some.inj z).symm),rfl⟩,k.tup⟩
theorem Mv.trans {i:Nat} {τ τ1 τ2:Tg} {H H1 H2:Hp} (a:Mv i τ H τ1 H1) (b:Mv i τ1 H1 τ2 H2):Mv i τ H τ2 H2:=⟨fun x o e t=>by
 obtain ⟨e1,t1⟩:=a.keep x o e t;obtain ⟨e2,t2⟩:=b.keep x o e1 (by rw [t1];exact t);exact ⟨e2,by rw [t2,t1]⟩,fun x xs e=>b.tup _ _ (a.tup _ _ e)⟩
end L2
set_option Elab.async false
set_option linter.all false
set_option maxRecDepth 100000
set_option maxHeartbeats 4000000
namespace Prf
open PySem L2
inductive Xy where
 | num (n:Int)
 | box (b:Nat)
 deriving DecidableEq
inductive K8 where
 | one (x:Xy)
 | two (p:Bool) (x y:Xy)
 deriving DecidableEq
inductive Rw where
 | load (b c:Nat)
 | store (c:Nat) (e:K8)
 | swap (b c:Nat) (e:K8)
 | Fx (b:Nat) (e:K8)
 | say (e:K8)
 | go (k:Nat)
 | GR (q:Bool) (e f:K8) (k:Nat)
 deriving DecidableEq
def O1 (b:Nat):Str:=⟨#[97+b]⟩
def Wt:Xy->PyData
 | .num n=> .tuple [.str "number",.int n]
 | .box b=> .tuple [.str "box",.str (O1 b)]
def Iv:K8->PyData
 | .one x=>Wt x
 | .two p x y=> .tuple [.str (if p then "plus" else "minus"),Wt x,Wt y]
def CJ:Rw->PyData
 | .load b c=> .tuple [.str "load",.str (O1 b),.int c]
 | .store c e=> .tuple [.str "store",.int c,Iv e]
 | .swap b c e=> .tuple [.str "swap",.str (O1 b),.int c,Iv e]
 | .Fx b e=> .tuple [.str "let",.str (O1 b),Iv e]
 | .say e=> .tuple [.str "say",Iv e]
 | .go k=> .tuple [.str "go",.int k]
 | .GR q e f k=> .tuple [.str "unless",.str (if q then "=" else "<"),Iv e,Iv f,.int k]
def XM:Xy->Prop
 | .num n=>0<=n/\n<1000
 | .box b=>b<8
def Av:K8->Prop
 | .one x=>XM x
 | .two _ x y=>XM x/\XM y
def abp (m:Nat):Rw->Prop
 | .load b c=>b<8/\c<m
 | .store c e=>c<m/\Av e
 | .swap b c e=>b<8/\c<m/\Av e
 | .Fx b e=>b<8/\Av e
 | .say e=>Av e
 | .go _=>True
 | .GR _ e f _=>Av e/\Av f
theorem RG:∀x:Xy,GZ (Wt x)=true
 | .num _=>rfl
 | .box _=>rfl
theorem Al:∀e:K8,GZ (Iv e)=true
 | .one x=>RG x
 | .two p x y=>by simp only [Iv,GZ,tX,RG,Bool.and_self]
theorem RJ:∀r:Rw,GZ (CJ r)=true
 | .load _ _=>rfl
 | .store _ e=>by simp only [CJ,GZ,tX,Al,Bool.and_self]
 | .swap _ _ e=>by simp only [CJ,GZ,tX,Al,Bool.and_self]
 | .Fx _ e=>by simp only [CJ,GZ,tX,Al,Bool.and_self]
 | .say e=>by simp only [CJ,GZ,tX,Al,Bool.and_self]
 | .go _=>rfl
 | .GR _ e f _=>by simp only [CJ,GZ,tX,Al,Bool.and_self]
section
variable {H:Hp} {v:V}
theorem Xu {x:Xy} (h:Dat H v (Wt x)):∃t,v = .ref t/\H t=some (.tup (match x with | .num n=>[.str "number",.int n] | .box b=>[.str "box",.str (O1 b)])):=by
 cases x<;>simp only [Wt,Dat] at h<;>obtain ⟨t,vs,rfl,e,d⟩:=h<;>refine ⟨t,rfl, ?_⟩<;>rw [e] <;>
 ·match vs,d with
  | [a,b],d=>
    simp only [aR,Dat,and_true] at d;obtain ⟨rfl,rfl⟩:=d;rfl
theorem aaf {p:Bool} {x y:Xy} (h:Dat H v (Iv (.two p x y))):∃t a b,v = .ref t/\H t=some (.tup [.str (if p then "plus" else "minus"),a,b])/\Dat H a (Wt x)/\Dat H b (Wt y):=by
 simp only [Iv,Dat] at h;obtain ⟨t,vs,rfl,e,d⟩:=h
 match vs,d with
 | [a,b,c],d=>
   simp only [aR,Dat,and_true] at d;obtain ⟨rfl,d1,d2⟩:=d;exact ⟨t,_,_,rfl,e,d1,d2⟩
def Parts (H:Hp) (vs:List V):Rw->Prop
 | .load b c=>vs=[.str "load",.str (O1 b),.int c]
 | .store c e=>∃x,vs=[.str "store",.int c,x]/\Dat H x (Iv e)
 | .swap b c e=>∃x,vs=[.str "swap",.str (O1 b),.int c,x]/\Dat H x (Iv e)
 | .Fx b e=>∃x,vs=[.str "let",.str (O1 b),x]/\Dat H x (Iv e)
 | .say e=>∃x,vs=[.str "say",x]/\Dat H x (Iv e)
 | .go k=>vs=[.str "go",.int k]
 | .GR q e f k=>∃x y,vs=[.str "unless",.str (if q then "=" else "<"),x,y,.int k]/\Dat H x (Iv e)/\Dat H y (Iv f)
theorem MP {r:Rw} (h:Dat H v (CJ r)):∃t vs,v = .ref t/\H t=some (.tup vs)/\Parts H vs r:=by
 cases r<;>simp only [CJ,Dat] at h<;>obtain ⟨t,vs,rfl,e,d⟩:=h<;>refine ⟨t,vs,rfl,e, ?_⟩
 ·match vs,d with
  | [a,b,c],d=>
    simp only [aR,Dat,and_true] at d;obtain ⟨rfl,rfl,rfl⟩:=d;rfl
 ·match vs,d with
  | [a,b,c],d=>
    simp only [aR,Dat,and_true] at d;obtain ⟨rfl,rfl,d⟩:=d;exact ⟨_,rfl,d⟩
 ·match vs,d with
  | [a,b,c,x],d=>
    simp only [aR,Dat,and_true] at d;obtain ⟨rfl,rfl,rfl,d⟩:=d;exact ⟨_,rfl,d⟩
 ·match vs,d with
  | [a,b,c],d=>
    simp only [aR,Dat,and_true] at d;obtain ⟨rfl,rfl,d⟩:=d;exact ⟨_,rfl,d⟩
 ·match vs,d with
  | [a,b],d=>
    simp only [aR,Dat,and_true] at d;obtain ⟨rfl,d⟩:=d;exact ⟨_,rfl,d⟩
 ·match vs,d with
  | [a,b],d=>
    simp only [aR,Dat,and_true] at d;obtain ⟨rfl,rfl⟩:=d;rfl
 ·match vs,d with
  | [a,b,c,x,y],d=>
    simp only [aR,Dat,and_true] at d;obtain ⟨rfl,rfl,d1,d2,rfl⟩:=d;exact ⟨_,_,rfl,d1,d2⟩
end
def v1 (bs:List Int):Xy->Int
 | .num n=>n % 1000
 | .box b=>(bs[b]?).getD 0
def vx (bs:List Int):K8->Int
 | .one x=>v1 bs x
 | .two true x y=>(v1 bs x+v1 bs y) % 1000
 | .two false x y=>(v1 bs x - v1 bs y) % 1000
structure bO where
 (rws:List Rw) (pos:Nat) (bs sy:List Int) (st:Str)
def touch:Rw->Bool
 | .load _ _=>true
 | .store _ _=>true
 | .swap _ _ _=>true
 | _=>false
def wG (bs:List Int):Rw->Bool
 | .GR true e f _=>decide (vx bs e=vx bs f)
 | .GR false e f _=>decide (vx bs e<vx bs f)
 | _=>false
def rY (s:bO):Rw->bO
 | .Fx b e=>{s with pos:=s.pos+1,bs:=s.bs.set b (vx s.bs e)}
 | .say e=>{s with pos:=s.pos+1,sy:=s.sy++[vx s.bs e]}
 | .go k=>{s with pos:=k}
 | .GR q e f k=>{s with pos:=if wG s.bs (.GR q e f k) then s.pos+1 else k}
 | _=>s
def led:Nat->bO->bO
 | 0,s=>match s.rws[s.pos]? with
   | none=>{s with st:= "ends" }
   | some r=>if touch r then {s with st:= "waits" } else {s with st:= "lost" }
 | n+1,s=>match s.rws[s.pos]? with
   | none=>{s with st:= "ends" }
   | some r=>if touch r then {s with st:= "waits" } else led n (rY s r)
def lead (s:bO):bO:=led 60 s
theorem Dv (s:bO) (r:Rw):(rY s r).rws=s.rws:=by cases r<;>rfl
theorem Iz (s:bO) (r:Rw):(rY s r).sy.length<=s.sy.length+1:=by cases r<;>simp [rY]
theorem uZ:∀(n:Nat) (s:bO),(led n s).rws=s.rws
 | 0,s=>by
   unfold led;split
   ·rfl
   ·split<;>rfl
 | n+1,s=>by
   unfold led;split
   ·rfl
   ·split
    ·rfl
    ·rw [uZ,Dv]
theorem Kg:∀(n:Nat) (s:bO),(led n s).sy.length<=s.sy.length+n
 | 0,s=>by
   unfold led;split
   ·simp
   ·split<;>simp
 | n+1,s=>by
   unfold led;split
   ·simp
   ·split
    ·simp
    ·rename_i r _ _
     have:=Kg n (rY s r);have:=Iz s r;lia
def rN (s:bO):Prop:=s.st = "waits" -> ∃r,s.rws[s.pos]? = some r/\touch r=true
theorem Gd:(Str.ofString "ends")≠Str.ofString "waits" :=by decide +kernel
theorem Ma:(Str.ofString "lost")≠Str.ofString "waits" :=by decide +kernel
theorem Kh:∀(n:Nat) (s:bO),rN (led n s)
 | 0,s=>by
   unfold led rN;split
   ·intro z;exact absurd z Gd
   ·rename_i r e
    split
    ·intro _;exact ⟨r,e,by assumption⟩
    ·intro z;exact absurd z Ma
 | n+1,s=>by
   unfold led;split
   ·intro z;exact absurd z Gd
   ·rename_i r e
    split
    ·intro _;exact ⟨r,e,by assumption⟩
    ·exact Kh n _
def new (rws:List Rw):bO:=⟨rws,0,List.replicate 8 0,[],"waits"⟩
structure nP where
 (m:Nat) (ns:List Int) (hs:List bO) (ts:List Int)
def DG:Rw->Nat
 | .load _ c=>c
 | .store c _=>c
 | .swap _ c _=>c
 | _=>0
def Wv:Rw->Str
 | .load _ _=> "load"
 | .store _ _=> "store"
 | .swap _ _ _=> "swap"
 | .Fx _ _=> "let"
 | .say _=> "say"
 | .go _=> "go"
 | .GR _ _ _ _=> "unless"
def WQ (ns:List Int):Rw->Option Int
 | .load _ c=>ns[c]?
 | .swap _ c _=>ns[c]?
 | _=>none
def Wu (bs:List Int):Rw->Option Int
 | .store _ e=>some (vx bs e)
 | .swap _ _ e=>some (vx bs e)
 | _=>none
def oV:Option Int->V
 | none=> .non
 | some i=> .int i
def oD:Option Int->PyData
 | none=> .none
 | some i=> .int i
def zA (ns bs:List Int) (r:Rw):List V:=[.str (Wv r),.int (DG r),oV (WQ ns r),oV (Wu bs r)]
def Gm (ns bs:List Int):Rw->List Int
 | .load b c=>bs.set b ((ns[c]?).getD 0)
 | .swap b c _=>bs.set b ((ns[c]?).getD 0)
 | _=>bs
def pL (ns bs:List Int):Rw->List Int
 | .store c e=>ns.set c (vx bs e)
 | .swap _ c e=>ns.set c (vx bs e)
 | _=>ns
def nZ (ns:List Int) (s:bO) (r:Rw):bO:=lead {s with pos:=s.pos+1,bs:=Gm ns s.bs r}
def kW (S:nP) (k:Nat):nP:=match S.hs[k]? with
 | none=>S
 | some s=>match s.rws[s.pos]? with
   | none=>S
   | some r=>{S with ns:=pL S.ns s.bs r,hs:=S.hs.set k (nZ S.ns s r),ts:=S.ts++[(k:Int)]}
def Gu (m:Nat) (ns:List Int) (rws:List (List Rw)):nP:=⟨m,ns,rws.map fun r=>lead (new r),[]⟩
end Prf
namespace L2
open PySem Prf
end L2
set_option Elab.async false
set_option linter.all false
set_option maxRecDepth 100000
set_option maxHeartbeats 4000000
namespace L2
open PySem PySem.Spec PyProof.Rows
section
variable {X:Cx} {k:Nat} {C:Addr} {sp:Sp}
theorem UJ {pins:List (Addr×Obj)} {σ:St} {H:Hp} {s:Shared} {Q:VK} {us:List Value} {vs:List V} {f:Addr} {fd:FuncData} {ps:List Str} (G:bZ X.prog X.w X.K X.mg X.base kY k f fd ps sp) (hr:fL (k+1) X.A) (hb:Binds X.K fd ps [])
 (I:Inv X pins σ H s) (r:Vals vs us) (q:sp vs H Q E0):wpAny (model X.prog X.w) X.A.in1 (call (.ref f) us) (EP X pins σ Q) X.xe s:=by
 have hlen:us.length=ps.length:=by rw [←r.length];exact G.len _ _ _ _ q
 have hbd:=hb s us I.nM (by rw [List.append_nil];exact hlen);rw [List.append_nil] at hbd;refine wpAny_call (codeAny_mono (G.run X.A.in1 X.stack s H ⟨us,[]⟩ us vs Q E0 hr.in1 I.env0.in1 hbd r q) fun res s' hq=> ?_)
 match res,hq with
 | .error ev,hq=>exact False.elim hq
 | .ok (.ret u),hq=>exact I.after hq
def abu (C:Addr) (sp:Sp):List V->Hp->VK->Prop:=fun xs H Q=>∃(a dx:Addr) (fs:List (Str×V)),xs=[.ref a]/\H a=some (.ins C dx fs)/\sp [.ref a] H (fun v H'=>∃n:Int,v = .int n/\0<=n/\n<2 ^ 62/\Q (.int n) H') E0
theorem OD (M:MethAt X.prog X.w X.K X.mg X.base k C "__len__" ["self"] sp) (hr:fL (k+1) X.A):jy X (.builtin "len") (abu C sp):=by
 intro pins s σ H xs us Q I rv h;obtain ⟨f,fd,G,hm,hb⟩:=M;obtain ⟨a,dx,fs,rfl,ea,q⟩:=h;obtain ⟨u,rfl,ru⟩:=rv.one;obtain rfl:u=Value.ref a:=ru;obtain ⟨mm,Fm⟩:=I.fr;obtain ⟨mA,O,_⟩:=u6 I.hok ea;obtain ⟨od,J,_⟩:=O.look;refine PySem.W.len_K Fm I.mod.RB J hm.at_ hm.fn (dN (UJ (us:=[.ref a]) (vs:=[.ref a]) G hr hb I (.cons rfl .nil) q) fun v s' hv=> ?_)
 obtain ⟨x,H',I',rx,n,rfl,n0,n1,q'⟩:=hv;obtain ⟨t,rfl⟩:=rx;exact ⟨⟨n0,by lia⟩,.int n,H',I'.tok _,⟨_,rfl⟩,q'⟩
end
end L2
set_option Elab.async false
set_option linter.all false
set_option maxRecDepth 100000
set_option maxHeartbeats 4000000
namespace L2
open PySem PySem.Spec PyProof.Rows
section
variable {prog:Program} {w:World} {A:Around} {E:Value->Shared->Prop} {s:Shared}
theorem nxT {it t:Addr} {i:Nat} {its:Array Value} {x:Value} {Q:Value->Shared->Prop} (hi:s.heap.IsTupleIter it t i) (ht:s.heap.IsTuple t its) (hx:its[i]? = some x)
 (k:∀h',h'.IsTupleIter it t (i+1)->Heap.SameBut it s.heap h'->Q x {s with heap:=h'}):wpAny (model prog w) A (Builtin.SmallTypes.nextOf (.ref it)) Q E s:=by
 obtain ⟨ob,e1,e2,e3⟩:=id hi;obtain ⟨ot,f1,_,nn,f3⟩:=ht;unfold Builtin.SmallTypes.nextOf;refine wpAny_bind (wpAny_callSpecial?_slot (name:=Str.ofString "__next__") hi.typeIs PySem.F.slot_tuple_iterator_next (wpAny_call_entry PySem.F.slot_tuple_iterator_next hi.typeIs PySem.F.entry_tuple_iterator_next ?_ (PySem.F.args_tuple_iterator_next_1 _)));show wpAny _ _ (field (.ref it) 0 >>= _) _ _ s;refine wpAny_bind (wpAny_field e1 e3 (x:= .ref t) rfl ?_);show wpAny _ _ (if (Value.ref t==Value.none)=true then _ else _) _ _ s;rw [if_neg (show ¬((Value.ref t==Value.none)=true) from Bool.false_ne_true)];show wpAny _ _ (field (.ref it) 1 >>= _) _ _ s;refine wpAny_bind (wpAny_field e1 e3 (x:= .int i 0) rfl ?_);show wpAny _ _ (seqItems? (.ref t) >>= _) _ _ s;refine wpAny_bind (wpAny_seqItems f1 f3 ?_);simp only [Int.toNat_natCast,hx];refine wpAny_bind (wpAny_setField e1 e3 (by simp) (wpAny_pure ⟨x,rfl,wpAny_pure (k _ ?_ (Heap.SameBut.update ..))⟩));refine ⟨_,Heap.get?_update_self _ e1 (Obj.isFreed_of_fields (Obj.data_mapFields e3 _)),(Obj.cls_mapFields ..).trans e2, ?_⟩;rw [Obj.data_mapFields e3];simp [rawInt]
theorem aie {it t:Addr} {i:Nat} {its:Array Value} {Q:Value->Shared->Prop} (hh:A.handled=none) (hi:s.heap.IsTupleIter it t i) (ht:s.heap.IsTuple t its) (hx:its[i]? = none)
 (k:∀h' e,Heap.ExtBut it s.heap h'->(∃o,h'.get? e=some o/\o.cls = .type "StopIteration")->E (.ref e) {s with heap:=h'}):wpAny (model prog w) A (Builtin.SmallTypes.nextOf (.ref it)) Q E s:=by
 obtain ⟨ob,e1,e2,e3⟩:=id hi;obtain ⟨ot,f1,_,nn,f3⟩:=ht;unfold Builtin.SmallTypes.nextOf;refine wpAny_bind (wpAny_callSpecial?_slot (name:=Str.ofString "__next__") hi.typeIs PySem.F.slot_tuple_iterator_next (wpAny_call_entry PySem.F.slot_tuple_iterator_next hi.typeIs PySem.F.entry_tuple_iterator_next ?_ (PySem.F.args_tuple_iterator_next_1 _)));show wpAny _ _ (field (.ref it) 0 >>= _) _ _ s;refine wpAny_bind (wpAny_field e1 e3 (x:= .ref t) rfl ?_);show wpAny _ _ (if (Value.ref t==Value.none)=true then _ else _) _ _ s;rw [if_neg (show ¬((Value.ref t==Value.none)=true) from Bool.false_ne_true)];show wpAny _ _ (field (.ref it) 1 >>= _) _ _ s;refine wpAny_bind (wpAny_field e1 e3 (x:= .int i 0) rfl ?_);show wpAny _ _ (seqItems? (.ref t) >>= _) _ _ s;refine wpAny_bind (wpAny_seqItems f1 f3 ?_);simp only [Int.toNat_natCast,hx];refine wpAny_bind (wpAny_rule (wpAny_bind (wpAny_setField e1 e3 (by simp) ?_)));show wpAny _ _ (newExc (.type "StopIteration") [] >>= _) _ _ _;refine wpAny_bind ?_;simp only [newExc,newTuple];refine wpAny_bind (wpAny_newObj_type ?_ (by size_fits));refine wpAny_bind (m:=firstArgMember _ _) (wpAny_of_eq (a:=Value.none) (by first |rfl|(simp only [firstArgMember];rfl)) ?_);refine wpAny_newObj_type ?_ (by size_fits);simp only [raiseNew];refine wpAny_bind (wpAny_handled ?_)
 first |rw [show A.in1.handled=none from hh]|rw [hh]
 refine wpAny_bind (wpAny_pure (wpAny_throw (k _ _ (((Heap.SameBut.update ..).extBut.push _).push _) ⟨_,Heap.get?_push_size _ rfl,rfl⟩)))
theorem Xz {z TI TO i1 i2 l1 l2:Addr} {k1 k2:Nat} {xs ys:Array Value} {x y a b:Value} {Q:Option Value->Shared->Prop} (D:ZipApart z TI TO i1 i2 l1 l2) (hz:IsZip s.heap z TI TO .none) (hI:IsPair s.heap TI (.ref i1) (.ref i2)) (hO:IsPair s.heap TO a b)
 (h1:s.heap.IsTupleIter i1 l1 k1) (h2:s.heap.IsTupleIter i2 l2 k2) (m1:s.heap.IsTuple l1 xs) (m2:s.heap.IsTuple l2 ys) (hx:xs[k1]? = some x) (hy:ys[k2]? = some y)
 (k:∀h',IsZip h' z TI TO (rawInt s.heap.objs.size)->IsPair h' TO x y->h'.IsTupleIter i1 l1 (k1+1)->h'.IsTupleIter i2 l2 (k2+1)->IsPair h' s.heap.objs.size x y->h'.objs.size=s.heap.objs.size+1->(∀c o,c≠z->c≠TO->c≠i1->c≠i2->s.heap.get? c=some o->h'.get? c=some o)->Q (some (.ref s.heap.objs.size)) {s with heap:=h'}):
 wpAny (model prog w) A (pyNext (.ref z)) Q E s:=by
 have tz:s.TypeIs (.ref z) "zip" :=⟨_,hz,rfl⟩;unfold pyNext;refine wpAny_bind (wpAny_attempt (wpAny_callSpecial?_slot (name:=Str.ofString "__next__") tz PySem.F.slot_zip_next (wpAny_call_entry PySem.F.slot_zip_next tz PySem.F.entry_zip_next ?_ (PySem.F.args_zip_next_1 _))));show wpAny _ _ (field (.ref z) 2 >>= _) _ _ _;refine wpAny_bind (wpAny_field hz rfl (x:= .bool false) rfl ?_);show wpAny _ _ (field (.ref z) 3 >>= _) _ _ _;refine wpAny_bind (wpAny_field hz rfl (x:= .ref TI) rfl ?_);refine wpAny_bind (wpAny_seqItems hI rfl ?_);show wpAny _ _ (Builtin.SmallTypes.ownedTupleIsFree (.ref z) >>= _) _ _ _;refine wpAny_bind ?_;unfold Builtin.SmallTypes.ownedTupleIsFree;refine wpAny_bind (wpAny_field hz rfl (x:= .none) rfl (wpAny_pure ?_));simp only [if_true];refine wpAny_bind (wpAny_rule (wpAny_bind (wpAny_field hz rfl (x:= .ref TO) rfl ?_)));refine wpAny_bind (wpAny_setField_rec hz (by simp) fun g1 z1 s1=> ?_)
 replace z1:IsZip g1 z TI TO .ellipsis:=z1
 refine wpAny_bind ?_;simp only [List.zipIdx_cons,List.zipIdx_nil,List.forIn_cons,List.forIn_nil];refine wpAny_bind (wpAny_bind (wpAny_onRaise ?_));show wpAny _ _ (Builtin.SmallTypes.nextOf (.ref i1) >>= _) _ _ _
 refine wpAny_bind (nxT (h1.extBut s1.extBut D.i1z) (m1.extBut s1.extBut D.l1z) hx fun g2 j1 s2=>wpAny_pure ?_);have O2:IsPair g2 TO a b:=s2.extBut _ _ D.TOi1 (s1.extBut _ _ D.TOz hO);refine wpAny_bind (wpAny_seqItems O2 rfl ?_);refine wpAny_bind (wpAny_updateSeq_pair O2 fun g3 O3 s3=> ?_)
 replace O3:IsPair g3 TO x b:=O3
 refine wpAny_bind (wpAny_letGo (wpAny_pure (wpAny_bind (wpAny_bind (wpAny_onRaise ?_)))));show wpAny _ _ (Builtin.SmallTypes.nextOf (.ref i2) >>= _) _ _ _
 refine wpAny_bind (nxT (((h2.extBut s1.extBut D.i2z).extBut s2.extBut D.i12.symm).extBut s3.extBut D.TOi2.symm) (((m2.extBut s1.extBut D.l2z).extBut s2.extBut D.l2i1).extBut s3.extBut D.l2TO) hy fun g4 j2 s4=>wpAny_pure ?_);have O4:IsPair g4 TO x b:=s4.extBut _ _ D.TOi2 O3;refine wpAny_bind (wpAny_seqItems O4 rfl ?_);refine wpAny_bind (wpAny_updateSeq_pair O4 fun g5 O5 s5=> ?_)
 replace O5:IsPair g5 TO x y:=O5
 refine wpAny_bind (wpAny_letGo (wpAny_pure (wpAny_pure (wpAny_bind (wpAny_seqItems O5 rfl (wpAny_bind (wpAny_newTuple ?_)))))));have sz:g5.objs.size=s.heap.objs.size:=by rw [s5.1,s4.1,s3.1,s2.1,s1.1]
 have z5:IsZip g5 z TI TO .ellipsis:=s5.extBut _ _ D.TOz.symm (s4.extBut _ _ D.i2z.symm (s3.extBut _ _ D.TOz.symm (s2.extBut _ _ D.i1z.symm z1)));have k5:∀c o,c≠z->c≠TO->c≠i1->c≠i2->s.heap.get? c=some o->g5.get? c=some o:=fun c o n1 n2 n3 n4 e=>s5.extBut _ _ n2 (s4.extBut _ _ n4 (s3.extBut _ _ n2 (s2.extBut _ _ n3 (s1.extBut _ _ n1 e))));have p1:g5.IsTupleIter i1 l1 (k1+1):=((j1.extBut s3.extBut D.TOi1.symm).extBut s4.extBut D.i12).extBut s5.extBut D.TOi1.symm;have p2:g5.IsTupleIter i2 l2 (k2+1):=j2.extBut s5.extBut D.TOi2.symm;have zlt:z<g5.objs.size:=Heap.lt_size z5;show wpAny _ _ (Builtin.SmallTypes.ownedTupleHandOut (.ref z) (.ref g5.objs.size) >>= _) _ _ _;refine wpAny_bind ?_;unfold Builtin.SmallTypes.ownedTupleHandOut;have z6:IsZip (g5.push {cls:= .type "tuple",data:= .seq #[x,y]}) z TI TO .ellipsis:=Heap.get?_push_of_some _ z5;refine wpAny_bind (wpAny_setField_rec z6 (by simp) fun g7 z7 s7=> ?_)
 replace z7:IsZip g7 z TI TO (rawInt g5.objs.size):=z7
 refine wpAny_setField_rec z7 (by simp) fun g8 z8 s8=> ?_
 replace z8:IsZip g8 z TI TO (rawInt g5.objs.size):=z8
 have up:∀c o,c≠z->g5.get? c=some o->g8.get? c=some o:=fun c o n1 e=>s8.extBut _ _ n1 (s7.extBut _ _ n1 (Heap.get?_push_of_some _ e));have t8:IsPair g8 g5.objs.size x y:=s8.extBut _ _ (Nat.ne_of_gt zlt) (s7.extBut _ _ (Nat.ne_of_gt zlt) (Heap.get?_push_size _ rfl));have e8:g8.objs.size=g5.objs.size+1:=by rw [s8.1,s7.1,Heap.size_push]
 rw [sz] at z8 t8 e8;refine wpAny_pure ⟨_,rfl,wpAny_pure ?_⟩;show Q (some (.ref g5.objs.size)) _;rw [sz];refine k g8 z8 (up _ _ D.TOz O5) ?_ ?_ t8 e8 fun c o n1 n2 n3 n4 e=>up c o n1 (k5 c o n1 n2 n3 n4 e)
 ·obtain ⟨o,e,r⟩:=p1;exact ⟨o,up _ _ D.i1z e,r⟩
 ·obtain ⟨o,e,r⟩:=p2;exact ⟨o,up _ _ D.i2z e,r⟩
theorem aaR {z TI TO i1 i2 l1 l2:Addr} {k1 k2:Nat} {xs ys:Array Value} {a b:Value} {Q:Option Value->Shared->Prop} (hh:A.handled=none) (D:ZipApart z TI TO i1 i2 l1 l2) (hz:IsZip s.heap z TI TO .none) (hI:IsPair s.heap TI (.ref i1) (.ref i2)) (hO:IsPair s.heap TO a b)
 (h1:s.heap.IsTupleIter i1 l1 k1) (h2:s.heap.IsTupleIter i2 l2 k2) (m1:s.heap.IsTuple l1 xs) (m2:s.heap.IsTuple l2 ys) (hx:xs[k1]? = none)
 (k:∀h',(∀c o,c≠z->c≠TO->c≠i1->c≠i2->s.heap.get? c=some o->h'.get? c=some o)->Q none {s with heap:=h'}):wpAny (model prog w) A (pyNext (.ref z)) Q E s:=by
 have tz:s.TypeIs (.ref z) "zip" :=⟨_,hz,rfl⟩
 have stop:∀(h':Heap) (e:Addr),(∀c o,c≠z->c≠TO->c≠i1->c≠i2->s.heap.get? c=some o->h'.get? c=some o)->(∃o,h'.get? e=some o/\o.cls = .type "StopIteration")->wpAny (model prog w) A (do if ←isInstance (.ref e) (.type "StopIteration") then pure none else throw (.ref e)) Q E {s with heap:=h'}:=fun h' e hk he=>by
  obtain ⟨o,ho,hc⟩:=he;exact wpAny_bind (wpAny_isInstance (T:= "StopIteration") (b:=true) ⟨o,ho,hc⟩ isSubtype_stop (wpAny_pure (k _ hk)))
 unfold pyNext;refine wpAny_bind (wpAny_attempt (wpAny_callSpecial?_slot (name:=Str.ofString "__next__") tz PySem.F.slot_zip_next (wpAny_call_entry PySem.F.slot_zip_next tz PySem.F.entry_zip_next ?_ (PySem.F.args_zip_next_1 _))));show wpAny _ _ (field (.ref z) 2 >>= _) _ _ _;refine wpAny_bind (wpAny_field hz rfl (x:= .bool false) rfl ?_);show wpAny _ _ (field (.ref z) 3 >>= _) _ _ _;refine wpAny_bind (wpAny_field hz rfl (x:= .ref TI) rfl ?_);refine wpAny_bind (wpAny_seqItems hI rfl ?_);show wpAny _ _ (Builtin.SmallTypes.ownedTupleIsFree (.ref z) >>= _) _ _ _;refine wpAny_bind ?_;unfold Builtin.SmallTypes.ownedTupleIsFree;refine wpAny_bind (wpAny_field hz rfl (x:= .none) rfl (wpAny_pure ?_));simp only [if_true];refine wpAny_bind (wpAny_rule (wpAny_bind (wpAny_field hz rfl (x:= .ref TO) rfl ?_)));refine wpAny_bind (wpAny_setField_rec hz (by simp) fun g1 z1 s1=> ?_)
 replace z1:IsZip g1 z TI TO .ellipsis:=z1
 refine wpAny_bind ?_;simp only [List.zipIdx_cons,List.zipIdx_nil,List.forIn_cons,List.forIn_nil];refine wpAny_bind (wpAny_bind (wpAny_onRaise ?_));show wpAny _ _ (Builtin.SmallTypes.nextOf (.ref i1) >>= _) _ _ _
 refine wpAny_bind (aie hh (h1.extBut s1.extBut D.i1z) (m1.extBut s1.extBut D.l1z) hx fun g2 e s2 he=> ?_);obtain ⟨oe,hoe,hce⟩:=he;have z2:IsZip g2 z TI TO .ellipsis:=s2 _ _ D.i1z.symm z1;have nez:e≠z:=fun q=>by subst q;rw [z2] at hoe;cases hoe;simp at hce
 refine wpAny_setField_rec z2 (by simp) fun g3 _ s3=> ?_;obtain st:=stop g3 e (fun c o n1 _ n3 _ q=>s3.extBut _ _ n1 (s2 _ _ n3 (s1.extBut _ _ n1 q))) ⟨oe,s3.extBut _ _ nez hoe,hce⟩;exact st
end
end L2
set_option Elab.async false
set_option linter.all false
set_option maxRecDepth 100000
set_option maxHeartbeats 4000000
namespace L2
open PySem PySem.Spec PyProof.Rows
abbrev Pk (l:Addr):Obj:={cls:= .type "tuple_iterator",data:= .fields #[.ref l,.int 0 0]}
abbrev zt3 (h:Heap) (l1 l2:Addr):Heap:=((h.push (Pk l1)).push (Pk l2)).push {cls:= .type "tuple",data:= .seq #[.ref h.objs.size,.ref (h.push (Pk l1)).objs.size]}
abbrev zt4 (h:Heap) (l1 l2:Addr):Heap:=(zt3 h l1 l2).push {cls:= .type "tuple",data:= .seq #[.none,.none]}
abbrev zt5 (h:Heap) (l1 l2:Addr):Heap:=(zt4 h l1 l2).push {cls:= .type "zip",data:= .fields #[.none,.bool false,.bool false,.ref ((h.push (Pk l1)).push (Pk l2)).objs.size,.ref (zt3 h l1 l2).objs.size]}
theorem aaQ (l1 l2:Addr) (xs ys:Array Value):Meets (Builtin.«zip.__new__» ⟨[.type "zip",.ref l1,.ref l2],[]⟩) (fun _ R s=>s.heap.IsTuple l1 xs/\s.heap.IsTuple l2 ys/\R (.ok (.ret (.ref (zt4 s.heap l1 l2).objs.size))) {s with heap:=zt5 s.heap l1 l2}):=
 .of_wp fun prog w A R s h=>by
  obtain ⟨hp,g,d,tk,os⟩:=s;obtain ⟨m1,m2,h⟩:=h;have sub:=sub_zip;have M1:Heap.IsTuple (Shared.heap ⟨hp,g,d,tk,os⟩) l1 xs:=m1;have M2:Heap.IsTuple (Shared.heap ⟨hp.push {cls:= .type "tuple_iterator",data:= .fields #[.ref l1,.int 0 0]},g,d,tk,os⟩) l2 ys:=Heap.IsTuple.push m2 _
  wp_walk using wpAny_pyIter_tuple M1,wpAny_pyIter_tuple M2
  exact ⟨_,rfl,h⟩
section
variable {prog:Program} {w:World} {A:Around} {E:Value->Shared->Prop} {s:Shared}
theorem XC {l1 l2:Addr} {xs ys:Array Value} {Q:Value->Shared->Prop} (m1:s.heap.IsTuple l1 xs) (m2:s.heap.IsTuple l2 ys)
 (k:∀h',IsZip h' (s.heap.objs.size+4) (s.heap.objs.size+2) (s.heap.objs.size+3) .none->IsPair h' (s.heap.objs.size+2) (.ref s.heap.objs.size) (.ref (s.heap.objs.size+1))->IsPair h' (s.heap.objs.size+3) .none .none->h'.IsTupleIter s.heap.objs.size l1 0->h'.IsTupleIter (s.heap.objs.size+1) l2 0 ->
   (∀c o,s.heap.get? c=some o->h'.get? c=some o)->Q (.ref (s.heap.objs.size+4)) {s with heap:=h'}):wpAny (model prog w) A (call (.type "zip") [.ref l1,.ref l2]) Q E s:=by
 refine callType_new PySem.F.called_zip (by decide) (PySem.F.typeCall_zip_2 _ _) (PySem.F.newCall_zip_2 _ _) (fun obj=>PySem.F.args_object_init_3 obj _ _) PySem.F.entry_zip_new (aaQ l1 l2 xs ys) ⟨m1,m2, ?_⟩;have n1:(s.heap.push (Pk l1)).objs.size=s.heap.objs.size+1:=Heap.size_push ..;have n2:((s.heap.push (Pk l1)).push (Pk l2)).objs.size=s.heap.objs.size+2:=by rw [Heap.size_push,n1]
 have n3:(zt3 s.heap l1 l2).objs.size=s.heap.objs.size+3:=by rw [Heap.size_push,n2]
 have n4:(zt4 s.heap l1 l2).objs.size=s.heap.objs.size+4:=by rw [Heap.size_push,n3]
 have e5:(zt5 s.heap l1 l2).get? (zt4 s.heap l1 l2).objs.size=some _:=Heap.get?_push_size _ rfl;have e4:(zt5 s.heap l1 l2).get? (zt3 s.heap l1 l2).objs.size=some _:=Heap.get?_push_of_some _ (Heap.get?_push_size _ rfl);have e3:(zt5 s.heap l1 l2).get? ((s.heap.push (Pk l1)).push (Pk l2)).objs.size=some _:=Heap.get?_push_of_some _ (Heap.get?_push_of_some _ (Heap.get?_push_size _ rfl));have e2:(zt5 s.heap l1 l2).get? (s.heap.push (Pk l1)).objs.size=some _:=Heap.get?_push_of_some _ (Heap.get?_push_of_some _ (Heap.get?_push_of_some _ (Heap.get?_push_size _ rfl)));have e1:(zt5 s.heap l1 l2).get? s.heap.objs.size=some _:=Heap.get?_push_of_some _ (Heap.get?_push_of_some _ (Heap.get?_push_of_some _ (Heap.get?_push_of_some _ (Heap.get?_push_size _ rfl))));show _/\_;rw [n2,n3,n4] at e5;rw [n1,n2] at e3;rw [n3] at e4;rw [n1] at e2;rw [n4];refine ⟨⟨_,e5,rfl⟩,k _ e5 e3 e4 ⟨_,e1,rfl,rfl⟩ ⟨_,e2,rfl,rfl⟩ fun c o q=> ?_⟩
 iterate 5 refine Heap.get?_push_of_some _ ?_
 exact q
end
def aan (K:PySem.W.Frag) (l1 l2:Addr):It:=
 ⟨fun i H=>∃xs ys x y,cN K H l1 xs/\cN K H l2 ys/\xs[i]? = some x/\ys[i]? = some y,
  fun i H x H'=>∃(p:Addr) (y z:V),x = .ref p/\H p=none/\(∀xs,cN K H l1 xs->xs[i]? = some y)/\(∀ys,cN K H l2 ys->ys[i]? = some z)/\H'=upd H p (.tup [y,z]),
  fun i H=>∃xs ys,cN K H l1 xs/\cN K H l2 ys/\xs.length<=i⟩
theorem Nb {P:Program} {w:World} {K:PySem.W.Frag} {elts:List Expr} {x1:Nat} {pos:Pos} (z TI TO i1 i2 l1 l2:Addr) (ap:ZipApart z TI TO i1 i2 l1 l2):Turn P w K (.Tuple elts x1 pos) (aan K l1 l2) [z,TI,TO,i1,i2] z
 (fun i h=>IsZip h z TI TO .none/\IsPair h TI (.ref i1) (.ref i2)/\(∃a b,IsPair h TO a b)/\h.IsTupleIter i1 l1 i/\h.IsTupleIter i2 l2 i) where
 mem:=by simp
 obj:=fun i h st b hb=>by
  obtain ⟨hz,hTI,⟨a,c,hTO⟩,⟨o1,h1,c1,d1⟩,⟨o2,h2,c2,d2⟩⟩:=st;have hb':b=z\/b=TI\/b=TO\/b=i1\/b=i2:=by simpa using hb
  rcases hb' with rfl|rfl|rfl|rfl|rfl
  ·exact ⟨_,hz,fun v z=>by cases z⟩
  ·exact ⟨_,hTI,fun v z=>by cases z⟩
  ·exact ⟨_,hTO,fun v z=>by cases z⟩
  ·exact ⟨_,h1,fun v z=>by rw [d1] at z;cases z⟩
  ·exact ⟨_,h2,fun v z=>by rw [d2] at z;cases z⟩
 keep:=fun i h h' st k=>by
  obtain ⟨hz,hTI,⟨a,c,hTO⟩,⟨o1,h1,c1,d1⟩,⟨o2,h2,c2,d2⟩⟩:=st;exact ⟨k z (by simp) _ hz,k TI (by simp) _ hTI,⟨a,c,k TO (by simp) _ hTO⟩,⟨o1,k i1 (by simp) _ h1,c1,d1⟩,⟨o2,k i2 (by simp) _ h2,c2,d2⟩⟩
 item:=by
  intro X hP hw hK hc i pins s σ H E I hf st hg;subst hP hw hK;obtain ⟨xs,ys,x,y,hq1,hq2,hx,hy⟩:=hg;obtain ⟨Ih,UG,p1,hz1⟩:=I.tuple hq1;obtain ⟨its2,WM,p2,hz2⟩:=I.tuple hq2;obtain ⟨u1,hu1,ru1⟩:=UG.get hx;obtain ⟨u2,hu2,ru2⟩:=WM.get hy;obtain ⟨hz,hTI,⟨a,c,hTO⟩,hi1,hi2⟩:=st;have zlt:=Heap.lt_size hz;have aai:=Heap.lt_size hTI;have aah:=Heap.lt_size hTO;have Zw:i1<s.heap.objs.size:=by obtain ⟨o,ho,_⟩:=id hi1;exact Heap.lt_size ho
  have Zv:i2<s.heap.objs.size:=by obtain ⟨o,ho,_⟩:=id hi2;exact Heap.lt_size ho
  refine Xz ap hz hTI hTO hi1 hi2 (show s.heap.IsTuple l1 Ih.toArray from p1) (show s.heap.IsTuple l2 its2.toArray from p2) (x:=u1) (y:=u2) (by simpa using hu1) (by simpa using hu2) fun h' hz' ZJ ZG hi2' hnew hsz hk=> ?_;refine ⟨_,rfl, ?_⟩;refine wpAny_letOwnedTupleGo_zip hz' fun h2 Zx sb=> ?_;have hfr:H s.heap.objs.size=none:=I.hok.fresh (Nat.le_refl _)
  have I0:Inv X pins σ (upd H s.heap.objs.size (.tup [x,y])) {s with heap:=s.heap.push {cls:= .type "tuple",data:= .seq #[u1,u2]}}:=
   I.laid (t':=s.toks) (fun b u e=>Heap.get?_push_of_some _ e) (Nat.le_refl _) ⟨by show 2<=sizeLine;decide,[u1,u2],.cons ru1 (.cons ru2 .nil),⟨_,Heap.get?_push_size _ rfl,rfl,_,rfl⟩⟩
  have Xj:∀b∈[z,TI,TO,i1,i2],qW X pins (upd H s.heap.objs.size (.tup [x,y])) b:=fun b hb=>by
   refine (hf b hb).upd ?_;have hb':b=z\/b=TI\/b=TO\/b=i1\/b=i2:=by simpa using hb
   rcases hb' with rfl|rfl|rfl|rfl|rfl
   ·exact Nat.ne_of_lt zlt
   ·exact Nat.ne_of_lt aai
   ·exact Nat.ne_of_lt aah
   ·exact Nat.ne_of_lt Zw
   ·exact Nat.ne_of_lt Zv
  have I1:=I0.qY (h':=h2) (t':=s.toks) Xj (fun b o hb eb=>by
   have b1:b≠z:=fun e=>hb (by simp [e]);have b2:b≠TO:=fun e=>hb (by simp [e]);have b3:b≠i1:=fun e=>hb (by simp [e]);have b4:b≠i2:=fun e=>hb (by simp [e]);rw [sb.2 b b1];rcases Aq rfl eb with ⟨rfl,rfl⟩|eb
   ·exact hnew
   ·exact hk b o b1 b2 b3 b4 eb)
  refine ⟨.ref s.heap.objs.size,_,I1,rfl,⟨s.heap.objs.size,x,y,rfl,hfr,fun ys hy=>by rw [I.vQ hy hq1];exact hx,fun ys' hy'=>by rw [I.vQ hy' hq2];exact hy,rfl⟩, ?_,fun b hb=>(Xj b hb).1⟩;obtain ⟨o1,ho1,c1,d1⟩:=ZG;obtain ⟨o2,ho2,c2,d2⟩:=hi2';exact ⟨Zx,(sb.2 TI ap.TIz).trans (hk TI _ ap.TIz ap.TITO ap.TIi1 ap.TIi2 hTI),⟨_,_,(sb.2 TO ap.TOz).trans ZJ⟩,⟨o1,(sb.2 i1 ap.i1z).trans ho1,c1,d1⟩,⟨o2,(sb.2 i2 ap.i2z).trans ho2,c2,d2⟩⟩
 done:=by
  intro X hP hw hK hc i pins s σ H E I hf st hg;subst hP hw hK;obtain ⟨xs,ys,hq1,hq2,hx⟩:=hg;obtain ⟨Ih,UG,p1,hz1⟩:=I.tuple hq1;obtain ⟨its2,WM,p2,hz2⟩:=I.tuple hq2;obtain ⟨hz,hTI,⟨a,c,hTO⟩,hi1,hi2⟩:=st;have hl1:=UG.length;refine aaR (I.ok.hd hc) ap hz hTI hTO hi1 hi2 (show s.heap.IsTuple l1 Ih.toArray from p1) (show s.heap.IsTuple l2 its2.toArray from p2) (by simp;lia) fun h' eb=>⟨rfl,I.qY (t':=s.toks) hf (fun b o hb e=>eb b o (fun z=>hb (by simp [z])) (fun z=>hb (by simp [z])) (fun z=>hb (by simp [z])) (fun z=>hb (by simp [z])) e)⟩
 self:=fun _ _ _ _ _ st h=>wpAny_pyIter_zip st.1 h
section
variable {X:Cx}
def ab1 (K:PySem.W.Frag) (ta:TA):TI:=fun σ H R=>ta σ H fun vs H1=>∃l1 l2 xs ys,vs=[.ref l1,.ref l2]/\((bN K H1 l1 xs/\bN K H1 l2 ys/\R (Itz K l1 l2) H1)\/(cN K H1 l1 xs/\cN K H1 l2 ys/\R (aan K l1 l2) H1))
theorem Vc {K:PySem.W.Frag} {a b:Expr} {ta:TA} {p pos:Pos} {elts:List Expr} {x1:Nat} {tpos:Pos} (hK:X.K=K) (hg:Gl X "zip") (hm:X.mg "zip" = none) (ha:PA X [a,b] ta) (hs:starEach [a,b] X.env=[(false,eval a X.env),(false,eval b X.env)]:=by rfl) (hs2:starEach [b] X.env=[(false,eval b X.env)]:=by rfl):PI X (.Tuple elts x1 tpos) (.Call (.Name "zip" p) [a,b] [] pos) (ab1 K ta):=by
 subst hK;intro pins s σ H R I h;refine Call_ (tW I hg hm boot_zip (PyProof.Rows.callWith_type1 (dN (ha pos pins s σ H _ I h) fun us s1 ⟨vs,H1,I1,r1,q1⟩=> ?_) (by rw [hs,hs2]) (by rw [hs2];rfl)));obtain ⟨l1,l2,xs,ys,e,q1⟩:=q1;subst e
 obtain ⟨u1,us',rfl,r,rr⟩:∃u1 us',us=u1::us'/\RelV (.ref l1) u1/\Vals [.ref l2] us':=by
  cases r1 with
  | cons r rr=>exact ⟨_,_,rfl,r,rr⟩
 obtain ⟨u2,rfl,r'⟩:=rr.one;cases r;cases r'
 have Vt:∀b∈[s1.heap.objs.size+4,s1.heap.objs.size+2,s1.heap.objs.size+3,s1.heap.objs.size,s1.heap.objs.size+1],s1.heap.objs.size<=b:=fun b hb=>by
  have:b=s1.heap.objs.size+4\/b=s1.heap.objs.size+2\/b=s1.heap.objs.size+3\/b=s1.heap.objs.size\/b=s1.heap.objs.size+1:=by simpa using hb
  rcases this with rfl|rfl|rfl|rfl|rfl
  ·exact Nat.le_add_right _ _
  ·exact Nat.le_add_right _ _
  ·exact Nat.le_add_right _ _
  ·exact Nat.le_refl _
  ·exact Nat.le_add_right _ _
 rcases q1 with ⟨hq1,hq2,q⟩|⟨hq1,hq2,q⟩
 ·obtain ⟨Ih,UG,pl1,hz1⟩:=I1.list hq1
  obtain ⟨its2,WM,pl2,hz2⟩:=I1.list hq2;have lt1:l1<s1.heap.objs.size:=by obtain ⟨o,ho,_⟩:=pl1.isList;exact Heap.lt_size ho
  have lt2:l2<s1.heap.objs.size:=by obtain ⟨o,ho,_⟩:=pl2.isList;exact Heap.lt_size ho
  refine call_zip_2 pl1.isList pl2.isList fun h' hZ hTI hTO hi1 hi2 hsz hk=> ?_;refine wpAny_pyIter_zip hZ ?_;have I2:Inv X pins σ H1 {s1 with heap:=h'}:=I1.kept (t':=s1.toks) hk;exact ⟨s1.heap.objs.size+4,[s1.heap.objs.size+4,s1.heap.objs.size+2,s1.heap.objs.size+3,s1.heap.objs.size,s1.heap.objs.size+1],_,_,H1,rfl,I2,Qc _ _ _ _ _ l1 l2 (zipApart_new lt1 lt2),⟨hZ,hTI,⟨_,_,hTO⟩,hi1,hi2⟩,fun b hb=>I1.Ar (Vt b hb) (I1.hok.fresh (Vt b hb)),q⟩
 ·obtain ⟨Ih,UG,pl1,hz1⟩:=I1.tuple hq1
  obtain ⟨its2,WM,pl2,hz2⟩:=I1.tuple hq2;have m1:s1.heap.IsTuple l1 Ih.toArray:=pl1;have m2:s1.heap.IsTuple l2 its2.toArray:=pl2;have lt1:l1<s1.heap.objs.size:=by obtain ⟨o,ho,_⟩:=id m1;exact Heap.lt_size ho
  have lt2:l2<s1.heap.objs.size:=by obtain ⟨o,ho,_⟩:=id m2;exact Heap.lt_size ho
  refine XC m1 m2 fun h' hZ hTI hTO hi1 hi2 hk=> ?_;refine wpAny_pyIter_zip hZ ?_;have I2:Inv X pins σ H1 {s1 with heap:=h'}:=I1.kept (t':=s1.toks) hk;exact ⟨s1.heap.objs.size+4,[s1.heap.objs.size+4,s1.heap.objs.size+2,s1.heap.objs.size+3,s1.heap.objs.size,s1.heap.objs.size+1],_,_,H1,rfl,I2,Nb _ _ _ _ _ l1 l2 (zipApart_new lt1 lt2),⟨hZ,hTI,⟨_,_,hTO⟩,hi1,hi2⟩,fun b hb=>I1.Ar (Vt b hb) (I1.hok.fresh (Vt b hb)),q⟩
end
section
variable {K:PySem.W.Frag} {D:Addr} {xs:List V} {tc:TT} {te:TE} {Q:VK} {rest:St} {H1:Hp}
theorem Ku {l1 l2:Addr} {ys:List V} {n:Nat} (hn1:xs.length=n) (hn2:ys.length=n) (f:Nat->Option V) (hD:H1 D=none) (hq1:H1 l1=some (.tup xs)) (hq2:H1 l2=some (.tup ys)) (hx:n<=100000)
 (hs:∀i x y H (G:Hp->Prop) (F:VK),xs[i]? = some x->ys[i]? = some y->Same H1 H->(∀H',Same H H'->f i=none->G H')->(∀y H',Same H H'->f i=some y->F y H')->tc (some x::some y::rest) H fun b H3=>if b=true then te (some x::some y::rest) H3 F else G H3)
 (hd:∀H,Same H1 H->H D=some (.lst ((List.range n).filterMap f))->Q (.ref D) H):mz (aan K l1 l2) (V0 K 2 (Im (gR 0) (Im (gR 1) ZP))) tc te Q D (none::none::rest) H1:=by
 refine ⟨fun i m σ H=>m=n - i/\i<=n/\(∃u v,σ=u::v::rest)/\Same H1 H/\H D=some (.lst ((List.range i).filterMap f)),⟨n,by simp,Nat.zero_le _,⟨none,none,rfl⟩,aH hD,ak⟩, ?_⟩;rintro i m σ H ⟨rfl,hi,⟨u,v,rfl⟩,sm,e⟩
 by_cases hlt:i<n
 ·have q1:cN K H l1 xs:=cN.of (sm _ _ hq1)
  have q2:cN K H l2 ys:=cN.of (sm _ _ hq2);have hx1:xs[i]? = some (xs[i]'(by lia)):=List.getElem?_eq_getElem _;have hy1:ys[i]? = some (ys[i]'(by lia)):=List.getElem?_eq_getElem _;refine .inr ⟨⟨xs,ys,_,_,q1,q2,hx1,hy1⟩,fun σ' H'=>(∃u v,σ'=u::v::rest)/\Same H1 H'/\H' D=some (.lst ((List.range (i+1)).filterMap f)),fun σ' H' p'=>⟨n - (i+1),by lia,rfl,hlt,p'⟩, ?_⟩;rintro x H' ⟨p,y,z,rfl,hp,e1,e2,rfl⟩;have sp:=aH (o:=HO.tup [y,z]) hp;refine ⟨p,[y,z],rfl,cN.of ak,rfl,_,_,rfl,_,_,rfl,rfl, ?_⟩;refine hs i y z _ _ _ (e1 _ q1) (e2 _ q2) (sm.trans sp) (fun H3 s3 ef=>⟨⟨_,_,rfl⟩,(sm.trans sp).trans s3,by rw [s3 _ _ (sp _ _ e),d9,ef];simp⟩) (fun y H4 s4 ef=> ?_);refine ⟨_,s4 _ _ (sp _ _ e), ?_,⟨_,_,rfl⟩,((sm.trans sp).trans s4).newly hD, ?_⟩
  ·have:=t_ f i
   rw [sizeLine_eq];lia
  ·rw [ak,d9,ef];rfl
 ·have ei:i=n:=by lia
  subst ei;exact .inl ⟨⟨xs,ys,cN.of (sm _ _ hq1),cN.of (sm _ _ hq2),by lia⟩,hd H sm e⟩
end
end L2
set_option Elab.async false
set_option linter.all false
set_option maxRecDepth 100000
set_option maxHeartbeats 4000000
namespace Prf
open PySem L2
def inR (x:Int):Prop:=0<=x/\x<1000
def allR (l:List Int):Prop:=∀x∈l,inR x
theorem Jl {l:List Int} (h:allR l) (i:Nat):inR ((l[i]?).getD 0):=by
 cases e:l[i]? with
 | none=>exact ⟨by decide,by decide⟩
 | some x=>exact h x (List.mem_of_getElem? e)
theorem Bu {l:List Int} (h:allR l) (i:Nat) {x:Int} (hx:inR x):allR (l.set i x):=fun y hy=>by
 rcases List.mem_or_eq_of_mem_set hy with m|e
 ·exact h y m
 ·rw [e];exact hx
theorem Fw (x:Int):inR (x % 1000):=⟨Int.emod_nonneg _ (by decide),Int.emod_lt_of_pos _ (by decide)⟩
theorem P0 {bs:List Int} (h:allR bs):∀e:K8,inR (vx bs e)
 | .one (.num n)=>Fw n
 | .one (.box b)=>Jl h b
 | .two true x y=>Fw _
 | .two false x y=>Fw _
theorem V8 {s:bO} (h:allR s.bs) (r:Rw):allR (rY s r).bs:=by
 cases r<;>first |exact h|exact Bu h _ (P0 h _)
theorem Rt:∀(n:Nat) (s:bO),allR s.bs->allR (led n s).bs
 | 0,s,h=>by
   unfold led;split
   ·exact h
   ·split<;>exact h
 | n+1,s,h=>by
   unfold led;split
   ·exact h
   ·split
    ·exact h
    ·exact Rt n _ (V8 h _)
def abj (x:Str):Prop:=x = "waits" \/ x = "ends" \/ x = "lost"
theorem Ai:∀(n:Nat) (s:bO),abj (led n s).st
 | 0,s=>by
   unfold led;split
   ·exact .inr (.inl rfl)
   ·split
    ·exact .inl rfl
    ·exact .inr (.inr rfl)
 | n+1,s=>by
   unfold led;split
   ·exact .inr (.inl rfl)
   ·split
    ·exact .inl rfl
    ·exact Ai n _
structure xP (S:nP):Prop where
 n:allR S.ns
 b:∀s∈S.hs,allR s.bs
 t:∀s∈S.hs,abj s.st
theorem Wa {ns bs:List Int} (h:allR ns) (hb:allR bs) (r:Rw):allR (pL ns bs r):=by
 cases r<;>first |exact h|exact Bu h _ (P0 hb _)
theorem Wc {ns bs:List Int} (h:allR ns) (hb:allR bs) (r:Rw):allR (Gm ns bs r):=by
 cases r<;>first |exact hb|exact Bu hb _ (Jl h _)
theorem xP.turn {S:nP} (g:xP S) (k:Nat):xP (kW S k):=by
 unfold kW;split
 ·exact g
 ·rename_i s es
  split
  ·exact g
  ·rename_i r er
   have hb:=g.b s (List.mem_of_getElem? es);refine ⟨Wa g.n hb r,fun s' hs'=> ?_,fun s' hs'=> ?_⟩
   ·rcases List.mem_or_eq_of_mem_set hs' with m|e
    ·exact g.b s' m
    ·rw [e]
     exact Rt _ _ (Wc g.n hb r)
   ·rcases List.mem_or_eq_of_mem_set hs' with m|e
    ·exact g.t s' m
    ·rw [e]
     exact Ai _ _
theorem Oo {m:Nat} {ns:List Int} {rws:List (List Rw)} (h:allR ns):xP (Gu m ns rws):=⟨h,fun s hs=>by
 obtain ⟨r,_,rfl⟩:=List.mem_map.mp hs;refine Rt _ _ fun x hx=> ?_;rw [(List.mem_replicate.mp hx).2];exact ⟨by decide,by decide⟩,fun s hs=>by
 obtain ⟨r,_,rfl⟩:=List.mem_map.mp hs;exact Ai _ _⟩
def Mp (l:List Int):PyData:= .list (l.map PyData.int)
mutual
theorem Sd:∀d:PyData,d.canLay0=true->PyData.eqv d d=true
 | .none,_=>rfl
 | .bool b,_=>by simp [PyData.eqv]
 | .int i,_=>by simp [PyData.eqv]
 | .str x,_=>by simp [PyData.eqv]
 | .list ds,h=>by simp only [PyData.eqv];exact wI ds (by simpa [PyData.canLay0] using h)
 | .tuple ds,h=>by simp only [PyData.eqv];exact wI ds (by simpa [PyData.canLay0] using h)
 | .dict _,h=>by simp [PyData.canLay0] at h
theorem wI:∀ds:List PyData,PyData.canLayAll0 ds=true->PyData.eqvAll ds ds=true
 | [],_=>rfl
 | d::ds,h=>by
   simp only [PyData.canLayAll0,Bool.and_eq_true] at h;simp only [PyData.eqvAll,Bool.and_eq_true];exact ⟨Sd d h.1,wI ds h.2⟩
end
def isLoad:Rw->Bool
 | .load _ _=>true
 | _=>false
def apart (r q:Rw):Prop:=DG r≠DG q\/(isLoad r=true/\isLoad q=true)
theorem G_ {S:nP} {k:Nat} {s:bO} {r:Rw} (es:S.hs[k]? = some s) (er:s.rws[s.pos]? = some r):kW S k={S with ns:=pL S.ns s.bs r,hs:=S.hs.set k (nZ S.ns s r),ts:=S.ts++[(k:Int)]}:=by
 unfold kW;simp only [es,er]
end Prf
set_option Elab.async false
set_option linter.all false
set_option maxRecDepth 100000
set_option maxHeartbeats 4000000
namespace L2
open PySem
section
variable {K:PySem.W.Frag} {a D:Addr} {xs:List V} {te:TE} {Q:VK} {rest:St} {H1:Hp}
end
end L2
set_option Elab.async false
set_option linter.all false
set_option maxRecDepth 100000
set_option maxHeartbeats 4000000
namespace PySem.W
open PySem PySem.Spec PySem.Calls PyProof.Rows
def V2 (K:Frag) (C:Addr):Bool:=match K.lookup C with
 | some ⟨.type "type",_,.cls cd,sl⟩=>(match cd.mro,sl.toList with
   | .ref C'::bm,[_,_,_,_,some (.builtin n),_]=>C'==C&&(n == "ValueError.__new__" && (!cd.hasDel&&(bm.contains (.type "ValueError")&&(bm.contains (.type "BaseException")&&(!bm.contains (.type "AttributeError") && !bm.contains (.type "NameError"))))))
   | _,_=>false)
 | _=>false
structure XJ (h:Heap) (C:Addr) (ob:Obj) (bm:List Value):Prop where
 at_:h.get? C=some ob
 ex:∃nm q N bs hdct sn sub ab col dd k0 k1 k2 k3 k5,ob=excClassObj nm q C N bs bm hdct sn sub ab col dd k0 k1 k2 k3 k5 "ValueError.__new__"
 v:bm.contains (.type "ValueError")=true
 b:bm.contains (.type "BaseException")=true
 a:bm.contains (.type "AttributeError")=false
 n:bm.contains (.type "NameError")=false
theorem Ws {K:Frag} {h:Heap} {C:Addr} (X:K.In h) (q:V2 K C=true):∃ob bm,XJ h C ob bm:=by
 unfold V2 at q;split at q
 ·rename_i d0 c0 s0 lk
  split at q
  ·rename_i C1 tl a0 a1 a2 a3 nn a5 em es
   simp only [Bool.and_eq_true,beq_iff_eq,Bool.not_eq_true'] at q;obtain ⟨e1,e2,e3,e4,e5,e6,e7⟩:=q;subst e1 e2;obtain ⟨f1,f2,f3,f4,f5,f6,f7,f8,f9,ZV,f11⟩:=c0;dsimp only at em e3;subst em e3
   have ez:s0 = #[a0,a1,a2,a3,some (.builtin "ValueError.__new__"),a5]:=by
    obtain ⟨l⟩:=s0;simp only at es;rw [es]
   subst ez;exact ⟨_,tl,X _ _ lk,⟨_,_,_,_,_,_,_,_,_,_,_,_,_,_,_,rfl⟩,e4,e5,e6,e7⟩
  ·cases q
 ·cases q
section
variable {prog:Program} {w:World} {A:Around} {h:Heap} {g:Array GenState} {d:Drawn} {t:Nat} {os:OsState} {C:Addr} {ob:Obj} {bm:List Value}
abbrev uw (rest:List Value):Obj:={cls:= .type "tuple",data:= .seq rest.toArray}
abbrev xNew (C T:Addr):Obj:={cls:= .ref C,data:= .fields #[.ref T,.none,.none,.none,.bool false,.none]}
theorem PN {M:Model} {E:Value->Shared->Prop} (J:XJ h C ob bm) {rest:List Value} {Q:Unit->Shared->Prop} (hq:Q () ⟨h,g,d,t,os⟩):
 wpAny M A (checkBuiltinCall "ValueError.__new__" ⟨.ref C::rest,[]⟩) Q E ⟨h,g,d,t,os⟩:=by
 have Fn:=PySem.F.excBase_ValueError;obtain ⟨hC,⟨nm,q,N,bs,hdct,sn,sub,ab,col,dd,k0,k1,k2,k3,k5,rfl⟩,hv,hb,ha,hn⟩:=J;have yes:(Value.ref C::bm).contains (.type "ValueError")=true:=by rw [List.contains_cons,hv,Bool.or_true]
 have star:=Fn.noStar;simp only [checkBuiltinCall,Fn.newKind,Fn.newSplit,Fn.newRow]
 repeat (first
  | refine wpAny_loadPart_at hC ?_
  | (refine wpAny_isSubtype_exc hC ?_;rw [yes])
  | refine wpAny_staticBase_exc hC ?_
  | refine wpAny_madeBy_exc hC ?_
  | simp only [bne_self_eq_false,Bool.false_eq_true,if_false]
  | wp_step)
 exact hq
theorem XF {R:Result->Shared->Prop} (J:XJ h C ob bm) {rest:List Value}
 (hq:R (.ok (.ret (.ref (h.objs.size+1)))) ⟨(h.push (uw rest)).push (xNew C h.objs.size),g,d,t,os⟩) (hrest:rest.length<=sizeLine):
 codeAny (model prog w) A (.builtin "ValueError.__new__" ⟨.ref C::rest,[]⟩) R ⟨h,g,d,t,os⟩:=by
 have Fn:=PySem.F.excBase_ValueError;obtain ⟨hC,⟨nm,q,N,bs,hdct,sn,sub,ab,col,dd,k0,k1,k2,k3,k5,rfl⟩,hv,hb,ha,hn⟩:=J;have ends:=Fn.ends;have y1:(Value.ref C::bm).contains (.type "ValueError")=true:=by rw [List.contains_cons,hv,Bool.or_true]
 have y2:(Value.ref C::bm).contains (.type "AttributeError")=false:=by rw [List.contains_cons,ha];rfl
 have y3:(Value.ref C::bm).contains (.type "NameError")=false:=by rw [List.contains_cons,hn];rfl
 refine codeAny_builtinAt Fn.entry ?_;unfold Builtin.«BaseException.__new__»;refine wpAt_bind ?_;show wpAt _ _ _ (stack >>= _) _ _ _;refine wpAt_bind (wpAt_stack fun p below=>wpAt_of_wpAny ?_)
 wp_walk
 refine wpAt_of_wpAny ?_;rw [Fn.owner]
 repeat (first
  | with_reducible refine wpAny_madeHere_exc Fn.canon hC ?_
  | with_reducible refine wpAny_loadPart_at hC ?_
  | (with_reducible refine wpAny_isSubtype_exc hC ?_;first |rw [y1]|rw [y2]|rw [y3])
  | wp_step)
 show R _ _;rw [Heap.size_push];exact hq
theorem Ue {R:Result->Shared->Prop} {f:Addr} (J:XJ h C ob bm) {rest:List Value} (hi:Looks (model prog w) h (typeLookup (.ref C) "__init__") (some (.ref f)))
 (hb:∀self,Looks (model prog w) h (bindSpecial (.ref f) self) (.ref f,[self])) (hrest:rest.length<=sizeLine)
 (hq:codeAny (model prog w) (A.under (.builtin "type.__call__" ⟨.ref C::rest,[]⟩)) (.call (.ref f) ⟨.ref (h.objs.size+1)::rest,[]⟩) (InitBack (h.objs.size+1) R) ⟨(h.push (uw rest)).push (xNew C h.objs.size),g,d,t,os⟩):
 codeAny (model prog w) A (.call (.ref C) ⟨rest,[]⟩) R ⟨h,g,d,t,os⟩:=by
 have J':=J;obtain ⟨hC,⟨nm,q,N,bs,hdct,sn,sub,ab,col,dd,k0,k1,k2,k3,k5,rfl⟩,hv,hbs,ha,hn⟩:=J;have f1:=tc_lookup;have f2:=tc_bind (.ref C);have ty:(⟨h,g,d,t,os⟩:Shared).TypeIs (.ref C) "type" :=⟨_,hC,rfl⟩;refine codeAny_of_tree ?_;show wpAny _ _ (callAny (.ref C) _) _ _ _
 repeat (any_goals (first
  | assumption
  | with_reducible refine wpAny_loadPart_at hC ?_
  | wp_step))
 refine ⟨rfl, ?_⟩;refine codeAny_call_builtin_at (Code.quiet_builtin _ (by decide +kernel)) entry_typeCall (wpAny_check_type_call_sub hC ?_)
 repeat (first
  | with_reducible refine wpAny_loadPart_at hC ?_
  | with_reducible refine wpAny_madeBy_exc hC ?_
  | wp_step)
 refine codeAny_call_builtin_code (Code.quiet_builtin _ PySem.F.excBase_ValueError.quiet) (PN J' ?_);refine XF J' ?_ hrest;show wpAny _ _ _ _ _ _;have kp:∀b o,h.get? b=some o->((h.push (uw rest)).push (xNew C h.objs.size)).get? b=some o:=fun b o e=>Heap.get?_push_of_some _ (Heap.get?_push_of_some _ e);have hx:((h.push (uw rest)).push (xNew C h.objs.size)).get? (h.objs.size+1)=some (xNew C h.objs.size):=by heap_get
 have hC1:=kp _ _ hC;have self:(Value.ref C::bm).contains (.ref C)=true:=by simp
 have i1:=hi.keeps kp;have b1:=(hb (.ref (h.objs.size+1))).keeps kp;have t1:Looks (model prog w) ((h.push (uw rest)).push (xNew C h.objs.size)) (typeOf (.ref (h.objs.size+1))) (.ref C):=(Looks.ld hx).andThen .now
 have s1:Looks (model prog w) ((h.push (uw rest)).push (xNew C h.objs.size)) (isSubtype (.ref C) (.ref C)) true:=fun A' Q' E' s' k z=>by
  obtain ⟨hh,g',d',t',os'⟩:=s';refine wpAny_isSubtype_exc (k _ _ hC1) ?_;rw [self];exact z
 show wpAny _ _ (isInstance (.ref (h.objs.size+1)) (.ref C) >>= _) _ _ ⟨(h.push (uw rest)).push (xNew C h.objs.size),g,d,t,os⟩;unfold isInstance;refine wpAny_bind (wpAny_bind (t1.here (s1.here ?_)));simp only [Bool.not_true,Bool.false_eq_true,if_false];refine wpAny_bind (wpAny_holding ?_);show wpAny _ _ (callSpecial? (.ref (h.objs.size+1)) "__init__" rest []) _ _ _;unfold callSpecial? specialOf;refine wpAny_bind (wpAny_bind (t1.here (i1.here ?_)));refine wpAny_holding (wpAny_bind (b1.here ?_));refine wpAny_bind (wpAny_call ?_);refine codeAny_mono (show codeAny (model prog w) (A.under (.builtin "type.__call__" ⟨.ref C::rest,[]⟩)) (.call (.ref f) ⟨.ref (h.objs.size+1)::rest,[]⟩) (InitBack (h.objs.size+1) R) ⟨(h.push (uw rest)).push (xNew C h.objs.size),g,d,t,os⟩ from hq) fun r s' z=> ?_;cases r with
 | error e=>exact z
 | ok fl=>
   cases fl with
   | ret v=>
     obtain ⟨rfl,z⟩:=z;exact wpAny_pure (wpAny_pure z)
   | next=>exact z.elim
   | brk=>exact z.elim
   | cont=>exact z.elim
theorem PK {M:Model} {E:Value->Shared->Prop} {s:Shared} {env:Env} {x:Sem Value} {Q:Flow->Shared->Prop} (hh:A.handled=none)
 (h:wpAny M A x (fun v s₁=>∃e oe ob bm vs,v = .ref e/\XJ s₁.heap C ob bm/\s₁.heap.get? e=some oe/\oe.cls = .ref C/\oe.data = .fields vs/\vs[1]? = some .none/\E (.ref e) s₁) E s):
 wpAny M A (raiseStmt env (some x) none) Q E s:=by
 unfold raiseStmt;refine wpAny_bind (wpAny_mono h (fun v s₁ h₁=> ?_) fun _ _ x=>x);obtain ⟨e,oe,ob,bm,vs,rfl,⟨hC,⟨nm,q,N,bs,hdct,sn,sub,ab,col,dd,k0,k1,k2,k3,k5,rfl⟩,hv,hb,ha,hn⟩,he,hc,hd,h1,hE⟩:=h₁;obtain ⟨hp,g,d,tk,os⟩:=s₁;obtain ⟨oc,od,odt,osl⟩:=oe;simp only at hc hd;subst hc hd;have yes:(Value.ref C::bm).contains (.type "BaseException")=true:=by rw [List.contains_cons,hb,Bool.or_true]
 repeat (first
  | with_reducible refine wpAny_loadPart_at he ?_
  | with_reducible refine wpAny_loadPart_at hC ?_
  | (with_reducible refine wpAny_isSubtype_exc hC ?_;rw [yes])
  | wp_step)
 rw [h1];refine wpAny_pure ?_;rw [if_neg (by decide)];exact wpAny_pure (wpAny_raiseNew_none hh hE)
end
end PySem.W
set_option Elab.async false
set_option linter.all false
set_option maxRecDepth 100000
set_option maxHeartbeats 4000000
namespace PySem.W
open PySem PySem.Spec PySem.Calls PyProof.Rows Builtin Builtin.ObjectAttr
def yp:List Value->Bool
 | .ref _::r=>yp r
 | l=>l==[.type "ValueError",.type "Exception",.type "BaseException",.type "object"]
theorem JR (self:Value) {l:List Value} (e:yp l=true):refuseLoop self "__setattr__" l=pure ():=by
 induction l with
 | nil=>cases e
 | cons v r ih=>
   cases v<;>first
    | (rw [refuseLoop_ref];exact ih e)
    | (cases (beq_iff_eq.mp e:(_:List Value)=_);done)
    | (rw [(beq_iff_eq.mp e:(_:List Value)=_)];exact PySem.F.store_ValueError.passes self)
structure XSa (K:Frag) (C:Addr):Prop where
 sa:findIn K (.ref C) "__setattr__" = some (some (.builtin "object.__setattr__"))
 mo:mroIn K C (.type "object")=some true
 cl:((clsIn K C).any fun cd=>cd.hasDict&&yp cd.mro)=true
section
variable {prog:Program} {w:World} {A:Around} {E:Value->Shared->Prop} {s:Shared} {K:Frag} {e C:Addr} {oe:Obj} {vs:Array Value} {name:Str} {v:Value}
theorem XD {Q:Unit->Shared->Prop} (X:K.In s.heap) (x:XSa K C) (ht:findIn K (.ref C) name=some none) (he:s.heap.get? e=some oe) (hc:oe.cls = .ref C) (hd:oe.dict=none) (hf:oe.data = .fields vs)
 (h:∀h',h'.get? e=some {oe with dict:=some s.heap.objs.size}->h'.Ns1 s.heap.objs.size (fun y=>if y=name then some v else none)->(∀b o,b≠e->s.heap.get? b=some o->h'.get? b=some o)->Q () {s with heap:=h',toks:=s.toks+2}):
 wpAny (model prog w) A (setAttr (.ref e) name v) Q E s:=by
 have I:InstAt s.heap e oe C none:=⟨he,hc,by
  obtain ⟨c0,d0,dt,sl⟩:=oe;simp only at hf;subst hf;rfl,by rw [hd];trivial⟩
 refine set_plain X I x.sa ?_;have SF:=PySem.F.store_object;obtain ⟨cd,hcd,hh⟩:=any_some x.cl;obtain ⟨hD,hR⟩:=Bool.and_eq_true_iff.mp hh;have sub:Looks (model prog w) s.heap (isInstance (.ref e) (.type "object")) true:=I.type.andThen (looks_mroIn X x.mo);refine codeAny_call_builtin SF.slot.plain SF.entry (@check_slot (model prog w) _ _ {s with toks:=s.toks+1} "object.__setattr__" "object" "__setattr__" (.ref e) [.str name s.toks,v] [] _ SF.kind SF.split sub (SF.args (.ref e) (.str name s.toks) v) ?_);have hm:Looks (model prog w) s.heap (mroOf (.ref C)) cd.mro:=(looks_clsIn X hcd).andThen .now;rw [osa_eq,refuse_eq];refine wpAny_bind (wpAny_bind (Looks.here (s:={s with toks:=s.toks+1}) I.type (wpAny_bind (Looks.here (s:={s with toks:=s.toks+1}) hm ?_))));rw [JR _ hR];refine wpAny_pure (wpAny_bind (Looks.here (s:={s with toks:=s.toks+1}) I.type (wpAny_bind (Looks.here (s:={s with toks:=s.toks+1}) (looks_findIn X ht) ?_))));refine wpAny_bind (Looks.here (s:={s with toks:=s.toks+1}) (.now:Looks (model prog w) s.heap (storeTaker? none) none) ?_);obtain ⟨c0,d0,dt,sl⟩:=oe;simp only at hc hd hf;subst hc hd hf;refine wpAny_bind (wpAny_pure (wpAny_bind (wpAny_bind (wpAny_loadPart he (wpAny_bind (Looks.here (s:={s with toks:=s.toks+1}) (looks_clsIn X hcd) ?_))))));rw [hD];have hxs:e≠s.heap.objs.size:=Nat.ne_of_lt (Heap.lt_size he);have he1:=Heap.get?_push_of_some {cls:= .type "dict",data:= .dict #[]} he;refine wpAny_bind (wpAny_alloc' ?_);refine wpAny_bind (wpAny_update' he1 ?_);refine wpAny_pure ?_;show wpAny _ _ (storeInDict s.heap.objs.size (.str name s.toks) name v) _ _ _;unfold storeInDict newKeyGuard;generalize hG:((s.heap.push {cls:= .type "dict",data:= .dict #[]}).update e fun o=>{cls:=o.cls,dict:=some s.heap.objs.size,data:=o.data,slots:=o.slots})=G
 have gd:G.get? s.heap.objs.size=some {cls:= .type "dict",data:= .dict #[]}:=by
  rw [←hG];exact (Heap.get?_update_ne _ _ _ _ hxs.symm).trans (Heap.get?_push_at rfl rfl)
 have ge:G.get? e=some {cls:= .ref C,dict:=some s.heap.objs.size,data:= .fields vs,slots:=sl}:=by
  rw [←hG];exact Heap.get?_update_self _ he1 rfl
 have go:∀b o,b≠e->s.heap.get? b=some o->G.get? b=some o:=fun b o nb q=>by
  rw [←hG];exact (Heap.get?_update_ne _ _ _ _ nb).trans (Heap.get?_push_of_some _ q)
 have hnd:G.Ns s.heap.objs.size (fun _=>none):=⟨_, #[],_,gd,rfl,fun e he=>absurd he (by simp),fun _=>rfl⟩;refine wpAny_bind (wpAny_pure (wpAny_bind (wpAny_nsSet1 (Heap.Ns1.of_empty hnd) fun h' hn' hs=> ?_)));obtain ⟨oD,esD,epD,hoD,hdD,hcD⟩:=hn'.count (Within.cons name v Within.nil);refine wpAny_bind (wpAny_lookBehind hoD (by rw [hdD];exact pastItsLine_dict (Nat.le_trans hcD (by rw [List.length_cons,List.length_nil,sizeLine_eq];lia))) ?_);exact wpAny_pure (h h' ((hs.2 e hxs).trans ge) hn' fun b o nb q=>(hs.2 b (Nat.ne_of_lt (Heap.lt_size q))).trans (go b o nb q))
theorem XH {expr:Bool} {odo:Option Obj} {Q:Value->Shared->Prop} (X:K.In s.heap) (I:InstAt s.heap e oe C odo) (hga:findIn K (.ref C) "__getattribute__" = some (some (.builtin "BaseException.__getattribute__")))
 (hk:findIn K (.ref C) "__getattr__" = some none) (hB:mroIn K C (.type "BaseException")=some true) (hf:findObj K C odo name=some (.value v)) (hv:handedIn v=true) (h:Q v {s with toks:=s.toks+1}):
 wpAny (model prog w) A (getAttr (.ref e) name expr) Q E s:=by
 obtain ⟨hh,g,d,t,os⟩:=s;have L0:=I.type (M:=model prog w);have L1:=looks_findIn (M:=model prog w) X hga;have L2:=looks_findIn (M:=model prog w) X hk;have L4:=looks_find (M:=model prog w) X I hf;have hx2:(Value.builtin "BaseException.__getattribute__" == Value.builtin "object.__getattribute__")=false:=by decide +kernel
 have f3:=(F.attr_Exception.ga).bind (.ref e);have hx0:(expr&&onTheHeap (Value.builtin "BaseException.__getattribute__"))=false:=by cases expr<;>rfl
 unfold getAttr getAttrBy;refine wpAny_bind (wpAny_mkText (wpAny_holding (wpAny_bind (L0.at (wpAny_bind (L1.at ?_))))));simp only [hx2,Bool.and_false,Bool.false_eq_true,if_false];unfold getAttrByItsOwn hookBefore;show wpAny _ _ (typeLookup (.ref C) "__getattr__" >>= _) _ _ _;refine wpAny_bind (L2.at ?_);refine wpAny_bind (wpAny_attempt (wpAny_holding ?_));unfold callGetattribute boundAndCalled;rw [hx0,if_neg (by decide)];refine wpAny_bind (wpAny_of_eq f3 ?_);refine wpAny_call (codeAny_call_builtin (F.attr_Exception.ga).plain F.entry_bexc_ga (Dt (s:=⟨hh,g,d,t+1,os⟩) X I hB ?_));show wpAny _ _ (Builtin.«object.__getattribute__» ⟨[.ref e,.str name t],[]⟩) _ _ _;unfold Builtin.«object.__getattribute__»;refine wpAny_bind (wpAny_pure ?_);refine wpAny_bind (wpAny_pure ?_);refine wpAny_bind (L0.at (wpAny_bind (L4.at ?_)));refine wpAny_pure ?_;exact handed_on hv h
end
end PySem.W
set_option Elab.async false
set_option linter.all false
set_option maxRecDepth 100000
set_option maxHeartbeats 4000000
namespace L2
open PySem PySem.Spec PyProof.Rows
def Gy (C:Addr) (dx:Option Addr) (e:Addr):HO:= .ext fun h=>∃oe vs,h.get? e=some oe/\oe.cls = .ref C/\oe.dict=dx/\oe.data = .fields vs/\vs[1]? = some .none
theorem Rc {P:Program} {w:World} {H:Hp} {h:Heap} {C e:Addr} {dx:Option Addr} (x:∃oe vs,h.get? e=some oe/\oe.cls = .ref C/\oe.dict=dx/\oe.data = .fields vs/\vs[1]? = some .none):dg P w H h e (Gy C dx e):=by
 obtain ⟨oe,vs,q,r⟩:=x;exact ⟨⟨oe,vs,q,r⟩,⟨oe,q⟩,fun h1 h2 ⟨o1,v1,p1,p2⟩ k=>⟨o1,v1,k _ p1,p2⟩⟩
theorem abH {P:Program} {w:World} {H:Hp} {h:Heap} {C e:Addr} {dx:Option Addr} (x:∃oe vs,h.get? e=some oe/\oe.cls = .ref C/\oe.dict=dx/\oe.data = .fields vs):dg P w H h e (XO C dx e):=by
 obtain ⟨oe,vs,q,r⟩:=x;exact ⟨⟨oe,vs,q,r⟩,⟨oe,q⟩,fun h1 h2 ⟨o1,v1,p1,p2⟩ k=>⟨o1,v1,k _ p1,p2⟩⟩
section
variable {X:Cx} {pins:List (Addr×Obj)} {σ:St} {H:Hp} {s:Shared} {e C:Addr} {dx:Option Addr}
theorem Inv.Uj {φ:Heap->Prop} (I:Inv X pins σ (upd H e (.ext φ)) s) (he:H e=none):Inv X pins σ H s:=by
 have nn:∀b o,(upd H e (.ext φ)) b=some o->(∀ψ,o ≠ .ext ψ)->H b=some o:=fun b o q n=>by
  by_cases z:b=e
  ·rw [z,ak] at q;exact absurd (Option.some.inj q).symm (n φ)
  ·rw [aD z] at q;exact q
 have no:∀b,(upd H e (.ext φ)) b=none->H b=none:=fun b q=>by
  by_cases z:b=e
  ·rw [z,ak] at q;cases q
  ·rw [aD z] at q;exact q
 refine ⟨I.ok,I.os,I.bare,⟨I.base.keep,I.base.slot,fun b o q n hh=>no b (I.base.free b o q n hh),I.base.there,fun b xs q=>nn _ _ (I.base.tups b xs q) (by intro ψ z;cases z),fun b o u q=>nn _ _ (I.base.vf b o u q) (by intro ψ z;cases z),fun b ps q=> ?_⟩,I.loc,I.cell,no _ I.free,fun x c q=>no _ (I.jx x c q),fun p hp=> ?_,fun a o q=> ?_,I.len⟩
 ·obtain ⟨more,r⟩:=I.base.vR b ps q
  exact ⟨more,nn _ _ r (by intro ψ z;cases z)⟩
 ·obtain ⟨a1,a2,a3⟩:=I.pin p hp
  exact ⟨a1,no _ a2,a3⟩
 ·have na:a≠e:=au q he
  refine (I.hok a o (by rw [aD na];exact q)).stay (fun _ _ _ z=>z) (fun b z=>nn _ _ z (by intro ψ z;cases z)) fun b ys z=>nn _ _ z (by intro ψ z;cases z)
end
def abn (K:PySem.W.Frag) (ta tv:TE) (f:Str):TS:=fun D σ H=>tv σ H fun y H1=>ta σ H1 fun x H2=>∃e C,x = .ref e/\H2 e=some (Gy C none e)/\PySem.W.XSa K C/\eN K C f /\ ∀d,H2 d=none->D.nx σ (upd (upd H2 d (.xd [(f,y)])) e (Gy C (some d) e))
section
variable {X:Cx} {K:PySem.W.Frag} {o e value:Expr} {f:Str} {pos pos':Pos} {ta tv:TE}
theorem U9 (hK:X.K=K) (ha:PE X o ta) (hv:PE X value tv) (hs:swapsWith value (some (.Attribute o f pos')) pos.line X.env=pure false):PS X (.Assign [.Attribute o f pos'] value pos) (abn K ta tv f):=by
 subst hK;intro pins s σ H D I h;refine plainObj_wpAny_Assign_Attribute (dN (hv pins s σ H _ I h) fun u s1 ⟨y,H1,I1,ry,q⟩=>dN (ha pins s1 σ H1 _ I1 q) fun ov s2 ⟨x,H2,I2,rx,e,C,ex,ee,xs,na,q2⟩=> ?_) hs;subst ex;obtain rfl:ov=Value.ref e:=rx;obtain ⟨⟨oe,vs,he,hc,hd,hf,h1⟩,_⟩:=(show dg X.prog X.w H2 s2.heap e (Gy C none e) from I2.hok e _ ee);refine PySem.W.XD I2.nM xs na he hc hd hf fun h' ge gn go=> ?_;have nd:=I2.hok.fresh (Nat.le_refl s2.heap.objs.size);have hxs:e≠s2.heap.objs.size:=Nat.ne_of_lt (Heap.lt_size he);refine ⟨σ,_, ?_,q2 _ nd⟩;obtain ⟨od,es,ep,god,r⟩:=id gn
 have fz:od.isFreed=false:=by
  cases q:od.isFreed with
  | false=>rfl
  | true=>exact absurd ((Heap.get?_some_iff.mp god).2) (by rw [q];decide)
 have p1:(s2.heap.push od).get? s2.heap.objs.size=some od:=Heap.get?_push_size _ fz
 have J1:=I2.laid (a:=s2.heap.objs.size) (o:= .xd [(f,y)]) (h':=s2.heap.push od) (t':=s2.toks) (fun b u q=>Heap.get?_push_of_some _ q) (Nat.le_refl _) ⟨_,⟨od,es,ep,p1,r⟩,fun g=>by
  show nu (List.lookup g [(f,y)]) (if g=f then some u else none)
  by_cases z:g=f
  ·subst z
   rw [if_pos rfl,show List.lookup g [(g,y)]=some y by simp [List.lookup]];exact ry
  ·rw [if_neg z]
   have:(g==f)=false:=by simpa using z
   simp only [List.lookup,this];trivial⟩
 have J2:=J1.write (x:=e) (e:=e) (o:=Gy C (some s2.heap.objs.size) e) (h':=h') (t':=s2.toks+2) (by rw [aD hxs,ee];exact True.intro) (.inl rfl) (fun b u nb q=> ?_) ⟨_,ge⟩ (Rc ⟨_,vs,ge,hc,rfl,hf,h1⟩)
 ·exact J2
 ·rcases Heap.get?_push_cases q with ⟨rfl,rfl⟩|q
  ·exact god
  ·exact go b u nb q
end
def DY (P:Program) (w:World) (K:PySem.W.Frag) (mg:Str->Option Value) (base:Heap) (k:Nat) (C:Addr) (x:Str) (ps:List Str) (sp:Sp):Prop:=
 ∃f fd,bZ P w K mg base kY k f fd ps sp/\PySem.W.findIn K (.ref C) "__init__" = some (some (.ref f))/\PySem.W.typeIn K (.ref f)=some (.type "function")/\PySem.W.V2 K C=true/\mg x=some (.ref C)/\PySem.W.keepIn K (.ref C)=true/\Binds K fd ps []
section
variable {X:Cx} {k:Nat} {C:Addr} {x:Str} {ps:List Str} {sp:Sp} {pins:List (Addr×Obj)} {σ:St} {H:Hp} {s:Shared}
theorem CK {us:List Value} {vs:List V} {G:Addr->Hp->Prop} (M:DY X.prog X.w X.K X.mg X.base k C x ps sp) (hx:X.ex=[]) (hr:fL (k+1) X.A) (I:Inv X pins σ H s) (r:Vals vs us) (hl:vs.length<=sizeLine)
 (h:∀e,H e=none->sp (.ref e::vs) (upd H e (Gy C none e)) (fun v H2=>v = .non/\G e H2) E0):
 wpAny (model X.prog X.w) X.A (call (.ref C) us) (fun v s2=>∃e H2,v = .ref e/\D_ X pins H e/\Inv X pins σ H2 s2/\G e H2) X.xe s:=by
 obtain ⟨f,fd,F,hi,hf,hj,hm,hk,hb⟩:=M;have fr:s.heap.get? (s.heap.objs.size+1)=none:=Heap.get?_none_of_le (Nat.le_succ _);have fp:=I.xfp hx fr;have q:=h _ fp.1;have kp:∀b o,s.heap.get? b=some o->((s.heap.push (PySem.W.uw us)).push (PySem.W.xNew C s.heap.objs.size)).get? b=some o:=fun b o e=>Heap.get?_push_of_some _ (Heap.get?_push_of_some _ e)
 have gx:((s.heap.push (PySem.W.uw us)).push (PySem.W.xNew C s.heap.objs.size)).get? (s.heap.objs.size+1)=some (PySem.W.xNew C s.heap.objs.size):=by
  have:=Heap.get?_push_size (s.heap.push (PySem.W.uw us)) (o:=PySem.W.xNew C s.heap.objs.size) rfl;rwa [Heap.size_push] at this
 have I1:Inv X pins σ H {s with heap:=s.heap.push (PySem.W.uw us)}:=I.kept (t':=s.toks) fun b o e=>Heap.get?_push_of_some _ e
 have I2:Inv X pins σ (upd H (s.heap.objs.size+1) (Gy C none (s.heap.objs.size+1))) {s with heap:=(s.heap.push (PySem.W.uw us)).push (PySem.W.xNew C s.heap.objs.size)}:=
  I1.laid (a:=s.heap.objs.size+1) (o:=Gy C none (s.heap.objs.size+1)) (t':=s.toks) (fun b o e=>Heap.get?_push_of_some _ e) (Nat.le_of_eq (Heap.size_push _ _)) (Rc ⟨_,_,gx,rfl,rfl,rfl,rfl⟩)
 have r2:Vals (V.ref (s.heap.objs.size+1)::vs) (Value.ref (s.heap.objs.size+1)::us):= .cons rfl r;have hlen:(Value.ref (s.heap.objs.size+1)::us).length=ps.length:=by rw [←r2.length];exact F.len _ _ _ _ q
 have hbd:=hb {s with heap:=(s.heap.push (PySem.W.uw us)).push (PySem.W.xNew C s.heap.objs.size)} (Value.ref (s.heap.objs.size+1)::us) I2.nM (by rw [List.append_nil];exact hlen);rw [List.append_nil] at hbd;obtain ⟨ob,bm,J⟩:=PySem.W.Ws I.nM hj;obtain ⟨hh,g,d,t,os⟩:=s;refine wpAny_call (PySem.W.Ue J (PySem.W.looks_findIn I.nM hi) (fun self=>PySem.W.bind_fn I.nM self hf) (by rw [←r.length];exact hl) (codeAny_mono (F.run _ X.stack _ _ ⟨Value.ref (hh.objs.size+1)::us,[]⟩ (Value.ref (hh.objs.size+1)::us) _ _ E0 (hr.make C us []) (I2.env0.make C us []) hbd r2 q) fun res s' hq=> ?_))
 match res,hq with
 | .error ev,hq=>exact hq.elim
 | .ok (.ret u),hq=>
   obtain ⟨v,H',I3,rv,ev,q3⟩:=I2.after hq;subst ev;exact ⟨rv,⟨_,H',rfl,fp,I3,q3⟩⟩
end
def Yd (C:Addr) (sp:Sp) (t:TA):TE:=fun σ H Q=>t σ H fun vs H1=>vs.length<=sizeLine /\ ∀e,H1 e=none->sp (.ref e::vs) (upd H1 e (Gy C none e)) (fun v H2=>v = .non /\ ∃d H3,H2=upd H3 e (Gy C (some d) e)/\Q (.ref e) (upd H3 e (XO C (some d) e))) E0
def Ut (C:Addr) (sp:Sp) (E:St->XK) (t:TA):TS:=fun _ σ H=>t σ H fun vs H1=>vs.length<=sizeLine /\ ∀e,H1 e=none->sp (.ref e::vs) (upd H1 e (Gy C none e)) (fun v H2=>v = .non /\ ∃d H3,H2=upd H3 e (Gy C (some d) e)/\H3 e=none/\E σ (.ref C) (some d) H3) E0
section
variable {X:Cx} {k:Nat} {C:Addr} {x:Str} {ps:List Str} {sp:Sp} {e:Expr} {es:List Expr} {t:TA} {p pos cpos:Pos} {E:St->XK}
theorem QL (M:DY X.prog X.w X.K X.mg X.base k C x ps sp) (hx:X.ex=[]) (hr:fL (k+1) X.A) (hg:Gl X x) (ha:PA X (e::es) t) (hdb:(x==("__debug__" :Str))=false:=by decide)
 (he:starEach (e::es) X.env=(false,eval e X.env)::starEach es X.env:=by rfl) (hpl:(backTo pos (starEach es X.env)).any (·.1)=false:=by rfl):
 PE X (.Call (.Name x p) (e::es) [] pos) (Yd C sp t):=by
 have hm:=M;obtain ⟨f,fd,F,hi,hf,hj,hmg,hk,hb⟩:=hm;intro pins s σ H Q I h;refine wpAny_Call_Name_kw (mO I hg hmg ?_ hdb);refine PySem.W.callWith_K (h₀:=X.base) I.ok.mod.RB hk (dN (ha pos pins s σ H _ I h) fun us s1 ⟨vs,H1,I1,r,hl,q⟩=>⟨I1.nM, ?_⟩) he hpl;refine wpAny_mono (CK (G:=fun e H2=>∃d H3,H2=upd H3 e (Gy C (some d) e)/\Q (.ref e) (upd H3 e (XO C (some d) e))) M hx hr I1 r hl q) (fun v s2 ⟨e,H2,ev,fp,I2,d,H3,eH,q3⟩=> ?_) fun _ _ z=>z;subst ev eH;obtain ⟨⟨oe,vs',g1,g2,g3,g4,g5⟩,_⟩:=(show dg X.prog X.w _ s2.heap e (Gy C (some d) e) from I2.hok e _ ak);have J:Inv X pins σ (upd (upd H3 e (Gy C (some d) e)) e (XO C (some d) e)) {s2 with heap:=s2.heap,toks:=s2.toks}:=I2.write (x:=e) (e:=e) (by rw [ak];exact True.intro) (.inl rfl) (fun b u _ q=>q) ⟨_,g1⟩ (abH ⟨oe,vs',g1,g2,g3,g4⟩);rw [Ui] at J;exact ⟨.ref e,_,J,rfl,q3⟩
theorem Nm (M:DY X.prog X.w X.K X.mg X.base k C x ps sp) (hx:X.ex=[]) (hc:X.calm=true) (R:Rz X E) (hr:fL (k+1) X.A) (hg:Gl X x) (ha:PA X (e::es) t) (hdb:(x==("__debug__" :Str))=false:=by decide)
 (he:starEach (e::es) X.env=(false,eval e X.env)::starEach es X.env:=by rfl) (hpl:(backTo cpos (starEach es X.env)).any (·.1)=false:=by rfl):
 PS X (.Raise (some (.Call (.Name x p) (e::es) [] cpos)) none pos) (Ut C sp E t):=by
 have hm:=M;obtain ⟨f,fd,F,hi,hf,hj,hmg,hk,hb⟩:=hm;intro pins s σ H D I h;rw [arm_exec_Raise];refine wpAny_bind (wpAny_standAt ?_);simp only [evalOpt,Option.map];refine PySem.W.PK (C:=C) (I.ok.hd hc) (wpAny_bind (wpAny_mono (Q:=fun v s1=>∃e oe ob bm vs,v = .ref e/\PySem.W.XJ s1.heap C ob bm/\s1.heap.get? e=some oe/\oe.cls = .ref C/\oe.data = .fields vs/\vs[1]? = some .none/\X.xe (.ref e) s1) ?_ (fun v s1 z=>wpAny_bind (wpAny_standAt (wpAny_pure z))) fun _ _ z=>z));refine wpAny_Call_Name_kw (mO I hg hmg ?_ hdb);refine PySem.W.callWith_K (h₀:=X.base) I.ok.mod.RB hk (dN (ha cpos pins s σ H _ I h) fun us s1 ⟨vs,H1,I1,r,hl,q⟩=>⟨I1.nM, ?_⟩) he hpl;refine wpAny_mono (CK (G:=fun e H2=>∃d H3,H2=upd H3 e (Gy C (some d) e)/\H3 e=none/\E σ (.ref C) (some d) H3) M hx hr I1 r hl q) (fun v s2 ⟨e,H2,ev,fp,I2,d,H3,eH,fe,q3⟩=> ?_) fun _ _ z=>z;subst ev eH;obtain ⟨⟨oe,vs',g1,g2,g3,g4,g5⟩,_⟩:=(show dg X.prog X.w _ s2.heap e (Gy C (some d) e) from I2.hok e _ ak);obtain ⟨ob,bm,J⟩:=PySem.W.Ws I2.nM hj;have I3:=I2.Uj fe;exact ⟨e,oe,ob,bm,vs',rfl,J,g1,g2,g4,g5,R pins σ H3 s2 e (.ref C) (some d) none (.inl rfl) I3 ⟨fe,fp.2⟩ ⟨oe,vs',g1,g2,g3,g4,g5⟩ q3⟩
end
def XAt (H:Hp) (e C:Addr) (fs:List (Str×V)):Prop:=(H e=some (XO C none e)/\fs=[]) \/ ∃d,H e=some (XO C (some d) e)/\H d=some (.xd fs)
def aa6 (K:PySem.W.Frag) (ta:TE) (f:Str):TE:=fun σ H Q=>ta σ H fun x H1=>∃e C d fs v,x = .ref e/\H1 e=some (XO C (some d) e)/\H1 d=some (.xd fs)/\PySem.W.K3 K C/\PySem.W.hasDictIn K C=true/\eN K C f/\fs.lookup f=some v/\Q v H1
section
variable {X:Cx} {K:PySem.W.Frag} {e:Expr} {f:Str} {pos:Pos} {ta:TE} {pins:List (Addr×Obj)} {σ:St} {H:Hp} {s:Shared}
theorem K_ {e' C d:Addr} {fs:List (Str×V)} (I:Inv X pins σ H s) (he:H e'=some (XO C (some d) e')) (hd:H d=some (.xd fs)):∃(ox od:Obj) (mA:Str->Option Value),PySem.W.InstAt s.heap e' ox C (some od)/\(∀f,nu (fs.lookup f) (mA f)) /\ ∀name,PySem.W.lookIn name od=some (mA name):=by
 obtain ⟨⟨oe,vs,q,hc,hdx,hf⟩,_⟩:=(show dg X.prog X.w H s.heap e' (XO C (some d) e') from I.hok e' _ he);obtain ⟨mA,n1,r⟩:=(show dg X.prog X.w H s.heap d (.xd fs) from I.hok d _ hd);obtain ⟨od,ho,hl⟩:=Dd n1;exact ⟨oe,od,mA,⟨q,hc,rW hf,by rw [hdx];exact ho⟩,r,hl⟩
theorem Lw (hK:X.K=K) (he:PE X e ta) (hb:attributeBase e f X.env (eval e X.env)=eval e X.env):PE X (.Attribute e f pos) (aa6 K ta f):=by
 subst hK;intro pins s σ H Q I h;refine MN hb (dN (he pins s σ H _ I h) fun u s1 ⟨x,H1,I1,rx,a,C,d,fs,v,ex,ea,ed,xc,hd,n,l,q⟩=> ?_);subst ex;obtain rfl:u=Value.ref a:=rx;obtain ⟨ox,od,mA,J,r,hl⟩:=K_ I1 ea ed;obtain ⟨u',hu,ru⟩:=nu.some_of (v:=v) (o:=mA f) (by rw [←l];exact r f);exact PySem.W.XH I1.nM J xc.hga xc.hk xc.hB (PySem.W.findObj_own hd n rfl (by rw [hl,hu])) (Dn ru) ⟨v,H1,I1.tok _,ru,q⟩
theorem G5 {e' C:Addr} {fs:List (Str×V)} (I:Inv X pins σ H s) (x:XAt H e' C fs):∃ox odo,PySem.W.InstAt s.heap e' ox C odo:=by
 rcases x with ⟨h,_⟩|⟨d,h,hd⟩
 ·exact Ud (I.hok e' _ h)
 ·obtain ⟨ox,od,_,J,_⟩:=K_ I h hd
  exact ⟨ox,some od,J⟩
theorem oE {c:Value} {cv:V} (hk:X.K=K) (rc:∀u,RelV cv u->u=c):jy X (.builtin "isinstance") (fun xs H Q=>∃(e C:Addr) (fs:List (Str×V)) (b:Bool),xs=[.ref e,cv]/\XAt H e C fs/\PySem.W.K3 K C/\PySem.W.kitOne K (.ref C) c=some b/\Q (.bl b) H):=by
 subst hk;intro pins s σ H xs us Q I r h;obtain ⟨e,C,fs,b,rfl,he,xc,hb,q⟩:=h;obtain ⟨u,w',rfl,r1,r2⟩:=vals2 r;cases (show u=Value.ref e from r1);have:=rc _ r2;subst this;exact PySem.W.kia_one (PySem.W.Ig xc) I.nM (G5 I he) hb (by intro z;cases z) fun tk=>⟨.bl b,H,I.tok _,rfl,q⟩
theorem OJ (hk:X.K=K):jy X (.builtin "isinstance") (fun xs H Q=>∃(e t C:Addr) (fs:List (Str×V)) (cs:List Addr) (b:Bool),xs=[.ref e,.ref t]/\XAt H e C fs/\PySem.W.K3 K C/\H t=some (.tup (cs.map V.ref)) /\
 PySem.W.kitAny K (.ref C) (cs.map Value.ref)=some b/\Q (.bl b) H):=by
 subst hk;intro pins s σ H xs us Q I r h;obtain ⟨e,t,C,fs,cs,b,rfl,he,xc,ht,hb,q⟩:=h;obtain ⟨u,w',rfl,r1,r2⟩:=vals2 r;cases (show u=Value.ref e from r1);cases (show w'=Value.ref t from r2);obtain ⟨its,rv,⟨o,ho,hc,m,hd⟩,hz⟩:=I.tuple (cN.of ht);have ei:=M8 rv;subst ei;obtain ⟨c0,d0,dt,sl⟩:=o;simp only at hc hd;subst hc hd;exact PySem.W.kia_tup (PySem.W.Ig xc) I.nM (G5 I he) ho hb (by intro z;cases z) fun tk=>⟨.bl b,H,I.tok _,rfl,q⟩
end
structure Xf (K:PySem.W.Frag) (mg:Str->Option Value) (C:Addr) (nm f:Str):Prop where
 bd:mg nm=some (.ref C)
 hd:XHd K C
 xc:PySem.W.K3 K C
 ve:PySem.W.subIn K (.ref C) (.type "ValueError")=some true
 sa:PySem.W.XSa K C
 dc:PySem.W.hasDictIn K C=true
 na:eN K C f
end L2
set_option Elab.async false
set_option linter.all false
set_option maxRecDepth 100000
set_option maxHeartbeats 4000000
namespace Prf
open PySem L2
def top (i:Nat):Stmt:=PySem.Challenge.pw_fewnotes_k52_held.main.body.getD i (.Pass ⟨0,0,0,0⟩)
abbrev fj:Stmt:=inClass (top 7) 0
abbrev fY:Stmt:=top 9
abbrev fZ:Stmt:=top 10
abbrev iy:Stmt:=top 13
abbrev fB:Stmt:=inClass (top 17) 0
abbrev cT:Stmt:=inClass (top 17) 1
abbrev cR:Stmt:=inClass (top 17) 3
abbrev iz:Stmt:=inClass (top 17) 4
abbrev d8:Stmt:=inClass (top 17) 5
abbrev fu:Stmt:=inClass (top 17) 6
abbrev cj:Stmt:=inClass (top 17) 7
abbrev bV:Stmt:=inClass (top 18) 0
abbrev d7:Stmt:=inClass (top 18) 1
abbrev cB:Stmt:=inClass (top 18) 2
abbrev eZ:Stmt:=inClass (top 18) 6
abbrev cQ:Stmt:=inClass (top 18) 7
abbrev dZ:Stmt:=inClass (top 18) 8
abbrev cL:Stmt:=inClass (top 18) 9
abbrev cJ:Stmt:=top 19
abbrev iw:Stmt:=top 21
abbrev dh:Stmt:=top 23
abbrev dY:Stmt:=top 24
abbrev uR:Stmt:=top 25
abbrev eY:Stmt:=top 26
abbrev dB:Stmt:=inClass (top 28) 0
abbrev dj:Stmt:=inClass (top 28) 1
abbrev cC:Stmt:=inClass (top 28) 2
abbrev cD:Stmt:=inClass (top 28) 3
abbrev dD:Stmt:=inClass (top 28) 4
abbrev cM:Stmt:=inClass (top 28) 5
abbrev dF:Stmt:=inClass (top 28) 6
abbrev dz:Stmt:=inClass (top 28) 9
abbrev cF:Stmt:=inClass (top 28) 10
abbrev lB:Stmt:=top 30
abbrev lE:Stmt:=top 31
abbrev iK:Stmt:=top 32
abbrev lC:Stmt:=top 33
abbrev jj:Stmt:=top 34
abbrev gq:Stmt:=top 35
abbrev lD:Stmt:=top 36
abbrev gj:Stmt:=top 37
abbrev k_:Stmt:=top 38
abbrev uQ:Stmt:=top 39
structure um (mg:Str->Option Value):Prop where
 Gw:mg "ValueError" = none
 MK:mg "all" = none
 Br:mg "bool" = none
 Ji:mg "enumerate" = none
 Jh:mg "int" = none
 bH:mg "isinstance" = none
 gK:mg "len" = none
 jL:mg "list" = none
 aol:mg "max" = none
 Xq:mg "min" = none
 lF:mg "range" = none
 Jg:mg "sorted" = none
 adA:mg "str" = none
 Xp:mg "sum" = none
 yw:mg "tuple" = none
 adz:mg "zip" = none
theorem Ey:bG ["self","note"] ["self","note"] (aA fj):=⟨rfl,rfl,rfl,by decide +kernel,rfl,by decide +kernel,by decide +kernel⟩
theorem Hi:bG ["value"] ["value"] (aA fY):=⟨rfl,rfl,rfl,by decide +kernel,rfl,by decide +kernel,by decide +kernel⟩
theorem Hj:bG ["value","count"] ["value","count"] (aA fZ):=⟨rfl,rfl,rfl,by decide +kernel,rfl,by decide +kernel,by decide +kernel⟩
theorem JM:bG ["row"] ["row"] (aA iy):=⟨rfl,rfl,rfl,by decide +kernel,rfl,by decide +kernel,by decide +kernel⟩
theorem EY:bG ["self","rows"] ["self","rows"] (aA fB):=⟨rfl,rfl,rfl,by decide +kernel,rfl,by decide +kernel,by decide +kernel⟩
theorem pO:bG ["self","other"] ["self"] (aA cT):=⟨rfl,rfl,rfl,by decide +kernel,rfl,by decide +kernel,by decide +kernel⟩
theorem kE:bG ["self","done"] ["self"] (aA cR):=⟨rfl,rfl,rfl,by decide +kernel,rfl,by decide +kernel,by decide +kernel⟩
theorem JN:bG ["self","row"] ["self","row"] (aA iz):=⟨rfl,rfl,rfl,by decide +kernel,rfl,by decide +kernel,by decide +kernel⟩
theorem m9:bG ["self","row","left","right"] ["self","row"] (aA d8):=⟨rfl,rfl,rfl,by decide +kernel,rfl,by decide +kernel,by decide +kernel⟩
theorem Ez:bG ["self","box","number"] ["self","box","number"] (aA fu):=⟨rfl,rfl,rfl,by decide +kernel,rfl,by decide +kernel,by decide +kernel⟩
theorem iu:bG ["self","part","left","right"] ["self","part"] (aA cj):=⟨rfl,rfl,rfl,by decide +kernel,rfl,by decide +kernel,by decide +kernel⟩
theorem m8:bG ["self","program","cells","one"] ["self","program","cells"] (aA bV):=⟨rfl,rfl,rfl,by decide +kernel,rfl,by decide +kernel,by decide +kernel⟩
theorem m7:bG ["self","hand","one","touch"] ["self","hand"] (aA d7):=⟨rfl,rfl,rfl,by decide +kernel,rfl,by decide +kernel,by decide +kernel⟩
theorem eX:bG ["self","one","row","cell","read","written"] ["self","one"] (aA cB):=⟨rfl,rfl,rfl,by decide +kernel,rfl,by decide +kernel,by decide +kernel⟩
theorem Ew:bG ["self","hand"] ["self","hand"] (aA eZ):=⟨rfl,rfl,rfl,by decide +kernel,rfl,by decide +kernel,by decide +kernel⟩
theorem xQ:bG ["self"] ["self"] (aA cQ):=⟨rfl,rfl,rfl,by decide +kernel,rfl,by decide +kernel,by decide +kernel⟩
theorem rR:bG ["self","other"] ["self"] (aA dZ):=⟨rfl,rfl,rfl,by decide +kernel,rfl,by decide +kernel,by decide +kernel⟩
theorem v9:bG ["self","hand"] ["self","hand"] (aA cL):=⟨rfl,rfl,rfl,by decide +kernel,rfl,by decide +kernel,by decide +kernel⟩
theorem v8:bG ["cells","count"] ["cells","count"] (aA cJ):=⟨rfl,rfl,rfl,by decide +kernel,rfl,by decide +kernel,by decide +kernel⟩
theorem JL:bG ["value"] ["value"] (aA iw):=⟨rfl,rfl,rfl,by decide +kernel,rfl,by decide +kernel,by decide +kernel⟩
theorem zP:bG ["record"] ["record"] (aA dh):=⟨rfl,rfl,rfl,by decide +kernel,rfl,by decide +kernel,by decide +kernel⟩
theorem BW:bG ["counts","note"] ["counts","note"] (aA dY):=⟨rfl,rfl,rfl,by decide +kernel,rfl,by decide +kernel,by decide +kernel⟩
theorem Ys:bG ["done","touch"] ["done","touch"] (aA uR):=⟨rfl,rfl,rfl,by decide +kernel,rfl,by decide +kernel,by decide +kernel⟩
theorem pB:bG ["record","firsts","note"] ["record"] (aA eY):=⟨rfl,rfl,rfl,by decide +kernel,rfl,by decide +kernel,by decide +kernel⟩
theorem zQ:bG ["self","works","record"] ["self","works","record"] (aA dB):=⟨rfl,rfl,rfl,by decide +kernel,rfl,by decide +kernel,by decide +kernel⟩
theorem lN:bG ["self","hand","holding","touch"] ["self","hand"] (aA dj):=⟨rfl,rfl,rfl,by decide +kernel,rfl,by decide +kernel,by decide +kernel⟩
theorem uM:bG ["self","hand"] ["self","hand"] (aA cC):=⟨rfl,rfl,rfl,by decide +kernel,rfl,by decide +kernel,by decide +kernel⟩
theorem mH:bG ["self","hand","touch"] ["self","hand"] (aA cD):=⟨rfl,rfl,rfl,by decide +kernel,rfl,by decide +kernel,by decide +kernel⟩
theorem zR:bG ["self"] ["self"] (aA dD):=⟨rfl,rfl,rfl,by decide +kernel,rfl,by decide +kernel,by decide +kernel⟩
theorem wg:bG ["self"] ["self"] (aA cM):=⟨rfl,rfl,rfl,by decide +kernel,rfl,by decide +kernel,by decide +kernel⟩
theorem zT:bG ["self"] ["self"] (aA dF):=⟨rfl,rfl,rfl,by decide +kernel,rfl,by decide +kernel,by decide +kernel⟩
theorem ji:bG ["self","touches","hand","count"] ["self"] (aA dz):=⟨rfl,rfl,rfl,by decide +kernel,rfl,by decide +kernel,by decide +kernel⟩
theorem uN:bG ["self"] ["self"] (aA cF):=⟨rfl,rfl,rfl,by decide +kernel,rfl,by decide +kernel,by decide +kernel⟩
theorem qu:bG ["script","stir","cell","great"] ["script"] (aA lB):=⟨rfl,rfl,rfl,by decide +kernel,rfl,by decide +kernel,by decide +kernel⟩
theorem uP:bG ["reel","many","rest","told","stir"] ["reel","many"] (aA lE):=⟨rfl,rfl,rfl,by decide +kernel,rfl,by decide +kernel,by decide +kernel⟩
theorem CG:bG ["found","due"] ["found","due"] (aA iK):=⟨rfl,rfl,rfl,by decide +kernel,rfl,by decide +kernel,by decide +kernel⟩
theorem uO:bG ["reel","counts","able","hand","other"] ["reel","counts"] (aA lC):=⟨rfl,rfl,rfl,by decide +kernel,rfl,by decide +kernel,by decide +kernel⟩
theorem rB:bG ["reel","counts","some","k","note"] ["reel","counts"] (aA jj):=⟨rfl,rfl,rfl,by decide +kernel,rfl,by decide +kernel,by decide +kernel⟩
theorem qw:bG ["some","gone","hand","found","note"] ["some","gone","hand"] (aA gq):=⟨rfl,rfl,rfl,by decide +kernel,rfl,by decide +kernel,by decide +kernel⟩
theorem Hl:bG ["loads","counts","some","gone","waiting"] ["loads","counts","some","gone"] (aA lD):=⟨rfl,rfl,rfl,by decide +kernel,rfl,by decide +kernel,by decide +kernel⟩
theorem mJ:bG ["one","hand","caught","e"] ["one","hand"] (aA gj):=⟨rfl,rfl,rfl,by decide +kernel,rfl,by decide +kernel,by decide +kernel⟩
theorem qt:bG ["one","hand","loads","counts","some","gone","found","caught","made","told"] ["one","hand","loads","counts","some","gone"] (aA k_):=⟨rfl,rfl,rfl,by decide +kernel,rfl,by decide +kernel,by decide +kernel⟩
theorem lM:bG ["script","reel","most","loads","counts","some","handed","hands","one","gone","k"] ["script"] (aA uQ):=⟨rfl,rfl,rfl,by decide +kernel,rfl,by decide +kernel,by decide +kernel⟩
structure iG (K:PySem.W.Frag) (C:Addr):Prop where
 cls:Cls K C
 qF:eN K C "rows"
 wB:eN K C "at"
 lV:eN K C "in_boxes"
 rH:eN K C "sayings"
 mK:eN K C "state"
structure ig (K:PySem.W.Frag) (C:Addr):Prop where
 cls:Cls K C
 wz:eN K C "program"
 lH:eN K C "numbers"
 pG:eN K C "hands"
 uW:eN K C "turns"
structure eF (K:PySem.W.Frag) (C:Addr):Prop where
 cls:Cls K C
 nY:eN K C "record"
 HD:eN K C "firsts"
 Ft:eN K C "stage"
 fH:eN K C "progress"
section
variable {P:Program} {w:World} {K:PySem.W.Frag} {mg:Str->Option Value} {base:Heap}
theorem yu {α β:Type} (p:α->Bool) (g:α->β):∀l:List α,(List.range l.length).filterMap (fun i=>(l[i]?).bind fun x=>if p x then some (g x) else none)=(l.filter p).map g
 | []=>rfl
 | x::l=>by
   have ih:=yu p g l;rw [List.length_cons,List.range_succ_eq_map,List.filterMap_cons,List.filterMap_map,List.filter_cons];cases q:p x
   ·simp [q];exact ih
   ·simp [q];exact ih
theorem Gb (x y:Int):PyData.eqv (.int x) (.int y)=decide (x=y):=by
 simp only [PyData.eqv];rw [Bool.eq_iff_iff];simp
theorem jW {H:Hp} {a:Addr} {ns:List Int} (h:H a=some (.lst (ns.map V.int))):Dat H (.ref a) (.list (ns.map PyData.int)):=oh h (aR.ints ns)
theorem shaped_ints (ns:List Int):SeqAt.shaped (.list (ns.map PyData.int))=true:=wY PyData.int 0 (by decide) (fun _ _=>rfl) (fun _ _=>by show 0<=0;decide)
abbrev Nt:=Int×Int×Int×Int
def nD (x:Nt):PyData:= .tuple [.int x.1,.int x.2.1,.int x.2.2.1,.int x.2.2.2]
def nV (x:Nt):List V:=[.int x.1,.int x.2.1,.int x.2.2.1,.int x.2.2.2]
theorem jH (x:Nt):GZ (nD x)=true:=rfl
theorem Mw {H:Hp} {v:V} {d:PyData} (h:Dat H v d):aR H [v] [d]:=by
 simp only [aR,and_true];exact h
theorem ud {H:Hp} {t:Addr} {x:Nt} (h:H t=some (.tup (nV x))):Dat H (.ref t) (nD x):=by
 simp only [nD,Dat];exact ⟨t,_,rfl,h,by simp only [nV,aR,Dat,and_self]⟩
theorem Ay {H:Hp} {v:V} {x:Nt} (h:Dat H v (nD x)):∃t,v = .ref t/\H t=some (.tup (nV x)):=by
 simp only [nD,Dat] at h;obtain ⟨t,vs,e,q,d⟩:=h
 match vs,d with
 | [a,b,c,z],d=>
   simp only [aR,Dat,and_true] at d;obtain ⟨rfl,rfl,rfl,rfl⟩:=d;exact ⟨t,e,q⟩
 | [],d=>simp only [aR] at d
 | [_],d=>simp only [aR,and_false] at d
 | [_,_],d=>simp only [aR,and_false] at d
 | [_,_,_],d=>simp only [aR,and_false] at d
 | _::_::_::_::_::_,d=>simp only [aR,and_false] at d
def lY (H:Hp) (a:Addr) (ns:List Nt):Prop:=∃vs,H a=some (.lst vs)/\aR H vs (ns.map nD)
theorem lY.same {H H':Hp} {a:Addr} {ns:List Nt} (h:lY H a ns) (k:Same H H'):lY H' a ns:=by
 obtain ⟨vs,e,d⟩:=h;exact ⟨vs,k _ _ e,aR.keep k.tups _ (cg _ jH ns) d⟩
theorem uV {H:Hp} {vs:List V} {ns:List Nt} {i:Nat} {v:V} (d:aR H vs (ns.map nD)) (e:vs[i]? = some v):∃x t,ns[i]? = some x/\v = .ref t/\H t=some (.tup (nV x)):=by
 obtain ⟨q,eq,dq⟩:=d.get e;rw [List.getElem?_map] at eq;cases ex:ns[i]? with
 | none=>rw [ex] at eq;cases eq
 | some x=>
   rw [ex] at eq;cases eq;obtain ⟨t,rfl,ht⟩:=Ay dq;exact ⟨x,t,rfl,rfl,ht⟩
def gI (cs:List Int) (h:Int):Int:=(cs[h.toNat]?).getD 0
theorem gF {cs:List Int} {h:Int} (h0:0<=h) (h1:h<cs.length):KZ (cs.map V.int) h=some (.int (gI cs h)):=by
 obtain ⟨m,rfl⟩:=Int.eq_ofNat_of_zero_le h0;have:m<cs.length:=by lia
 refine gD ?_;simp [gI,this]
theorem Kr {cs:List Int} {i:Nat} {c:Int} (h:cs[i]? = some c):gI cs i=c:=by simp [gI,h]
theorem Ml {n:Nat} {i:Int} (h0:0<=i) (h1:i<n):Km n i=some i.toNat:=by unfold Km;rw [if_pos h0,if_pos h1]
theorem RX {cs:List Int} {h k v:Int} (h0:0<=h) (h1:h<cs.length) (k0:0<=k):gI (cs.set h.toNat v) k=if k=h then v else gI cs k:=by
 unfold gI;rw [List.getElem?_set]
 by_cases e:k=h
 ·subst e
  have:k.toNat<cs.length:=by lia
  simp [this]
 ·have:¬h.toNat=k.toNat:=by lia
  simp [e,this]
def Gz (cs:List Int) (x:Nt):Prop:=(0<=x.1/\x.1<cs.length)/\(0<=x.2.1/\x.2.1<gI cs x.1)/\(0<=x.2.2.1/\x.2.2.1<cs.length)/\(0<=x.2.2.2/\x.2.2.2<gI cs x.2.2.1)/\x.1≠x.2.2.1
def Js (cs:List Int):Prop:=cs.length<=8 /\ ∀c∈cs,0<=c/\c<=300
theorem Js.gI {cs:List Int} (h:Js cs) (i:Int):0<=gI cs i/\gI cs i<=300:=by
 unfold Prf.gI;cases e:cs[i.toNat]? with
 | none=>simp
 | some c=>exact h.2 c (List.mem_of_getElem? e)
theorem Sg (x y:Nt):PyData.eqv (nD x) (nD y)=decide (x=y):=by
 obtain ⟨a,b,c,d⟩:=x;obtain ⟨a',b',c',d'⟩:=y;simp only [nD,PyData.eqv,PyData.eqvAll,Bool.and_true]
 by_cases e1:a=a'
 ·subst e1
  by_cases e2:b=b'
  ·subst e2
   by_cases e3:c=c'
   ·subst e3
    by_cases e4:d=d'
    ·subst e4;simp
    ·simp [e4]
   ·simp [e3]
  ·simp [e2]
 ·simp [e1]
theorem pA (ns:List Nt):SeqAt.shaped (.list (ns.map nD))=true:=
 wY nD 1 (by decide) (fun _ _=>rfl) (fun _ _=>by show (max 0 (max 0 (max 0 (max 0 0))))+1<=1;decide)
def RecAt (H:Hp) (t c a:Addr) (cs:List Int) (ns:List Nt):Prop:=H t=some (.tup [.ref c,.ref a])/\H c=some (.lst (cs.map V.int))/\lY H a ns
theorem RecAt.same {H H':Hp} {t c a:Addr} {cs:List Int} {ns:List Nt} (h:RecAt H t c a cs ns) (k:Same H H'):RecAt H' t c a cs ns:=⟨k _ _ h.1,k _ _ h.2.1,h.2.2.same k⟩
def Jm (cs:List Int) (ns:List Nt):Prop:=Js cs/\ns.length<=100 /\ ∀x∈ns,Gz cs x
def M127:Int:=170141183460469231731687303715884105727
theorem Wd:Builtin.Int.intBits M127<=127:=PySem.intBits_le_iff.mpr (by decide)
theorem MF {t:Int} (h0:0<=t) (h1:t<M127):Builtin.Int.intBits t<=127:=PySem.intBits_le_of_natAbs (y:=M127) (by unfold M127 at h1 ⊢;lia) Wd
theorem Ri {t:Int} (h0:0<=t) (h1:t<M127):IntMulOk t t:=IntMulOk.of_le (MF h0 h1) (MF h0 h1) (by lia)
def je (H:Hp) (r:Addr):Prop:=∃(g c:Addr) (gs cs:List Int) (p t:Int),H r=some (.lst [.ref g,.ref c,.int p,.int t])/\H g=some (.lst (gs.map V.int))/\H c=some (.lst (cs.map V.int))/\0<cs.length/\cs.length<=100/\gs.length<=100/\(∀x∈gs,0<=x)/\0<=p/\0<=t/\t<M127/\g≠r/\c≠r
theorem je.ne {H:Hp} {r p:Addr} (h:je H r) (hp:H p=none):p≠r:=by
 obtain ⟨g,c,gs,cs,_,t,e1,_⟩:=h;exact (au e1 hp).symm
theorem je.at {H:Hp} {r:Addr} (h:je H r):∃o,H r=some o:=by
 obtain ⟨g,c,gs,cs,p,t,e1,_⟩:=h;exact ⟨_,e1⟩
theorem je.tups {H H':Hp} {r:Addr} (h:je H r) (k:Kp r H H'):∀a xs,H a=some (HO.tup xs)->H' a=some (HO.tup xs):=by
 obtain ⟨g,c,gs,cs,p,t,e1,_⟩:=h;exact k.tups e1
def Off (H:Hp) (r x:Addr):Prop:=∀(g c:Addr) (u v:V),H r=some (.lst [.ref g,.ref c,u,v])->x≠g/\x≠c
def KR (r:Addr) (H H':Hp):Prop:=Kp r H H' /\ ∀x o,H x=some o->x≠r->Off H r x->Off H' r x
theorem KR.tups {r:Addr} {H H':Hp} (k:KR r H H') (R:je H r):∀a xs,H a=some (HO.tup xs)->H' a=some (HO.tup xs):=R.tups k.1
theorem je.off {H:Hp} {r x:Addr} (R:je H r) (hx:H x=none):Off H r x:=fun g c u v e=>by
 obtain ⟨g',c',gs,cs,p,t,e1,e2,e3,_⟩:=R;rw [e1] at e;cases e;exact ⟨fun z=>(by rw [z,e2] at hx;cases hx),fun z=>(by rw [z,e3] at hx;cases hx)⟩
theorem Off.same {H H':Hp} {r x:Addr} (R:je H r) (k:Same H H') (f:Off H r x):Off H' r x:=fun g c u v e2=>by
 obtain ⟨g',c',gs,cs,p,t,e1,_⟩:=R;rw [k _ _ e1] at e2;cases e2;exact f _ _ _ _ e1
theorem je.set {H:Hp} {r x:Addr} {o:HO} (R:je H r) (n:x≠r) (f:Off H r x):je (upd H x o) r:=by
 obtain ⟨g,c,gs,cs,p,t,e1,e2,e3,q⟩:=R;obtain ⟨n1,n2⟩:=f _ _ _ _ e1;exact ⟨g,c,gs,cs,p,t,by rw [aD n.symm];exact e1,by rw [aD n1.symm];exact e2,by rw [aD n2.symm];exact e3,q⟩
theorem Off.set {H:Hp} {r x y:Addr} {o:HO} (n:x≠r) (f:Off H r y):Off (upd H x o) r y:=fun g c u v e=>f g c u v (by rw [aD n.symm] at e;exact e)
theorem Kp.new {H H':Hp} {r p:Addr} (k:Kp r H H') (hp:H' p=none) (hr:∃o,H' r=some o):H p=none:=by
 cases e:H p with
 | none=>rfl
 | some o=>
   by_cases n:p=r
   ·subst n
    obtain ⟨o',ho⟩:=hr;rw [hp] at ho;cases ho
   ·rw [k _ _ e n] at hp
    cases hp
theorem Gf {ns:List Int} (h:ns.length<=63):qK (ns.map V.int) none (some 63)=ns.map V.int:=by
 unfold qK;rw [HT.zU,show (some (63:Int))=some ((63:Nat):Int) from rfl,HT.E_,List.length_map,List.drop_zero,Nat.min_eq_right h,Nat.sub_zero,List.take_of_length_le (by simp)]
def El (K:PySem.W.Frag):Sp:=fun vs H Q _=>∃(a:Addr) (ns:List Int),vs=[.ref a]/\bN K H a (ns.map V.int)/\ns.length<=63 /\ ∀(r:Addr) (H':Hp),H r=none->je H' r->Same H H'->Q (.ref r) H'
theorem Q6 {f:Addr} {fd:FuncData} (F:kO K "_law_reel" "_law_reel" lB f fd) (Bt:um mg):bZ P w K mg base kY 1 f fd ["script"] (El K):=by
 refine F.ok qu (fun vs H Q E h=> ?_) (fun cdv A outer s H vs Q E hr h=> ?_)
 ·obtain ⟨a,ns,rfl,_⟩:=h
  rfl
 ·obtain ⟨a,ns,rfl,hs,hlen,k⟩:=h
  refine ⟨_,(aF (bU (i:=1) qu.nd rfl (Or.inl rfl) (bY qD aG aG))
   (aF (tU PassesOwn.never rfl (dW (K:=K) rfl (nU (uK (K:=K) rfl) (pv 0) rE (rD aG))) (bW (i:=2) qu.nd rfl (Or.inl rfl))
   (aK (bU (i:=1) qu.nd rfl (Or.inl rfl) (bY pF (bY lU (bY lU (bY LK (pv 1) (pv 1)) (bY pF (pv 2) aG)) aG) (bY Ab (bY Fg (bY qD aG aG) (bY qD aG aG)) aG)))))
   (aF (pC (i:=3) rfl qu.nd rfl (Or.inl rfl) (N:=["cell"]) (own:=["cell"]) (caps:=[]) (bC.of (by kernel_rfl)) (dW (K:=K) rfl (nU (uK (K:=K) rfl) (pv 0) rE (rD aG))) (fun _ _ _ _=>(bW (i:=0) (show List.Nodup (["cell"]:List Str) by decide +kernel) rfl (Or.inl rfl))) (fun _ _ _ _=>(rC (bM W0 (pv 0) (bY qD aG aG) (bJ _)))) (fun _ _ _ _=>(bY Ab (pv 0) (bY qD aG aG))))
   (aK (bK (eO (aj (pv 3) (aj (bY J0 (gA rfl (N:=["cell"]) (own:=["cell"]) (caps:=[]) (bC.of (by kernel_rfl)) (dW (K:=K) rfl (nU (uK (K:=K) rfl) (pv 0) rE (rD aG))) (fun _ _ _ _=>(bW (i:=0) (show List.Nodup (["cell"]:List Str) by decide +kernel) rfl (Or.inl rfl))) (fun _ _ _ _=>fM) (fun _ _ _ _=>(bY pF (pv 0) aG))) (eO (aj aG aC))) (aj aG (aj (pv 1) aC)))))))))), ?_⟩
  refine ⟨_,_,rfl,rfl,(by show Jt 3 60;exact ⟨by decide,by decide,by decide⟩), ?_⟩;refine ⟨_,rfl,_,rfl,_,_,rfl,hs,fun p hp=> ?_⟩;rw [Gf hlen];have s1:=aH (o:=HO.lst (ns.map V.int)) hp;have cp1:Jt 2 64:=⟨by decide,by decide,by decide⟩;have cp2:Jt 2 63:=⟨by decide,by decide,by decide⟩;have cp3:Jt 10 18:=⟨by decide,by decide,by decide⟩
  refine ⟨p,rfl,⟨_,bN.of ak⟩,vg (K:=K) (a:=p) (xs:=ns.map V.int) (fun i σ H2=>∃(t:Int) (v:Option V),σ=[some (.ref a),some (.int t),v,none]/\H2=upd H p (.lst (ns.map V.int))/\0<=t/\t<M127)
   ⟨_,none,rfl,rfl,by decide,by decide⟩ (fun i σ H2 _ ⟨_,_,_,e,_⟩=>by rw [e];exact bN.of ak) ?_ ?_⟩
  ·rintro i y σ H2 hi ⟨t,v,rfl,rfl,t0,t1⟩
   obtain ⟨z,rfl⟩:∃z,y=V.int z:=by
    rw [List.getElem?_map] at hi;cases e:ns[i]? with
    | none=>rw [e] at hi;cases hi
    | some z=>rw [e] at hi;exact ⟨z,(Option.some.inj hi).symm⟩
   refine ⟨_,rfl,_,rfl,_,_,rfl,rfl,Ri t0 t1,_,rfl,_,_,rfl,rfl,(by show (0:Int)<1000000000000000003;decide),_,_,rfl,rfl,_,_,rfl,rfl, ?_⟩;refine ⟨_,_,rfl,rfl,cp1,_,_,rfl,rfl,cp2,_,_,rfl,rfl,.inr ⟨by decide,by decide⟩,_,_,rfl,rfl,_,_,rfl,rfl,(by show (0:Int)<2 ^ Int.toNat 64*2 ^ Int.toNat 63 - 1;decide), ?_⟩;refine ⟨_,_,rfl,rfl, ?_, ?_⟩
   ·exact Int.emod_nonneg _ (by decide)
   ·exact Int.emod_lt_of_pos _ (by decide)
  ·rintro σ H2 ⟨t,v,rfl,rfl,t0,t1⟩
   have hs1:=s1.seq hs;refine ⟨_,rfl,_,rfl,_,_,rfl,hs1,fun p2 hp2=> ?_⟩;rw [Gf hlen];have s2:=aH (o:=HO.lst (ns.map V.int)) hp2;refine ⟨p2,rfl,⟨_,bN.of ak⟩,fun D hD=> ?_⟩;refine oA (K:=K) (fun i=>(ns[i]?).bind fun z=>if decide (z≥10 ^ (18:Int).toNat) then some (V.int (z - 10 ^ (18:Int).toNat)) else none) hD (bN.of ak) (by rw [List.length_map];lia) (fun i v H3 G F hi s3 kG kF=> ?_) (fun H3 s3 e3=> ?_)
   ·rw [List.getElem?_map] at hi
    cases e:ns[i]? with
    | none=>rw [e] at hi;cases hi
    | some z=>
      rw [e] at hi;cases hi;simp only [e,Option.bind_some] at kG kF;refine ⟨_,rfl,_,_,rfl,rfl,cp3,_,_,rfl,rfl,_,rfl, ?_⟩;refine dO (fun w=> ?_) (fun w=> ?_)
      ·exact ⟨_,rfl,_,_,rfl,rfl,cp3,_,_,rfl,rfl,kF _ H3 (Same.refl _) (by rw [if_pos w])⟩
      ·exact kG H3 (Same.refl _) (by rw [if_neg w])
   rw [List.length_map,yu (fun z:Int=>decide (z≥10 ^ (18:Int).toNat)) (fun z=>V.int (z - 10 ^ (18:Int).toNat))] at e3;have e3':H3 D=some (.lst (((ns.filter fun z=>decide (z≥10 ^ (18:Int).toNat)).map fun z=>z - 10 ^ (18:Int).toNat).map V.int)):=by rw [e3,List.map_map];rfl
   have s13:=(s1.trans s2).trans s3;refine ⟨_,rfl,_,rfl,_,rfl,_,_,rfl,s13.seq hs,fun p3 hp3=> ?_⟩;rw [Gf hlen];have s4:=aH (o:=HO.lst (ns.map V.int)) hp3;refine ⟨p3,rfl,⟨_,bN.of ak⟩,fun D2 hD2=> ?_⟩;refine oA (K:=K) (fun i=>(ns[i]?).map fun z=>V.int (z % 1000003)) hD2 (bN.of ak) (by rw [List.length_map];lia) (fun i v H5 G F hi s5 kG kF=> ?_) (fun H5 s5 e5=> ?_)
   ·rw [List.getElem?_map] at hi
    cases e:ns[i]? with
    | none=>rw [e] at hi;cases hi
    | some z=>
      rw [e] at hi;cases hi;exact ⟨_,rfl,_,_,rfl,rfl,(by show (0:Int)<1000003;decide),kF _ H5 (Same.refl _) (by rw [e];rfl)⟩
   rw [List.length_map,Mr] at e5;refine ⟨(by show 1<=sizeLine;decide),fun p4 hp4=> ?_⟩;have s6:=aH (o:=HO.lst [V.int 41]) hp4;refine ⟨D2,p4,_,_,rfl,rfl,s6 _ _ e5,ak,by rw [sizeLine_eq,List.length_map];simp only [List.length_singleton];lia,fun c hc=> ?_⟩;have s7:=aH (o:=HO.lst (ns.map (fun z=>V.int (z % 1000003))++[V.int 41])) hc;have s47:=(s4.trans s5).trans (s6.trans s7);refine ⟨_,rfl,(by show 4<=sizeLine;decide),fun r hr'=> ?_⟩;have s8:=aH (o:=HO.lst [V.ref D,V.ref c,V.int 0,V.int t]) hr';have eD:=s47 _ _ e3';have nDr:D≠r:=au eD hr';have Zh:c≠r:=au ak hr';have fl:(ns.filter fun z=>decide (z≥10 ^ (18:Int).toNat)).length<=ns.length:=List.length_filter_le _ _;refine k r _ ((s13.trans s47).free hr') ⟨D,c,_,ns.map (· % 1000003)++[41],0,t,ak,s8 _ _ eD, ?_,by simp,by simp;lia,by rw [List.length_map];lia,fun x hx=> ?_,by decide,t0,t1,nDr,Zh⟩ ((s13.trans s47).trans s8)
   ·refine s8 _ _ ?_
    rw [ak,List.map_append,List.map_map];rfl
   ·obtain ⟨z,hz,rfl⟩:=List.mem_map.mp hx
    have:=of_decide_eq_true (List.mem_filter.mp hz).2;lia
def uI (K:PySem.W.Frag):Sp:=fun vs H Q _=>∃(r:Addr) (m:Int),vs=[.ref r,.int m]/\je H r/\0<m/\m<1329227995784915872903807060280344576 /\ ∀(z:Int) (H':Hp),0<=z->z<m->je H' r->KR r H H'->Q (.int z) H'
theorem Rb {f:Addr} {fd:FuncData} (F:kO K "_law_draw" "_law_draw" lE f fd) (Bt:um mg):bZ P w K mg base kY 1 f fd ["reel","many"] (uI K):=by
 refine F.ok uP (fun vs H Q E h=> ?_) (fun cdv A outer s H vs Q E hr h=> ?_)
 ·obtain ⟨r,m,rfl,_⟩:=h
  rfl
 ·obtain ⟨r,m,rfl,⟨g,c,gs,cs,p,t,hR,hG,hC,c0,c1,g1,ZM,p0,t0,t1,ngr,Zh⟩,m0,m1,k⟩:=h
  have xT:=hr.units
  refine ⟨_,(aF (cU (bM (LC (K:=K) rfl xT) (aW (bh (K:=K) rfl) (pv 0) aG (fun _ _=>rfl)) (eO aC) (bJ _)) (aF (bU (i:=2) uP.nd rfl (Or.inl rfl) (aW (bh (K:=K) rfl) (aW (bh (K:=K) rfl) (pv 0) aG (fun _ _=>rfl)) aG (fun _ _=>rfl)))
   (aF (wj (bY J0 (bY Fd (eO (aj (bY Hs (pv 2) (pv 1)) aC)) (eV wL (by rfl) Bt.Jh Bf (aj (gB W0 (pv 2) (pv 1) (bJ _)) aC))) (nU (uK (K:=K) rfl) (aW (bh (K:=K) rfl) (pv 0) aG (fun _ _=>rfl)) (rD aG) rE)) (wk (pv 0) aG set_list))
   (aK (bK (bY pF (pv 2) (pv 1)))))) bQ)
   (aF (wj (bY lU (aW (bh (K:=K) rfl) (pv 0) aG (fun _ _=>rfl)) aG) (wk (pv 0) aG set_list))
   (aF (bU (i:=3) uP.nd rfl (Or.inl rfl) (aW (bh (K:=K) rfl) (aW (bh (K:=K) rfl) (pv 0) aG (fun _ _=>rfl)) (bY pF (aW (bh (K:=K) rfl) (pv 0) aG (fun _ _=>rfl)) (aQ (bw (K:=K) rfl) (by rfl) Bt.gK dR (aj (aW (bh (K:=K) rfl) (pv 0) aG (fun _ _=>rfl)) aC))) (fun _ _=>rfl)))
   (aF (bU (i:=4) uP.nd rfl (Or.inl rfl) (bY lU (bY lU (bY LK (aW (bh (K:=K) rfl) (pv 0) aG (fun _ _=>rfl)) (aW (bh (K:=K) rfl) (pv 0) aG (fun _ _=>rfl))) (bY Fg (bY lU (pv 3) aG) aG)) (bY Fg (aW (bh (K:=K) rfl) (pv 0) aG (fun _ _=>rfl)) aG)))
   (aF (wj (bY pF (pv 4) (bY Ab (bY Fg (bY qD aG aG) (bY qD aG aG)) aG)) (wk (pv 0) aG set_list))
   (aK (bK (bY pF (bY Hs (aW (bh (K:=K) rfl) (pv 0) aG (fun _ _=>rfl)) (bY qD aG aG)) (pv 1))))))))), ?_⟩
  refine ⟨_,rfl,_,_,_,_,rfl,rfl,bN.of hR,rfl,(by show 0<=sizeLine;decide),fun q hq=> ?_⟩;have s1:=aH (o:=HO.lst []) hq;have hR1:=s1 _ _ hR;have hG1:=s1 _ _ hG;have hC1:=s1 _ _ hC;refine ⟨_,_,jW hG1,jW (ns:=[]) ak,shaped_ints _,shaped_ints _,_,rfl, ?_⟩;rw [if_pos rfl,qJ PyData.int Gb];refine dO (fun w=> ?_) (fun _=> ?_)
  ·have w:gs≠[]:=by simpa using w
   obtain ⟨x,xs,rfl⟩:∃x xs,gs=x::xs:=by
    cases gs with
    | nil=>exact absurd rfl w
    | cons x xs=>exact ⟨x,xs,rfl⟩
   have x0:=ZM x (by simp);refine ⟨_,rfl,_,_,_,_,rfl,rfl,bN.of hR1,rfl,_,_,_,_,rfl,rfl,bN.of hG1,(by show KZ (V.int x::xs.map V.int) 0=some (V.int x);simp [KZ,Km]), ?_⟩;refine ⟨_,rfl,_,rfl,_,_,rfl,rfl,⟨m0,m1⟩,(by show 1<=sizeLine;decide),fun q2 hq2=> ?_⟩;have s2:=aH (o:=HO.lst [V.int (x / m)]) hq2;refine ⟨_,rfl,_,rfl,_,_,rfl,rfl,Or.inr ⟨_,rfl,q2,_,_,rfl,rfl,ak, ?_, ?_, ?_,fun q3 ZD=> ?_⟩⟩
   ·split<;>decide
   ·split<;>decide
   ·rw [sizeLine_eq];split<;>simp
   have s3:=aH (o:=HO.lst (List.replicate (if decide (x≥m)=true then (1:Int) else 0).toNat [V.int (x / m)]).flatten) ZD;have WL:=s2.trans s3;refine ⟨_,rfl,_,_,_,_,rfl,rfl,bN.of (WL _ _ hR1),rfl,_,rfl,g,_,rfl,bN.of (WL _ _ hG1),fun q4 hq4=> ?_⟩;rw [show qK ((x::xs).map V.int) (some 1) none=xs.map V.int from IW _ 1];have s4:=aH (o:=HO.lst (xs.map V.int)) hq4;have fl:(List.replicate (if decide (x≥m)=true then (1:Int) else 0).toNat [V.int (x / m)]).flatten.length<=1:=by split<;>simp
   have xl:xs.length<=100:=by have:(x::xs).length<=100:=g1;simp at this;lia
   refine ⟨q3,q4,_,_,rfl,rfl,s4 _ _ ak,ak,by rw [sizeLine_eq,List.length_map];exact Nat.le_trans (Nat.add_le_add fl xl) (by decide),fun q5 ZC=> ?_⟩;have s5:=aH (o:=HO.lst ((List.replicate (if decide (x≥m)=true then (1:Int) else 0).toNat [V.int (x / m)]).flatten++xs.map V.int)) ZC;have Yu:=(WL.trans s4).trans s5;have hR5:=Yu _ _ hR1;refine ⟨_,rfl,_,_,_,_,rfl,rfl,hR5,rfl, ?_⟩;have kr:Kp r (upd (upd (upd (upd (upd H q (HO.lst [])) q2 (HO.lst [V.int (x / m)])) q3 (HO.lst (List.replicate (if decide (x≥m)=true then (1:Int) else 0).toNat [V.int (x / m)]).flatten)) q4 (HO.lst (xs.map V.int))) q5 (HO.lst ((List.replicate (if decide (x≥m)=true then (1:Int) else 0).toNat [V.int (x / m)]).flatten++xs.map V.int))) _:=Kp.set (o:= .lst [.ref q5,.ref c,.int p,.int t]);have nq5:q5≠r:=(au ((WL.trans s4) _ _ hR1) ZC).symm
   have eq5:(List.replicate (if decide (x≥m)=true then (1:Int) else 0).toNat [V.int (x / m)]).flatten++xs.map V.int=((if decide (x≥m)=true then [x / m] else [])++xs).map V.int:=by
    split<;>simp
   refine ⟨_,rfl,_,rfl,_,_,rfl,rfl,m0, ?_⟩
   refine k _ _ (Int.emod_nonneg _ (by lia)) (Int.emod_lt_of_pos _ m0) ⟨q5,c,(if decide (x≥m)=true then [x / m] else [])++xs,cs,p,t,ak, ?_,kr _ _ (Yu _ _ hC1) Zh,c0,c1, ?_,fun y hy=> ?_,p0,t0,t1,nq5,Zh⟩ ⟨(Kp.of_same (s1.trans Yu)).trans kr,fun y o ey ny f g' c' u v e=>by
    rw [ak] at e;cases e;exact ⟨au ((s1.trans (WL.trans s4)) _ _ ey) ZC,(f _ _ _ _ hR).2⟩⟩
   ·refine kr _ _ ?_ nq5
    rw [ak,eq5]
   ·rw [List.length_append]
    have:(if decide (x≥m)=true then [x / m] else []).length<=1:=by split<;>simp
    have:(x::xs).length<=100:=g1;simp only [List.length_cons] at this;lia
   ·rcases List.mem_append.mp hy with hy|hy
    ·split at hy
     ·have:y=x / m:=by simpa using hy
      rw [this];exact Int.ediv_nonneg x0 (by lia)
     ·cases hy
    ·exact ZM y (by simp [hy])
  ·have cp1:Jt 2 64:=⟨by decide,by decide,by decide⟩
   have cp2:Jt 2 63:=⟨by decide,by decide,by decide⟩;have cp4:Jt 2 40:=⟨by decide,by decide,by decide⟩;refine ⟨_,rfl,_,_,_,_,rfl,rfl,bN.of hR1,rfl,_,_,rfl,rfl,_,rfl,_,_,_,_,rfl,rfl,hR1,rfl, ?_⟩;have kr:Kp r (upd H q (HO.lst [])) (upd (upd H q (HO.lst [])) r (.lst [.ref g,.ref c,.int (p+1),.int t])):=Kp.set;have ZK:(upd (upd H q (HO.lst [])) r (.lst [.ref g,.ref c,.int (p+1),.int t])) r=some (.lst [.ref g,.ref c,.int (p+1),.int t]):=ak;have hC2:=kr _ _ hC1 Zh;have i0:0<=(p+1) % (cs.length:Int):=Int.emod_nonneg _ (by lia);have i1:(p+1) % (cs.length:Int)<cs.length:=Int.emod_lt_of_pos _ (by lia);refine ⟨_,rfl,_,_,_,_,rfl,rfl,bN.of ZK,rfl,_,rfl,_,_,_,_,rfl,rfl,bN.of ZK,rfl,_,rfl,_,_,_,_,rfl,rfl,bN.of ZK,rfl,c,_,rfl,.inl (bN.of hC2),_,_,rfl,rfl,by rw [List.length_map];lia,_,_,_,_,rfl,rfl,bN.of hC2,by rw [List.length_map];exact gF i0 i1, ?_⟩;generalize gI cs ((p+1) % (cs.length:Int))=told;refine ⟨_,rfl,_,_,_,_,rfl,rfl,bN.of ZK,rfl,_,rfl,_,_,_,_,rfl,rfl,bN.of ZK,rfl,_,_,rfl,rfl,Ri t0 t1,_,rfl,_,_,rfl,rfl,_,_,rfl,rfl,.inr ⟨by decide,by decide⟩,_,_,rfl,rfl,_,rfl,_,_,_,_,rfl,rfl,bN.of ZK,rfl,_,_,rfl,rfl,.inr ⟨by decide,by decide⟩,_,_,rfl,rfl, ?_⟩;refine ⟨_,rfl,_,_,rfl,rfl,cp1,_,_,rfl,rfl,cp2,_,_,rfl,rfl,.inr ⟨by decide,by decide⟩,_,_,rfl,rfl,_,_,rfl,rfl,(by show (0:Int)<2 ^ Int.toNat 64*2 ^ Int.toNat 63 - 1;decide),_,rfl,_,_,_,_,rfl,rfl,ZK,rfl, ?_⟩;refine ⟨_,rfl,_,_,_,_,rfl,rfl,bN.of ak,rfl,_,_,rfl,rfl,cp4,_,_,rfl,rfl,⟨by decide,by decide⟩,_,rfl,_,_,rfl,rfl,m0, ?_⟩
   refine k _ _ (Int.emod_nonneg _ (by lia)) (Int.emod_lt_of_pos _ m0) ⟨g,c,gs,cs,p+1,_,ak, ?_, ?_,c0,c1,g1,ZM,by lia,Int.emod_nonneg _ (by decide),Int.emod_lt_of_pos _ (by decide),ngr,Zh⟩ ⟨((Kp.of_same s1).trans kr).trans Kp.set,fun y o ey ny f g' c' u v e=>by
    rw [ak] at e;cases e;exact f _ _ _ _ hR⟩
   ·rw [aD ngr];exact kr _ _ hG1 ngr
   ·rw [aD Zh];exact hC2
def xH (i:Int) (n:Nat):Prop:=0<=i/\i<(n:Int)
instance (i:Int) (n:Nat):Decidable (xH i n):=inferInstanceAs (Decidable (_/\_))
def Ux (K:PySem.W.Frag):Sp:=fun vs H Q _=>∃i:Int,vs=[.int i]/\Q (.bl true) H
theorem Ht {f:Addr} {fd:FuncData} (F:kO K "is_whole" "is_whole" fY f fd) (Bt:um mg):bZ P w K mg base kY 1 f fd ["value"] (Ux K):=by
 refine F.ok Hi (fun vs H Q E h=> ?_) (fun cdv A outer s H vs Q E hr h=> ?_)
 ·obtain ⟨i,rfl,_⟩:=h
  rfl
 ·obtain ⟨i,rfl,k⟩:=h
  refine ⟨_,(aK (bK (qC (aQ (cX (K:=K) (cv:= .ty "int") (c:= .type "int") rfl rfl) (by rfl) Bt.bH bx (aj (pv 0) (aj (fD (v:= .ty "int") (by rfl) Bt.Jh Bf rfl) aC))) (qy (QJ (aQ (cX (K:=K) (cv:= .ty "bool") (c:= .type "bool") rfl rfl) (by rfl) Bt.bH bx (aj (pv 0) (aj (fD (v:= .ty "bool") (by rfl) Bt.Br vp rfl) aC)))))))), ?_⟩;refine ⟨_,rfl,_,_,true,rfl,.int i,xG K,true,rfl, ?_⟩;refine gJ ?_;exact ⟨_,rfl,_,_,false,rfl,.int i,pK K,false,rfl,k⟩
def rA (K:PySem.W.Frag):Sp:=fun vs H Q _=>∃(i:Int) (n:Nat),vs=[.int i,.int n]/\Q (.bl (decide (xH i n))) H
theorem Hu {f:Addr} {fd:FuncData} (F:kO K "is_below" "is_below" fZ f fd) (ug:FnAt P w K mg base 1 "is_whole" ["value"] (Ux K)):bZ P w K mg base kY 2 f fd ["value","count"] (rA K):=by
 refine F.ok Hj (fun vs H Q E h=> ?_) (fun cdv A outer s H vs Q E hr h=> ?_)
 ·obtain ⟨i,n,rfl,_⟩:=h
  rfl
 ·obtain ⟨i,n,rfl,k⟩:=h
  refine ⟨_,(aK (bK (qC (cA ug (hr.mono (by decide)) (by rfl) (aj (pv 0) aC)) (qy (QV WY Ac aG (pv 0) (pv 1)))))), ?_⟩;refine ⟨_,rfl,i,rfl,true,rfl, ?_⟩;refine gJ ?_;refine ⟨_,rfl,_,_,rfl,rfl,_,rfl, ?_⟩;refine dO (fun h0=> ?_) (fun h0=> ?_)
  ·refine ⟨_,rfl,_,_,rfl,rfl, ?_⟩
   have e:decide (xH i n)=decide (i<(n:Int)):=by
    have h0:=of_decide_eq_true h0;rw [Bool.eq_iff_iff,decide_eq_true_iff,decide_eq_true_iff];exact ⟨fun z=>z.2,fun z=>⟨h0,z⟩⟩
   show Q (.bl (decide (i<(n:Int)))) H;rw [←e];exact k
  ·have e:decide (xH i n)=false:=decide_eq_false fun z=>h0 (decide_eq_true z.1)
   rw [←e];exact k
def hF (r:Addr) (n:Int) (b sy:Addr) (st:Str):List (Str×V):=[("rows",.ref r),("at",.int n),("in_boxes",.ref b),("sayings",.ref sy),("state",.str st)]
structure qU where
 (h hx r b sy:Addr)
structure pU (CH:Addr) (H:Hp) (A:qU) (s:bO):Prop where
 h:H A.h=some (.ins CH A.hx (hF A.r s.pos A.b A.sy s.st))
 b:H A.b=some (.lst (s.bs.map V.int))
 y:H A.sy=some (.lst (s.sy.map V.int))
 N_:A.b≠A.sy
 bl:s.bs.length=8
def KH (A:qU) (H H':Hp):Prop:=∀x o,H x=some o->x≠A.h->x≠A.b->x≠A.sy->H' x=some o
theorem KH.of_same {A:qU} {H H':Hp} (k:Same H H'):KH A H H':=fun x o e _ _ _=>k _ _ e
theorem KH.trans {A:qU} {H H1 H2:Hp} (a:KH A H H1) (b:KH A H1 H2):KH A H H2:=fun x o e n1 n2 n3=>b x o (a x o e n1 n2 n3) n1 n2 n3
theorem KH.tR {A:qU} {H:Hp} {o:HO}:KH A H (upd H A.h o):=fun x u e n _ _=>by rw [aD n];exact e
theorem KH.Qq {A:qU} {H:Hp} {o:HO}:KH A H (upd H A.b o):=fun x u e _ n _=>by rw [aD n];exact e
theorem KH.Yr {A:qU} {H:Hp} {o:HO}:KH A H (upd H A.sy o):=fun x u e _ _ n=>by rw [aD n];exact e
theorem pU.Vs {CH:Addr} {H:Hp} {A:qU} {s:bO} (c:pU CH H A s):A.h≠A.b:=dX c.h c.b (by intro z;cases z)
theorem pU.W5 {CH:Addr} {H:Hp} {A:qU} {s:bO} (c:pU CH H A s):A.h≠A.sy:=dX c.h c.y (by intro z;cases z)
theorem pU.same {CH:Addr} {H H':Hp} {A:qU} {s:bO} (c:pU CH H A s) (k:Same H H'):pU CH H' A s:=⟨k _ _ c.h,k _ _ c.b,k _ _ c.y,c.N_,c.bl⟩
theorem pU.tup {CH:Addr} {H H':Hp} {A:qU} {s:bO} (c:pU CH H A s) (k:KH A H H'):∀x xs,H x=some (.tup xs)->H' x=some (.tup xs):=fun x xs e=>k _ _ e (dX e c.h (by intro z;cases z)) (dX e c.b (by intro z;cases z)) (dX e c.y (by intro z;cases z))
theorem pU.tR {CH:Addr} {H:Hp} {A:qU} {s:bO} (c:pU CH H A s) (n:Nat) (st:Str):pU CH (upd H A.h (.ins CH A.hx (hF A.r n A.b A.sy st))) A {s with pos:=n,st:=st}:=
 ⟨ak,by rw [aD c.Vs.symm];exact c.b,by rw [aD c.W5.symm];exact c.y,c.N_,c.bl⟩
theorem pU.Qq {CH:Addr} {H:Hp} {A:qU} {s:bO} (c:pU CH H A s) (bs:List Int) (l:bs.length=8):pU CH (upd H A.b (.lst (bs.map V.int))) A {s with bs:=bs}:=
 ⟨by rw [aD c.Vs];exact c.h,ak,by rw [aD c.N_.symm];exact c.y,c.N_,l⟩
theorem pU.Yr {CH:Addr} {H:Hp} {A:qU} {s:bO} (c:pU CH H A s) (ys:List Int):pU CH (upd H A.sy (.lst (ys.map V.int))) A {s with sy:=ys}:=
 ⟨by rw [aD c.W5];exact c.h,by rw [aD c.N_];exact c.b,ak,c.N_,c.bl⟩
theorem zW (r b sy:Addr) (n m:Int) (st:Str):cH "at" (.int m) (hF r n b sy st)=hF r m b sy st:=by rfl
theorem Fb (r b sy:Addr) (n:Int) (st st':Str):cH "state" (.str st') (hF r n b sy st)=hF r n b sy st':=by rfl
theorem FZ (n:Nat):(List.range n).filterMap (fun _=>some (V.int 0))=(List.replicate n 0).map V.int:=by
 induction n with
 | zero=>rfl
 | succ n ih=>rw [d9,ih,List.replicate_succ',List.map_append];rfl
theorem Vw {H H':Hp} {o p:Addr} (h:Kp o H H') (ne:p≠o) (n:H' p=none):H p=none:=by
 cases e:H p with
 | none=>rfl
 | some u=>rw [h _ _ e ne] at n;cases n
theorem ady:∀b:Fin 8,Builtin.Str.occurrences (Str.ofString "abcdefgh") (O1 b.val) 0 (Str.ofString "abcdefgh").length 1=[b.val]:=by decide +kernel
theorem S6 {b:Nat} (h:b<8):Builtin.Str.occurrences (Str.ofString "abcdefgh") (O1 b) 0 (Str.ofString "abcdefgh").length 1=[b]:=ady ⟨b,h⟩
def yh (CH:Addr) (K:PySem.W.Frag):Sp:=fun vs H Q _=>∃(a r dx:Addr),vs=[.ref a,.ref r]/\H a=some (.ins CH dx []) /\ ∀(b sy:Addr) (H':Hp),H b=none->H sy=none->b≠sy ->
 H' a=some (.ins CH dx (hF r 0 b sy "waits"))->H' b=some (.lst ((List.replicate 8 0).map V.int))->H' sy=some (.lst [])->Kp a H H'->Q .non H'
theorem Q_ {ao:Addr} {f:Addr} {fd:FuncData} (F:kO K "__init__" "Hand.__init__" fB f fd) (aN:iG K ao) (iD:Gv mg "BOXES" (.str "abcdefgh")):bZ P w K mg base kY 1 f fd ["self","rows"] (yh ao K):=by
 refine F.ok EY (fun vs H Q E h=> ?_) (fun cdv A outer s H vs Q E hr h=> ?_)
 ·obtain ⟨a,r,dx,rfl,_⟩:=h
  rfl
 ·obtain ⟨a,r,dx,rfl,ha,k⟩:=h
  refine ⟨_,(aF (cY (K:=K) rfl (pv 0) (pv 1) rfl)
   (aF (cY (K:=K) rfl (pv 0) aG rfl)
   (aF (cY (K:=K) rfl (pv 0) (gA rfl (N:=["box"]) (own:=["box"]) (caps:=[]) (bC.of (by kernel_rfl)) (YQ (gP (by rfl) iD.choose_spec.1 iD.choose_spec.2)) (fun _ _ _ _=>(bW (i:=0) (show List.Nodup (["box"]:List Str) by decide +kernel) rfl (Or.inl rfl))) (fun _ _ _ _=>fM) (fun _ _ _ _=>aG)) rfl)
   (aF (cY (K:=K) rfl (pv 0) (eO aC) rfl)
   (aK (cY (K:=K) rfl (pv 0) cV rfl)))))), ?_⟩
  refine ⟨_,rfl,_,rfl,a,ao,dx,[],rfl,ha,aN.cls,aN.qF,by decide, ?_⟩;refine ⟨_,rfl,a,ao,dx,_,rfl,ak,aN.cls,aN.wB,(by show 1<1000;decide), ?_⟩;refine ⟨_,rfl,fun D hD=> ?_⟩;refine Ow (fun _=>some (.int 0)) hD (by decide) (fun i c H1 G F hi s1 kG kF=>kF _ H1 (Same.refl _) rfl) (fun H1 s1 e1=> ?_);rw [FZ] at e1;refine ⟨_,rfl,a,ao,dx,_,rfl,s1 _ _ ak,aN.cls,aN.lV,(by show 2<1000;decide), ?_⟩;have naD:a≠D:=au ak hD;refine ⟨(by show 0<=sizeLine;decide),fun q hq=> ?_⟩;have naq:a≠q:=au ak hq;refine ⟨_,rfl,a,ao,dx,_,rfl,(by rw [aD naq];exact ak),aN.cls,aN.rH,(by show 3<1000;decide), ?_⟩;refine ⟨_,rfl,a,ao,dx,_,rfl,ak,aN.cls,aN.mK,(by show 4<1000;decide), ?_⟩;have hD0:H D=none:=by rw [aD naD.symm,aD naD.symm] at hD;exact hD
  have nDq:D≠q:=by
   intro e;rw [←e,aD naD.symm,e1] at hq;cases hq
  have hq0:H q=none:=by
   rw [aD naq.symm] at hq;cases e:H q with
   | none=>rfl
   | some o=>
     have:=s1 q o (by rw [aD naq.symm,aD naq.symm];exact e);rw [this] at hq;cases hq
  refine k D q _ hD0 hq0 nDq ?_ ?_ ?_ ?_
  ·rw [ak];rfl
  ·rw [aD naD.symm,aD naD.symm,aD nDq,aD naD.symm,e1];rfl
  ·rw [aD naq.symm,aD naq.symm,ak]
  ·intro x o e n
   have nq:x≠q:=au e hq0;rw [aD n,aD n,aD nq,aD n];exact s1 x o (by rw [aD n,aD n];exact e)
theorem Xv {x:V} {l:List V}:KZ (x::l) 0=some x:=gD (j:=0) rfl
theorem adB {x y z:V} {l:List V}:KZ (x::y::z::l) 2=some z:=gD (j:=2) rfl
def Jb (r:Rw):V:=if touch r then .int (DG r) else .non
def uJ (K:PySem.W.Frag):Sp:=fun vs H Q _=>∃(v:V) (r:Rw),vs=[v]/\Dat H v (CJ r) /\ ∀H',Same H H'->Q (Jb r) H'
theorem NZ {f:Addr} {fd:FuncData} (F:kO K "cell_of" "cell_of" iy f fd):bZ P w K mg base kY 1 f fd ["row"] (uJ K):=by
 refine F.ok JM (fun vs H Q E h=> ?_) (fun cdv A outer s H vs Q E hr h=> ?_)
 ·obtain ⟨v,r,rfl,_⟩:=h
  rfl
 ·obtain ⟨v,r,rfl,d,k⟩:=h
  obtain ⟨t,ws,rfl,ht,ps⟩:=MP d
  refine ⟨_,(aF (cU (bM h_ (aW (aZ (K:=K) rfl) (pv 0) aG (fun _ _=>rfl)) cV (bJ _)) (aK (bK (aW (aZ (K:=K) rfl) (pv 0) aG (fun _ _=>rfl)))) bQ)
   (aK (bK (nW (bM (JZ (K:=K) rfl) (aW (aZ (K:=K) rfl) (pv 0) aG (fun _ _=>rfl)) (jF (aj cV (aj cV aC))) (by with_unfolding_all rfl)) (aW (aZ (K:=K) rfl) (pv 0) aG (fun _ _=>rfl)) iZ)))), ?_⟩
  have cs:(∃c e,r = .store c e) \/ ∃(x:Str) (ys:List V),ws = .str x::ys/\x≠Str.ofString "store" /\ (x=Str.ofString "load" \/ x=Str.ofString "swap" -> ∃y z,ys=y :: .int (DG r)::z/\touch r=true)/\(x≠Str.ofString "load" -> x≠Str.ofString "swap" -> touch r=false):=by
   cases r with
   | store c e=>exact .inl ⟨c,e,rfl⟩
   | load b c=>exact .inr ⟨_,_,ps,by decide +kernel,fun _=>⟨_,_,rfl,rfl⟩,fun z=>absurd rfl z⟩
   | swap b c e=>
     obtain ⟨x,e1,_⟩:=ps;exact .inr ⟨_,_,e1,by decide +kernel,fun _=>⟨_,_,rfl,rfl⟩,fun _ z=>absurd rfl z⟩
   | Fx b e=>
     obtain ⟨x,e1,_⟩:=ps;exact .inr ⟨_,_,e1,by decide +kernel,fun z=>absurd z (by decide +kernel),fun _ _=>rfl⟩
   | say e=>
     obtain ⟨x,e1,_⟩:=ps;exact .inr ⟨_,_,e1,by decide +kernel,fun z=>absurd z (by decide +kernel),fun _ _=>rfl⟩
   | go n=>exact .inr ⟨_,_,ps,by decide +kernel,fun z=>absurd z (by decide +kernel),fun _ _=>rfl⟩
   | GR q e f n=>
     obtain ⟨x,y,e1,_⟩:=ps;exact .inr ⟨_,_,e1,by decide +kernel,fun z=>absurd z (by decide +kernel),fun _ _=>rfl⟩
  rcases cs with ⟨c,e,rfl⟩|⟨x,ys,rfl,nx,h1,h2⟩
  ·obtain ⟨x,rfl,_⟩:=ps
   refine ⟨_,rfl,_,_,_,_,rfl,rfl,cN.of ht,rfl,rfl,_,rfl, ?_⟩;refine dO (fun _=> ?_) (fun z=>absurd (decide_eq_true rfl) z);exact ⟨_,rfl,_,_,_,_,rfl,rfl,cN.of ht,rfl,k H (Same.refl _)⟩
  refine ⟨_,rfl,_,_,_,_,rfl,rfl,cN.of ht,Xv,rfl,_,rfl, ?_⟩;refine dO (fun z=>absurd (by simpa using of_decide_eq_true z) nx) (fun _=> ?_);refine ⟨_,rfl,_,_,_,_,rfl,rfl,cN.of ht,Xv,(by show 2<=sizeLine;decide),fun p hp=> ?_⟩;have sp:=aH (o:=HO.tup [V.str (Str.ofString "load"),V.str (Str.ofString "swap")]) hp;refine ⟨p,_,rfl,.inr (cN.of ak),rfl,rfl,_,rfl, ?_⟩
  by_cases z:x=Str.ofString "load" \/ x=Str.ofString "swap"
  ·obtain ⟨y,w',rfl,tr⟩:=h1 z
   refine dO (fun _=> ?_) (fun q=>absurd ?_ q)
   ·refine ⟨_,rfl,_,_,_,_,rfl,rfl,cN.of (sp _ _ ht),adB, ?_⟩
    have:=k _ sp;unfold Jb at this;rw [if_pos tr] at this;exact this
   ·rcases z with rfl|rfl<;>decide +kernel
  ·have n1:x≠Str.ofString "load" :=fun q=>z (.inl q)
   have n2:x≠Str.ofString "swap" :=fun q=>z (.inr q);have tr:=h2 n1 n2;refine dO (fun q=>absurd q ?_) (fun _=> ?_)
   ·simp [inV,V4,n1.symm,n2.symm]
   ·have:=k _ sp
    unfold Jb at this;rw [if_neg (by rw [tr];decide)] at this;exact this
def Iu:K8->Nat
 | .one _=>1
 | .two _ _ _=>2
def uE (CH:Addr) (n:Nat) (K:PySem.W.Frag):Sp:=fun vs H Q _=>∃(A:qU) (s:bO) (v:V) (e:K8),vs=[.ref A.h,v]/\pU CH H A s/\Dat H v (Iv e)/\Av e/\Iu e<=n/\Q (.int (vx s.bs e)) H
theorem Vk {ao:Addr} {f:Addr} {fd:FuncData} (F:kO K "value_of" "Hand.value_of" cj f fd):bZ P w K mg base kY 1 f fd ["self","part"] (uE ao 0 K):=by
 refine F.ok iu (fun vs H Q E h=> ?_) (fun cdv A outer s H vs Q E hr h=> ?_)
 ·obtain ⟨A,s,v,e,rfl,_,_,_,z,_⟩:=h
  cases e<;>simp [Iu] at z
 ·obtain ⟨A,s,v,e,rfl,_,_,_,z,_⟩:=h
  cases e<;>simp [Iu] at z
theorem LQ {ao:Addr} {n:Nat} {f:Addr} {fd:FuncData} (F:kO K "value_of" "Hand.value_of" cj f fd) (cu:MethAt P w K mg base (n+1) ao "value_of" ["self","part"] (uE ao n K)) (aN:iG K ao) (iD:Gv mg "BOXES" (.str "abcdefgh")) (jr:Gv mg "ROUND" (.int 1000)):bZ P w K mg base kY (n+1+1) f fd ["self","part"] (uE ao (n+1) K):=by
 refine F.ok iu (fun vs H Q E h=> ?_) (fun cdv A outer s H vs Q E hr h=> ?_)
 ·obtain ⟨A,s,v,e,rfl,_⟩:=h
  rfl
 ·obtain ⟨B,z,v,e,rfl,c,d,eo,dp,k⟩:=h
  refine ⟨_,(aF (cU (bM h_ (aW (aZ (K:=K) rfl) (pv 1) aG (fun _ _=>rfl)) cV (bJ _)) (aK (bK (bY pF (aW (aZ (K:=K) rfl) (pv 1) aG (fun _ _=>rfl)) (gP (by rfl) jr.choose_spec.1 jr.choose_spec.2)))) bQ)
   (aF (cU (bM h_ (aW (aZ (K:=K) rfl) (pv 1) aG (fun _ _=>rfl)) cV (bJ _)) (aK (bK (aW (bh (K:=K) rfl) (bB (K:=K) rfl (pv 0) rfl) (Aa (K:=K) rfl PySem.F.plainAttrs_str PySem.F.slot_str_index PySem.F.type_str_index CZ (gP (by rfl) iD.choose_spec.1 iD.choose_spec.2) (aj (aW (aZ (K:=K) rfl) (pv 1) aG (fun _ _=>rfl)) aC)) (fun _ _=>rfl)))) bQ)
   (aF (bU (i:=2) iu.nd rfl (Or.inl rfl) (cZ cu aN.cls (hr.mono (Nat.le_refl _)) (pv 0) (aj (aW (aZ (K:=K) rfl) (pv 1) aG (fun _ _=>rfl)) aC)))
   (aF (bU (i:=3) iu.nd rfl (Or.inl rfl) (cZ cu aN.cls (hr.mono (Nat.le_refl _)) (pv 0) (aj (aW (aZ (K:=K) rfl) (pv 1) aG (fun _ _=>rfl)) aC)))
   (aK (bK (bY pF (nW (bM h_ (aW (aZ (K:=K) rfl) (pv 1) aG (fun _ _=>rfl)) cV (bJ _)) (bY lU (pv 2) (pv 3)) (bY Ab (pv 2) (pv 3))) (gP (by rfl) jr.choose_spec.1 jr.choose_spec.2)))))))), ?_⟩
  match e,d,eo,dp,k with
  | .one (.num m),d,eo,dp,k=>
    obtain ⟨t,rfl,ht⟩:=Xu (x:= .num m) d;refine ⟨_,rfl,_,_,_,_,rfl,rfl,cN.of ht,rfl,rfl,_,rfl, ?_⟩;refine dO (fun _=> ?_) (fun z=>absurd (decide_eq_true rfl) z);exact ⟨_,rfl,_,_,_,_,rfl,rfl,cN.of ht,rfl,_,_,rfl,rfl,(by show (0:Int)<1000;decide),k⟩
  | .one (.box b),d,eo,dp,k=>
    obtain ⟨t,rfl,ht⟩:=Xu (x:= .box b) d;refine ⟨_,rfl,_,_,_,_,rfl,rfl,cN.of ht,rfl,rfl,_,rfl, ?_⟩;refine dO (fun z=>absurd (of_decide_eq_true z) (by decide)) (fun _=> ?_);refine ⟨_,rfl,_,_,_,_,rfl,rfl,cN.of ht,rfl,rfl,_,rfl, ?_⟩;refine dO (fun _=> ?_) (fun z=>absurd (decide_eq_true rfl) z);have hb:b<8:=eo;refine ⟨_,rfl,B.h,ao,B.hx,_,_,rfl,c.h,aN.cls,aN.lV,rfl,rfl,_,rfl,_,_,_,_,rfl,rfl,cN.of ht,rfl,_,_,b,[],rfl,rfl,S6 hb,_,_,_,_,rfl,rfl,bN.of c.b,gD (v:= .int ((z.bs[b]?).getD 0)) ?_,k⟩;have hl:b<z.bs.length:=by rw [c.bl];exact hb
    rw [List.getElem?_map,List.getElem?_eq_getElem hl];rfl
  | .two p x y,d,eo,dp,k=>
    obtain ⟨t,u,w',rfl,ht,du,dw⟩:=aaf d;have e1:Av (.one x)/\Av (.one y):=eo
    have dn:1<=n:=by
     have:2<=n+1:=dp;lia
    have np:∀q:Bool,(Str.ofString "number")≠(if q then Str.ofString "plus" else Str.ofString "minus"):=by decide +kernel
    have nb:∀q:Bool,(Str.ofString "box")≠(if q then Str.ofString "plus" else Str.ofString "minus"):=by decide +kernel
    refine ⟨_,rfl,_,_,_,_,rfl,rfl,cN.of ht,rfl,rfl,_,rfl, ?_⟩;refine dO (fun z=>absurd (by simpa using (of_decide_eq_true z).symm) (np p)) (fun _=> ?_);refine ⟨_,rfl,_,_,_,_,rfl,rfl,cN.of ht,rfl,rfl,_,rfl, ?_⟩;refine dO (fun z=>absurd (by simpa using (of_decide_eq_true z).symm) (nb p)) (fun _=> ?_);refine ⟨_,rfl,B.h,B.hx,_,rfl,c.h,rfl,_,rfl,_,_,_,_,rfl,rfl,cN.of ht,rfl,B,z,u,.one x,rfl,c,du,e1.1,dn, ?_⟩;refine ⟨_,rfl,B.h,B.hx,_,rfl,c.h,rfl,_,rfl,_,_,_,_,rfl,rfl,cN.of ht,rfl,B,z,w',.one y,rfl,c,dw,e1.2,dn, ?_⟩;refine ⟨_,rfl,_,_,_,_,rfl,rfl,cN.of ht,rfl,rfl,_,rfl, ?_⟩;cases p with
    | true=>
      refine dO (fun _=> ?_) (fun z=>absurd (decide_eq_true rfl) z);exact ⟨_,rfl,_,rfl,_,_,rfl,rfl,_,_,rfl,rfl,(by show (0:Int)<1000;decide),k⟩
    | false=>
      refine dO (fun z=>absurd (of_decide_eq_true z) (by decide)) (fun _=> ?_);exact ⟨_,rfl,_,rfl,_,_,rfl,rfl,_,_,rfl,rfl,(by show (0:Int)<1000;decide),k⟩
theorem Ot (e:K8):Iu e<=2:=by cases e<;>simp [Iu]
def Es (CH:Addr) (K:PySem.W.Frag):Sp:=fun vs H Q _=>∃(A:qU) (s:bO) (v:V) (q:Bool) (e f:K8) (n:Nat),vs=[.ref A.h,v]/\pU CH H A s/\Dat H v (CJ (.GR q e f n))/\Av e/\Av f/\Q (.bl (wG s.bs (.GR q e f n))) H
theorem Q9 {ao:Addr} {f:Addr} {fd:FuncData} (F:kO K "holds" "Hand.holds" d8 f fd) (cu:MethAt P w K mg base 3 ao "value_of" ["self","part"] (uE ao 2 K)) (aN:iG K ao):bZ P w K mg base kY 4 f fd ["self","row"] (Es ao K):=by
 refine F.ok m9 (fun vs H Q E h=> ?_) (fun cdv A outer s H vs Q E hr h=> ?_)
 ·obtain ⟨A,s,v,q,e,f,n,rfl,_⟩:=h
  rfl
 ·obtain ⟨B,z,v,q,e,f,n,rfl,c,d,o1,o2,k⟩:=h
  refine ⟨_,(aF (bU (i:=2) m9.nd rfl (Or.inl rfl) (cZ cu aN.cls (hr.mono (by decide)) (pv 0) (aj (aW (aZ (K:=K) rfl) (pv 1) aG (fun _ _=>rfl)) aC)))
   (aF (bU (i:=3) m9.nd rfl (Or.inl rfl) (cZ cu aN.cls (hr.mono (by decide)) (pv 0) (aj (aW (aZ (K:=K) rfl) (pv 1) aG (fun _ _=>rfl)) aC)))
   (aK (bK (nW (bM h_ (aW (aZ (K:=K) rfl) (pv 1) aG (fun _ _=>rfl)) cV (bJ _)) (gB h_ (pv 2) (pv 3) (bJ _)) (gB Ac (pv 2) (pv 3) (bJ _))))))), ?_⟩
  obtain ⟨t,ws,rfl,ht,x,y,rfl,dx,dy⟩:=MP d;refine ⟨_,rfl,B.h,B.hx,_,rfl,c.h,rfl,_,rfl,_,_,_,_,rfl,rfl,cN.of ht,rfl,B,z,x,e,rfl,c,dx,o1,Ot e, ?_⟩;refine ⟨_,rfl,B.h,B.hx,_,rfl,c.h,rfl,_,rfl,_,_,_,_,rfl,rfl,cN.of ht,rfl,B,z,y,f,rfl,c,dy,o2,Ot f, ?_⟩;refine ⟨_,rfl,_,_,_,_,rfl,rfl,cN.of ht,rfl,rfl,_,rfl, ?_⟩;cases q with
  | true=>
    refine dO (fun _=> ?_) (fun z=>absurd (decide_eq_true rfl) z);refine ⟨_,rfl,_,rfl,rfl, ?_⟩
    have:decide (V.int (vx z.bs e)=V.int (vx z.bs f))=wG z.bs (.GR true e f n):=by
     show _=decide (vx z.bs e=vx z.bs f);rw [Bool.eq_iff_iff,decide_eq_true_iff,decide_eq_true_iff];exact ⟨fun z=>V.int.inj z,fun z=>by rw [z]⟩
    rw [this];exact k
  | false=>
    refine dO (fun z=>absurd (of_decide_eq_true z) (by decide)) (fun _=> ?_);exact ⟨_,rfl,_,rfl,_,_,rfl,rfl,k⟩
def Ek (CH:Addr) (K:PySem.W.Frag):Sp:=fun vs H Q _=>∃(A:qU) (s:bO) (b:Nat) (i:Int),vs=[.ref A.h,.str (O1 b),.int i]/\pU CH H A s/\b<8/\Q .non (upd H A.b (.lst ((s.bs.set b i).map V.int)))
theorem Vn {ao:Addr} {f:Addr} {fd:FuncData} (F:kO K "take" "Hand.take" fu f fd) (aN:iG K ao) (iD:Gv mg "BOXES" (.str "abcdefgh")):bZ P w K mg base kY 1 f fd ["self","box","number"] (Ek ao K):=by
 refine F.ok Ez (fun vs H Q E h=> ?_) (fun cdv A outer s H vs Q E hr h=> ?_)
 ·obtain ⟨A,s,b,i,rfl,_⟩:=h
  rfl
 ·obtain ⟨B,z,b,i,rfl,c,hb,k⟩:=h
  refine ⟨_,(aK (wj (pv 2) (wk (bB (K:=K) rfl (pv 0) rfl) (Aa (K:=K) rfl PySem.F.plainAttrs_str PySem.F.slot_str_index PySem.F.type_str_index CZ (gP (by rfl) iD.choose_spec.1 iD.choose_spec.2) (aj (pv 1) aC)) set_list))), ?_⟩;refine ⟨_,rfl,_,rfl,B.h,ao,B.hx,_,_,rfl,c.h,aN.cls,aN.lV,rfl,rfl,_,rfl,_,_,b,[],rfl,rfl,S6 hb, ?_⟩;rw [List.map_set] at k;exact ⟨B.b,_,_,b,rfl,rfl,c.b,(by rw [List.length_map,c.bl];unfold Km;rw [if_pos (by lia),if_pos (by lia)];simp),k⟩
def Yn (CH:Addr) (K:PySem.W.Frag):Sp:=fun vs H Q _=>∃(A:qU) (s:bO) (v:V) (r:Rw) (m:Nat),vs=[.ref A.h,v]/\pU CH H A s/\Dat H v (CJ r)/\abp m r/\touch r=false/\s.sy.length<1000000 /\ ∀H',pU CH H' A (rY s r)->KH A H H'->Q .non H'
theorem abG {ao:Addr} {f:Addr} {fd:FuncData} (F:kO K "do" "Hand.do" iz f fd) (cu:MethAt P w K mg base 3 ao "value_of" ["self","part"] (uE ao 2 K)) (qT:MethAt P w K mg base 1 ao "take" ["self","box","number"] (Ek ao K)) (GJ:MethAt P w K mg base 4 ao "holds" ["self","row"] (Es ao K)) (aN:iG K ao):bZ P w K mg base kY 5 f fd ["self","row"] (Yn ao K):=by
 refine F.ok JN (fun vs H Q E h=> ?_) (fun cdv A outer s H vs Q E hr h=> ?_)
 ·obtain ⟨A,s,v,r,m,rfl,_⟩:=h
  rfl
 ·obtain ⟨B,z,v,r,m,rfl,c,d,ro,tr,sl,k⟩:=h
  refine ⟨_,(aF (zZ (K:=K) rfl (pv 0) aG FJ)
   (aK (cU (bM h_ (aW (aZ (K:=K) rfl) (pv 1) aG (fun _ _=>rfl)) cV (bJ _)) (aK (fO (cZ qT aN.cls (hr.mono (by decide)) (pv 0) (aj (aW (aZ (K:=K) rfl) (pv 1) aG (fun _ _=>rfl)) (aj (cZ cu aN.cls (hr.mono (by decide)) (pv 0) (aj (aW (aZ (K:=K) rfl) (pv 1) aG (fun _ _=>rfl)) aC)) aC))))) (aK (cU (bM h_ (aW (aZ (K:=K) rfl) (pv 1) aG (fun _ _=>rfl)) cV (bJ _)) (aK (fO (jG (K:=K) rfl (bB (K:=K) rfl (pv 0) rfl) (aj (cZ cu aN.cls (hr.mono (by decide)) (pv 0) (aj (aW (aZ (K:=K) rfl) (pv 1) aG (fun _ _=>rfl)) aC)) aC)))) (aK (cU (PW.pt (pP (bM h_ (aW (aZ (K:=K) rfl) (pv 1) aG (fun _ _=>rfl)) cV (bJ _)) (lQ (gw (dI (cZ GJ aN.cls (hr.mono (by decide)) (pv 0) (aj (pv 1) aC))))))) (aK (cY (K:=K) rfl (pv 0) (aW (aZ (K:=K) rfl) (pv 1) (Lx Eh aG) (fun _ _=>rfl)) rfl)) bQ))))))), ?_⟩
  refine ⟨_,rfl,B.h,ao,B.hx,_,_,rfl,c.h,aN.cls,aN.wB,rfl,_,_,rfl,rfl,B.hx,_,c.h,(by show 5<1000;decide), ?_⟩;rw [zW];have c1:=c.tR (z.pos+1) z.st;have k1:KH B H (upd H B.h (.ins ao B.hx (hF B.r ((z.pos+1:Nat):Int) B.b B.sy z.st))):=KH.tR;have d1:=d.keep (c.tup k1) _ (RJ r);dsimp only;rw [show ((z.pos:Nat):Int)+1=((z.pos+1:Nat):Int) by lia];generalize (upd H B.h (.ins ao B.hx (hF B.r ((z.pos+1:Nat):Int) B.b B.sy z.st)))=H1 at c1 k1 d1 ⊢;obtain ⟨t,ws,rfl,ht,ps⟩:=MP d1;cases r with
  | load b cc=>cases tr
  | store cc e=>cases tr
  | swap b cc e=>cases tr
  | Fx b e=>
    obtain ⟨x,rfl,dx⟩:=ps;refine ⟨_,rfl,_,_,_,_,rfl,rfl,cN.of ht,rfl,rfl,_,rfl, ?_⟩;refine dO (fun _=> ?_) (fun z=>absurd (decide_eq_true rfl) z);refine ⟨_,rfl,B.h,B.hx,_,rfl,c1.h,rfl,_,rfl,_,_,_,_,rfl,rfl,cN.of ht,rfl,_,rfl,B.h,B.hx,_,rfl,c1.h,rfl,_,rfl,_,_,_,_,rfl,rfl,cN.of ht,rfl,B,_,x,e,rfl,c1,dx,ro.2,Ot e, ?_⟩;exact ⟨B,_,b,_,rfl,c1,ro.1,k _ (c1.Qq _ (by rw [List.length_set];exact c1.bl)) (k1.trans KH.Qq)⟩
  | say e=>
    obtain ⟨x,rfl,dx⟩:=ps;refine ⟨_,rfl,_,_,_,_,rfl,rfl,cN.of ht,rfl,rfl,_,rfl, ?_⟩;refine dO (fun z=>absurd (of_decide_eq_true z) (by decide)) (fun _=> ?_);refine ⟨_,rfl,_,_,_,_,rfl,rfl,cN.of ht,rfl,rfl,_,rfl, ?_⟩;refine dO (fun _=> ?_) (fun z=>absurd (decide_eq_true rfl) z);refine ⟨_,rfl,B.h,ao,B.hx,_,_,rfl,c1.h,aN.cls,aN.rH,rfl,.inl ⟨rfl,_,bN.of c1.y⟩,_,rfl,B.h,B.hx,_,rfl,c1.h,rfl,_,rfl,_,_,_,_,rfl,rfl,cN.of ht,rfl,B,_,x,e,rfl,c1,dx,ro,Ot e, ?_⟩;refine ⟨_,_,_,rfl,rfl,c1.y,(by rw [List.length_map,sizeLine_eq];show z.sy.length<_;lia), ?_⟩;have:=k _ (c1.Yr (z.sy++[vx z.bs e])) (k1.trans KH.Yr);rw [List.map_append] at this;exact this
  | go n=>
    obtain rfl:=ps;refine ⟨_,rfl,_,_,_,_,rfl,rfl,cN.of ht,rfl,rfl,_,rfl, ?_⟩;refine dO (fun z=>absurd (of_decide_eq_true z) (by decide)) (fun _=> ?_);refine ⟨_,rfl,_,_,_,_,rfl,rfl,cN.of ht,rfl,rfl,_,rfl, ?_⟩;refine dO (fun z=>absurd (of_decide_eq_true z) (by decide)) (fun _=> ?_);refine ⟨_,rfl,_,_,_,_,rfl,rfl,cN.of ht,rfl,rfl,_,rfl, ?_⟩;refine dO (fun _=> ?_) (fun z=>absurd (decide_eq_true rfl) z);refine gJ ?_;refine ⟨_,rfl,_,rfl,_,_,_,_,rfl,rfl,cN.of ht,rfl,_,rfl,B.h,ao,B.hx,_,rfl,c1.h,aN.cls,aN.wB,(by show 5<1000;decide), ?_⟩;rw [zW];exact k _ (c1.tR n z.st) (k1.trans KH.tR)
  | GR q e f n=>
    obtain ⟨x,y,rfl,dx,dy⟩:=ps;refine ⟨_,rfl,_,_,_,_,rfl,rfl,cN.of ht,rfl,rfl,_,rfl, ?_⟩;refine dO (fun z=>absurd (of_decide_eq_true z) (by decide)) (fun _=> ?_);refine ⟨_,rfl,_,_,_,_,rfl,rfl,cN.of ht,rfl,rfl,_,rfl, ?_⟩;refine dO (fun z=>absurd (of_decide_eq_true z) (by decide)) (fun _=> ?_);refine ⟨_,rfl,_,_,_,_,rfl,rfl,cN.of ht,rfl,rfl,_,rfl, ?_⟩;refine dO (fun z=>absurd (of_decide_eq_true z) (by decide)) (fun _=> ?_);refine ⟨_,rfl,B.h,B.hx,_,rfl,c1.h,rfl,_,rfl,B,_,_,q,e,f,n,rfl,c1,d1,ro.1,ro.2,_,rfl, ?_⟩;cases hh:wG z.bs (.GR q e f n) with
    | true=>
      refine dG ?_;refine k _ ?_ k1;show pU ao H1 B {z with pos:=if wG z.bs (.GR q e f n) then z.pos+1 else n};rw [hh];exact c1
    | false=>
      refine gJ ?_;refine ⟨_,rfl,_,rfl,_,_,_,_,rfl,rfl,cN.of ht,rfl,_,rfl,B.h,ao,B.hx,_,rfl,c1.h,aN.cls,aN.wB,(by show 5<1000;decide), ?_⟩;rw [zW];refine k _ ?_ (k1.trans KH.tR);show pU ao _ B {z with pos:=if wG z.bs (.GR q e f n) then z.pos+1 else n};rw [hh];exact c1.tR n z.st
def fU (H:Hp) (r:Addr) (m:Nat) (rws:List Rw):Prop:=∃ts,H r=some (.lst ts)/\aR H ts (rws.map CJ)/\(∀x∈rws,abp m x)/\rws.length<=1000
theorem Ii (rws:List Rw):tX (rws.map CJ)=true:=cg CJ RJ rws
theorem fU.keep {H H':Hp} {r:Addr} {m:Nat} {rws:List Rw} (h:fU H r m rws) (k:∀o,H r=some o->H' r=some o) (t:∀x xs,H x=some (.tup xs)->H' x=some (.tup xs)):fU H' r m rws:=by
 obtain ⟨ts,e,d,q⟩:=h;exact ⟨ts,k _ e,d.keep t _ (Ii rws),q⟩
theorem fU.same {H H':Hp} {r:Addr} {m:Nat} {rws:List Rw} (h:fU H r m rws) (k:Same H H'):fU H' r m rws:=h.keep (fun o e=>k _ _ e) k.tups
def Ep (CH:Addr) (K:PySem.W.Frag):Sp:=fun vs H Q _=>∃(A:qU) (s:bO) (m:Nat),vs=[.ref A.h]/\pU CH H A s/\fU H A.r m s.rws/\A.r≠A.b/\A.r≠A.sy/\s.sy.length<900000 /\ ∀H',pU CH H' A (lead s)->KH A H H'->Q .non H'
theorem Vq {ao:Addr} {f:Addr} {fd:FuncData} (F:kO K "lead_on" "Hand.lead_on" cR f fd) (wV:FnAt P w K mg base 1 "cell_of" ["row"] (uJ K)) (O7:MethAt P w K mg base 5 ao "do" ["self","row"] (Yn ao K)) (aN:iG K ao) (gU:Gv mg "MOST_UNTOUCHING" (.int 60)) (Bt:um mg):bZ P w K mg base kY 6 f fd ["self"] (Ep ao K):=by
 refine F.ok kE (fun vs H Q E h=> ?_) (fun cdv A outer s H vs Q E hr h=> ?_)
 ·obtain ⟨A,s,m,rfl,_⟩:=h
  rfl
 ·obtain ⟨B,s,m,rfl,c,R,nrb,nry,sl,k⟩:=h
  refine ⟨_,(aF (bU (i:=1) kE.nd rfl (Or.inl rfl) aG)
   (aF (Qz PassesOwn.never (PW.pt (zV (bM Ac (bB (K:=K) rfl (pv 0) rfl) (aQ (bw (K:=K) rfl) (by rfl) Bt.gK dR (aj (bB (K:=K) rfl (pv 0) rfl) aC)) (bJ _)) (yq (bM Fi (cA wV (hr.mono (by decide)) (by rfl) (aj (aW (bh (K:=K) rfl) (bB (K:=K) rfl (pv 0) rfl) (bB (K:=K) rfl (pv 0) rfl) (fun _ _=>rfl)) aC)) iZ (bJ _))))) (aF (cU (bM h_ (pv 1) (gP (by rfl) gU.choose_spec.1 gU.choose_spec.2) (bJ _)) (aF (cY (K:=K) rfl (pv 0) cV rfl)
   (aK U_)) bQ)
   (aF (fO (cZ O7 aN.cls (hr.mono (by decide)) (pv 0) (aj (aW (bh (K:=K) rfl) (bB (K:=K) rfl (pv 0) rfl) (bB (K:=K) rfl (pv 0) rfl) (fun _ _=>rfl)) aC)))
   (aK (YL (i:=1) kE.nd rfl (Or.inl rfl) aG FJ)))))
   (aK (cY (K:=K) rfl (pv 0) (nW (bM Ac (bB (K:=K) rfl (pv 0) rfl) (aQ (bw (K:=K) rfl) (by rfl) Bt.gK dR (aj (bB (K:=K) rfl (pv 0) rfl) aC)) (bJ _)) cV cV) rfl)))), ?_⟩
  have nrh:B.r≠B.h:=by
   obtain ⟨ts,e,_⟩:=R;exact dX e c.h (by intro z;cases z)
  refine ⟨fun n σ H1=>∃(d:Nat) (z:bO),σ=[some (.ref B.h),some (.int d)]/\d<=60/\n=60 - d/\pU ao H1 B z/\KH B H H1/\led (60 - d) z=lead s/\z.rws=s.rws/\z.sy.length<=s.sy.length+d,
   ⟨60,0,s,rfl,by decide,rfl,c,KH.of_same (Same.refl _),rfl,rfl,Nat.le_refl _⟩,fun n σ H1 hσ=> ?_⟩
  obtain ⟨d,z,rfl,d60,rfl,c1,k1,hl,zr,zs⟩:=hσ
  have R1:fU H1 B.r m z.rws:=by
   rw [zr];exact R.keep (fun o e=>k1 _ _ e nrh nrb nry) (c.tup k1)
  obtain ⟨ts,hts,dts,ro,rl⟩:=R1;have ln:ts.length=z.rws.length:=by rw [dts.length,List.length_map]
  refine ⟨_,rfl,B.h,ao,B.hx,_,_,rfl,c1.h,aN.cls,aN.wB,rfl,_,rfl,B.h,ao,B.hx,_,_,rfl,c1.h,aN.cls,aN.qF,rfl,B.r,_,rfl,.inl (bN.of hts),_,_,rfl,rfl,_,rfl, ?_⟩;cases er:z.rws[z.pos]? with
  | none=>
    have ge:z.rws.length<=z.pos:=List.getElem?_eq_none_iff.mp er;have lf:¬decide (((z.pos:Nat):Int)<((ts.length:Nat):Int))=true:=by rw [ln];simp;lia
    refine dO (fun q=>absurd q lf) (fun _=> ?_);refine dG ?_;refine ⟨_,rfl,B.h,ao,B.hx,_,_,rfl,c1.h,aN.cls,aN.wB,rfl,_,rfl,B.h,ao,B.hx,_,_,rfl,c1.h,aN.cls,aN.qF,rfl,B.r,_,rfl,.inl (bN.of hts),_,_,rfl,rfl,_,rfl, ?_⟩;refine dO (fun q=>absurd q lf) (fun _=> ?_);refine ⟨_,rfl,B.h,ao,B.hx,_,rfl,c1.h,aN.cls,aN.mK,(by show 5<1000;decide), ?_⟩;rw [Fb];refine k _ ?_ (k1.trans KH.tR)
    have:lead s={z with st:= "ends" }:=by
     rw [←hl];cases e60:60 - d<;>simp only [led,er]
    rw [this];exact c1.tR z.pos "ends"
  | some r=>
    have lt:z.pos<z.rws.length:=(List.getElem?_eq_some_iff.mp er).1;have lT:decide (((z.pos:Nat):Int)<((ts.length:Nat):Int))=true:=by rw [ln];simp;lia
    obtain ⟨v,ev,dv⟩:=dts.getD (i:=z.pos) (d:=CJ r) (by rw [List.getElem?_map,er];rfl);refine dO (fun _=> ?_) (fun q=>absurd lT q);refine ⟨_,rfl,B.h,ao,B.hx,_,_,rfl,c1.h,aN.cls,aN.qF,rfl,_,rfl,B.h,ao,B.hx,_,_,rfl,c1.h,aN.cls,aN.wB,rfl,_,_,_,_,rfl,rfl,bN.of hts,gD ev,v,r,rfl,dv,fun H2 s2=>⟨rfl,_,rfl, ?_⟩⟩;have c2:=c1.same s2;have ab7:=s2 _ _ hts;have k2:=k1.trans (KH.of_same (A:=B) s2);cases tr:touch r with
    | true=>
      refine dO (fun q=>absurd (of_decide_eq_true q) (by unfold Jb;rw [if_pos tr];intro z;cases z)) (fun _=> ?_);refine ⟨_,rfl,B.h,ao,B.hx,_,_,rfl,c2.h,aN.cls,aN.wB,rfl,_,rfl,B.h,ao,B.hx,_,_,rfl,c2.h,aN.cls,aN.qF,rfl,B.r,_,rfl,.inl (bN.of ab7),_,_,rfl,rfl,_,rfl, ?_⟩;refine dO (fun _=> ?_) (fun q=>absurd lT q);refine ⟨_,rfl,B.h,ao,B.hx,_,rfl,c2.h,aN.cls,aN.mK,(by show 5<1000;decide), ?_⟩;rw [Fb];refine k _ ?_ (k2.trans KH.tR)
      have:lead s={z with st:= "waits" }:=by
       rw [←hl];cases e60:60 - d<;>simp only [led,er,tr,if_true]
      rw [this];exact c2.tR z.pos "waits"
    | false=>
      refine dO (fun _=> ?_) (fun q=>absurd (decide_eq_true (by unfold Jb;rw [if_neg (by rw [tr];decide)])) q);refine ⟨fun σ' H'=>∃m',m'<60 - d /\ ∃(d:Nat) (z:bO),σ'=[some (.ref B.h),some (.int d)]/\d<=60/\m'=60 - d/\pU ao H' B z/\KH B H H'/\led (60 - d) z=lead s/\z.rws=s.rws/\z.sy.length<=s.sy.length+d,fun _ _ q=>q, ?_⟩;refine ⟨_,rfl,rfl,_,rfl, ?_⟩
      by_cases e6:d=60
      ·subst e6
       refine dO (fun _=> ?_) (fun q=>absurd (decide_eq_true rfl) q);refine ⟨_,rfl,B.h,ao,B.hx,_,rfl,c2.h,aN.cls,aN.mK,(by show 5<1000;decide), ?_⟩;rw [Fb];refine k _ ?_ (k2.trans KH.tR)
       have:lead s={z with st:= "lost" }:=by
        rw [←hl];show led 0 z=_;simp only [led,er,tr];rfl
       rw [this];exact c2.tR z.pos "lost"
      ·refine dO (fun q=>absurd (by have:=V.int.inj (of_decide_eq_true q);lia) e6) (fun _=> ?_)
       refine ⟨_,rfl,B.h,B.hx,_,rfl,c2.h,rfl,_,rfl,B.h,ao,B.hx,_,_,rfl,c2.h,aN.cls,aN.qF,rfl,_,rfl,B.h,ao,B.hx,_,_,rfl,c2.h,aN.cls,aN.wB,rfl,_,_,_,_,rfl,rfl,bN.of ab7,gD ev,B,z,v,r,m,rfl,c2,dv.same s2 _,ro r (List.mem_of_getElem? er),tr,by lia,fun H3 c3 k3=> ?_⟩;refine ⟨_,rfl,_,_,rfl,rfl,60 - (d+1),by lia,d+1,rY z r,rfl,by lia,rfl,c3,k2.trans k3, ?_,by rw [Dv,zr], ?_⟩
       ·rw [←hl,show 60 - d=(60 - (d+1))+1 by lia]
        simp only [led,er,tr];rfl
       ·have:=Iz z r
        lia
def wF (pg nb hs tn:Addr):List (Str×V):=[("program",.ref pg),("numbers",.ref nb),("hands",.ref hs),("turns",.ref tn)]
def wu (m:Int) (ns:List Int):Prop:=(ns.length:Int)=m /\ ∀x∈ns,0<=x/\x<1000
def tQ (CN:Addr) (K:PySem.W.Frag):Sp:=fun vs H Q E=>∃(cl:Addr) (m:Int) (ns:List Int),vs=[.ref cl,.int m]/\H cl=some (.lst (ns.map V.int))/\ns.length<=100/\(wu m ns -> ∀H',Same H H'->Q .non H')/\(¬wu m ns -> ∀H',Same H H'->E (.ref CN) none H')
theorem Hy {f:Addr} {fd:FuncData} (F:kO K "check_numbers" "check_numbers" cJ f fd) (fJ:FnAt P w K mg base 2 "is_below" ["value","count"] (rA K)) (jr:Gv mg "ROUND" (.int 1000)) (Bt:um mg) {aY:Addr} (jM:Xr K mg aY "NoNumber"):bZ P w K mg base (vI P w) 3 f fd ["cells","count"] (tQ aY K):=by
 refine F.W2 v8 (fun vs H Q E h=> ?_) (fun cdv A outer s H vs Q E hr h hR=> ?_)
 ·obtain ⟨cl,m,ns,rfl,_⟩:=h
  rfl
 ·obtain ⟨cl,m,ns,rfl,hc,nl,k1,k2⟩:=h
  refine ⟨_,(aF (cU (PW.pt (pP (gw (dI (aQ (cX (K:=K) (cv:= .ty "list") (c:= .type "list") rfl rfl) (by rfl) Bt.bH bx (aj (pv 0) (aj (fD (v:= .ty "list") (by rfl) Bt.jL iB rfl) aC))))) (lQ (bM rT (aQ (bw (K:=K) rfl) (by rfl) Bt.gK dR (aj (pv 0) aC)) (pv 1) (bJ _))))) (aK (lR PySem.F.excBase_ValueError jM.ex jM.bd (by rfl) rfl rfl hR (aj cV aC))) bQ)
   (aK (cU (gw (dI (aQ (iR (K:=K) rfl rfl) (by rfl) Bt.MK Gk (aj (gA rfl (N:=["number"]) (own:=["number"]) (caps:=[]) (bC.of (by kernel_rfl)) (dW (K:=K) rfl (pv 0)) (fun _ _ _ _=>(bW (i:=0) (show List.Nodup (["number"]:List Str) by decide +kernel) rfl (Or.inl rfl))) (fun _ _ _ _=>fM) (fun _ _ _ _=>(cA fJ (hr.mono (by decide)) (by rfl) (aj (pv 0) (aj (gP (by rfl) jr.choose_spec.1 jr.choose_spec.2) aC))))) aC)))) (aK (lR PySem.F.excBase_ValueError jM.ex jM.bd (by rfl) rfl rfl hR (aj cV aC))) bQ))), ?_⟩
  refine ⟨_,rfl,_,_,true,rfl,.lst hc,jU K,true,rfl, ?_⟩;refine dG ?_;refine ⟨_,rfl,cl,_,rfl,.inl (bN.of hc),_,rfl,rfl,_,rfl, ?_⟩;rw [List.length_map]
  by_cases el:(ns.length:Int)=m
  rotate_left
  ·refine dO (fun _=> ?_) (fun z=>absurd (by simp [el]) z)
   exact ⟨(by show 1<=sizeLine;decide),k2 (fun z=>el z.1) H (Same.refl _)⟩
  refine u5 (by rw [el]) ?_;refine ⟨_,rfl,cl,rfl,⟨_,bN.of hc⟩,fun D hD=> ?_⟩;refine oA (K:=K) (fun i=>(ns[i]?).map fun x=>V.bl (decide (xH x 1000))) hD (bN.of hc) (by rw [List.length_map];lia) (fun i v H2 G F hi s2 kG kF=> ?_) (fun H2 s2 e2=> ?_)
  ·rw [List.getElem?_map] at hi
   cases ei:ns[i]? with
   | none=>rw [ei] at hi;cases hi
   | some z=>
     rw [ei] at hi;cases hi;exact ⟨_,rfl,z,1000,rfl,kF _ H2 (Same.refl _) (by rw [ei];rfl)⟩
  rw [List.length_map,Mr] at e2;refine ⟨D,ns.map (fun x=>decide (xH x 1000)),rfl,bN.of (by rw [e2,List.map_map];rfl),_,rfl, ?_⟩
  by_cases al:∀x∈ns,xH x 1000
  ·have ea:(ns.map (fun x=>decide (xH x 1000))).all id=true:=by
    rw [List.all_map,List.all_eq_true];intro h hh;exact decide_eq_true (al h hh)
   rw [ea];refine dG ?_;exact k1 ⟨el,fun x hx=>al x hx⟩ H2 s2
  ·have ea:(ns.map (fun x=>decide (xH x 1000))).all id=false:=by
    rw [List.all_map,←Bool.not_eq_true,List.all_eq_true];intro z;exact al fun h hh=>of_decide_eq_true (p:=xH h 1000) (z h hh)
   rw [ea];refine gJ ?_;exact ⟨(by show 1<=sizeLine;decide),k2 (fun z=>al fun x hx=>z.2 x hx) H2 s2⟩
def vU (CW CH:Addr) (K:PySem.W.Frag):Sp:=fun vs H Q _=>∃(o dx pg nb hl tn:Addr) (A:qU) (s:bO) (m:Nat) (ns:List Int) (r:Rw),vs=[.ref o,.ref A.h]/\H o=some (.ins CW dx (wF pg nb hl tn))/\H nb=some (.lst (ns.map V.int))/\ns.length=m/\pU CH H A s/\fU H A.r m s.rws /\
 s.rws[s.pos]? = some r/\touch r=true/\nb≠A.b/\nb≠A.sy /\
 ∀t H',H t=none->H' t=some (.tup (zA ns s.bs r))->pU CH H' A {s with bs:=Gm ns s.bs r}->H' nb=some (.lst ((pL ns s.bs r).map V.int))->(∀x u,H x=some u->x≠nb->x≠A.b->H' x=some u)->Q (.ref t) H'
theorem J3 {aq ao:Addr} {f:Addr} {fd:FuncData} (F:kO K "touch_by" "Works.touch_by" cB f fd) (wV:FnAt P w K mg base 1 "cell_of" ["row"] (uJ K)) (cu:MethAt P w K mg base 3 ao "value_of" ["self","part"] (uE ao 2 K)) (qT:MethAt P w K mg base 1 ao "take" ["self","box","number"] (Ek ao K)) (aU:ig K aq) (aN:iG K ao):bZ P w K mg base kY 4 f fd ["self","one"] (vU aq ao K):=by
 refine F.ok eX (fun vs H Q E h=> ?_) (fun cdv A outer s H vs Q E hr h=> ?_)
 ·obtain ⟨o,dx,pg,nb,hl,tn,A,s,m,ns,r,rfl,_⟩:=h
  rfl
 ·obtain ⟨o,dx,pg,nb,hl,tn,B,z,m,ns,r,rfl,ho,hnb,nl,c,R,er,tr,W4,nny,k⟩:=h
  refine ⟨_,(aF (bU (i:=2) eX.nd rfl (Or.inl rfl) (aW (bh (K:=K) rfl) (bB (K:=K) rfl (pv 1) rfl) (bB (K:=K) rfl (pv 1) rfl) (fun _ _=>rfl)))
   (aF (bU (i:=3) eX.nd rfl (Or.inl rfl) (cA wV (hr.mono (by decide)) (by rfl) (aj (pv 2) aC)))
   (aF (bU (i:=4) eX.nd rfl (Or.inl rfl) (nW (bM h_ (aW (aZ (K:=K) rfl) (pv 2) aG (fun _ _=>rfl)) cV (bJ _)) iZ (aW (bh (K:=K) rfl) (bB (K:=K) rfl (pv 0) rfl) (pv 3) (fun _ _=>rfl))))
   (aF (bU (i:=5) eX.nd rfl (Or.inl rfl) (nW (bM h_ (aW (aZ (K:=K) rfl) (pv 2) aG (fun _ _=>rfl)) cV (bJ _)) iZ (cZ cu aN.cls (hr.mono (by decide)) (pv 1) (aj (aW (aZ (K:=K) rfl) (pv 2) (Lx Eh aG) (fun _ _=>rfl)) aC))))
   (aF (cU (bM Fe (pv 4) iZ (bJ _)) (aK (fO (cZ qT aN.cls (hr.mono (by decide)) (pv 1) (aj (aW (aZ (K:=K) rfl) (pv 2) aG (fun _ _=>rfl)) (aj (pv 4) aC))))) bQ)
   (aF (cU (bM Fe (pv 5) iZ (bJ _)) (aK (wj (pv 5) (wk (bB (K:=K) rfl (pv 0) rfl) (pv 3) set_list))) bQ)
   (aK (bK (jF (aj (aW (aZ (K:=K) rfl) (pv 2) aG (fun _ _=>rfl)) (aj (pv 3) (aj (pv 4) (aj (pv 5) aC))))))))))))), ?_⟩
  obtain ⟨ts,hts,dts,ro,rl⟩:=R;obtain ⟨v,ev,dv⟩:=dts.getD (i:=z.pos) (d:=CJ r) (by rw [List.getElem?_map,er];rfl);have T_:=ro r (List.mem_of_getElem? er);refine ⟨_,rfl,B.h,ao,B.hx,_,_,rfl,c.h,aN.cls,aN.qF,rfl,_,rfl,B.h,ao,B.hx,_,_,rfl,c.h,aN.cls,aN.wB,rfl,_,_,_,_,rfl,rfl,bN.of hts,gD ev, ?_⟩;refine ⟨_,rfl,v,r,rfl,dv,fun H1 s1=> ?_⟩;have c1:=c.same s1;have ho1:=s1 _ _ ho;have FP:=s1 _ _ hnb;obtain ⟨t,ws,rfl,ht,ps⟩:=MP (dv.same s1 _);have nob:o≠nb:=dX ho1 FP (by intro z;cases z);have noB:o≠B.b:=dX ho1 c1.b (by intro z;cases z);have ntb:t≠B.b:=dX ht c1.b (by intro z;cases z);have ntn:t≠nb:=dX ht FP (by intro z;cases z);have cellOf:∀cc,cc<m->ns[cc]? = some ((ns[cc]?).getD 0):=fun cc h=>by rw [List.getElem?_eq_getElem (by lia)];rfl
  have cellAt:∀cc,cc<m->(ns.map V.int)[cc]? = some (.int ((ns[cc]?).getD 0)):=fun cc h=>by rw [List.getElem?_map,cellOf cc h];rfl
  have abY:∀cc,cc<m->Km (ns.map V.int).length ((cc:Nat):Int)=some cc:=fun cc h=>by rw [List.length_map];unfold Km;rw [if_pos (by lia),if_pos (by lia)];simp
  cases r with
  | load b cc=>
    obtain rfl:=ps;refine ⟨_,rfl,_,_,_,_,rfl,rfl,cN.of ht,rfl,rfl,_,rfl, ?_⟩;refine dO (fun z=>absurd (of_decide_eq_true z) (by decide)) (fun _=> ?_);refine ⟨_,rfl,o,aq,dx,_,_,rfl,ho1,aU.cls,aU.lH,rfl,_,rfl,_,_,_,_,rfl,rfl,bN.of FP,gD (cellAt cc T_.2), ?_⟩;refine ⟨_,rfl,_,_,_,_,rfl,rfl,cN.of ht,rfl,rfl,_,rfl, ?_⟩;refine dO (fun _=> ?_) (fun z=>absurd (decide_eq_true rfl) z);refine ⟨_,rfl,rfl,_,rfl, ?_⟩;refine gJ ?_;refine ⟨_,rfl,B.h,B.hx,_,rfl,c1.h,rfl,_,rfl,_,_,_,_,rfl,rfl,cN.of ht,rfl,_,rfl,B,z,b,_,rfl,c1,T_.1, ?_⟩;refine ⟨_,rfl,rfl,_,rfl, ?_⟩;refine dG ?_;have c2:=c1.Qq (z.bs.set b ((ns[cc]?).getD 0)) (by rw [List.length_set];exact c1.bl);refine ⟨_,rfl,_,_,_,_,rfl,rfl,cN.of (by rw [aD ntb];exact ht),rfl,_,rfl,_,rfl,_,rfl,(by show 4<=sizeLine;decide),fun p hp=> ?_⟩;have sp:=aH (o:=HO.tup [V.str (Str.ofString "load"),V.int cc,V.int ((ns[cc]?).getD 0),V.non]) hp;refine k p _ ?_ ?_ (c2.same sp) (sp _ _ (by rw [aD W4];exact FP)) ?_
    ·refine s1.free ?_
     have:p≠B.b:=fun e=>by rw [e,ak] at hp;cases hp
     rw [aD this] at hp;exact hp
    ·rw [ak]
     show some (HO.tup [V.str (Str.ofString "load"),V.int cc,V.int ((ns[cc]?).getD 0),V.non])=some (HO.tup [V.str (Str.ofString "load"),V.int cc,oV (ns[cc]?),V.non]);rw [cellOf cc T_.2];rfl
    ·intro x u e n1 n2
     exact sp _ _ (by rw [aD n2];exact s1 _ _ e)
  | store cc e=>
    obtain ⟨x,rfl,Z5⟩:=ps;refine ⟨_,rfl,_,_,_,_,rfl,rfl,cN.of ht,rfl,rfl,_,rfl, ?_⟩;refine dO (fun _=> ?_) (fun z=>absurd (decide_eq_true rfl) z);refine ⟨_,rfl,_,_,_,_,rfl,rfl,cN.of ht,rfl,rfl,_,rfl, ?_⟩;refine dO (fun z=>absurd (of_decide_eq_true z) (by decide)) (fun _=> ?_);refine ⟨_,rfl,B.h,B.hx,_,rfl,c1.h,rfl,_,rfl,_,rfl,_,_,_,_,rfl,rfl,cN.of ht,rfl,B,z,x,e,rfl,c1,Z5,T_.2,Ot e, ?_⟩;refine ⟨_,rfl,rfl,_,rfl, ?_⟩;refine dG ?_;refine ⟨_,rfl,rfl,_,rfl, ?_⟩;refine gJ ?_;refine ⟨_,rfl,_,rfl,o,aq,dx,_,_,rfl,ho1,aU.cls,aU.lH,rfl,_,rfl,nb,_,_,cc,rfl,rfl,FP,abY cc T_.1, ?_⟩;rw [←List.map_set];refine ⟨_,rfl,_,_,_,_,rfl,rfl,cN.of (by rw [aD ntn];exact ht),rfl,_,rfl,_,rfl,_,rfl,(by show 4<=sizeLine;decide),fun p hp=> ?_⟩;have sp:=aH (o:=HO.tup [V.str (Str.ofString "store"),V.int cc,V.non,V.int (vx z.bs e)]) hp;have nbh:B.h≠nb:=dX c1.h FP (by intro z;cases z);refine k p _ ?_ ak (pU.same ⟨by rw [aD nbh];exact c1.h,by rw [aD W4.symm];exact c1.b,by rw [aD nny.symm];exact c1.y,c1.N_,c1.bl⟩ sp) (sp _ _ ak) ?_
    ·refine s1.free ?_
     have:p≠nb:=fun e=>by rw [e,ak] at hp;cases hp
     rw [aD this] at hp;exact hp
    ·intro x u e n1 n2
     exact sp _ _ (by rw [aD n1];exact s1 _ _ e)
  | swap b cc e=>
    obtain ⟨x,rfl,Z5⟩:=ps;refine ⟨_,rfl,_,_,_,_,rfl,rfl,cN.of ht,rfl,rfl,_,rfl, ?_⟩;refine dO (fun z=>absurd (of_decide_eq_true z) (by decide)) (fun _=> ?_);refine ⟨_,rfl,o,aq,dx,_,_,rfl,ho1,aU.cls,aU.lH,rfl,_,rfl,_,_,_,_,rfl,rfl,bN.of FP,gD (cellAt cc T_.2.1), ?_⟩;refine ⟨_,rfl,_,_,_,_,rfl,rfl,cN.of ht,rfl,rfl,_,rfl, ?_⟩;refine dO (fun z=>absurd (of_decide_eq_true z) (by decide)) (fun _=> ?_);refine ⟨_,rfl,B.h,B.hx,_,rfl,c1.h,rfl,_,rfl,_,rfl,_,_,_,_,rfl,rfl,cN.of ht,rfl,B,z,x,e,rfl,c1,Z5,T_.2.2,Ot e, ?_⟩;refine ⟨_,rfl,rfl,_,rfl, ?_⟩;refine gJ ?_;refine ⟨_,rfl,B.h,B.hx,_,rfl,c1.h,rfl,_,rfl,_,_,_,_,rfl,rfl,cN.of ht,rfl,_,rfl,B,z,b,_,rfl,c1,T_.1, ?_⟩;refine ⟨_,rfl,rfl,_,rfl, ?_⟩;refine gJ ?_;have c2:=c1.Qq (z.bs.set b ((ns[cc]?).getD 0)) (by rw [List.length_set];exact c1.bl);have ajR:(upd H1 B.b (.lst ((z.bs.set b ((ns[cc]?).getD 0)).map V.int))) nb=some (.lst (ns.map V.int)):=by rw [aD W4];exact FP
    refine ⟨_,rfl,_,rfl,o,aq,dx,_,_,rfl,(by rw [aD noB];exact ho1),aU.cls,aU.lH,rfl,_,rfl,nb,_,_,cc,rfl,rfl,ajR,abY cc T_.2.1, ?_⟩;rw [←List.map_set];refine ⟨_,rfl,_,_,_,_,rfl,rfl,cN.of (by rw [aD ntn,aD ntb];exact ht),rfl,_,rfl,_,rfl,_,rfl,(by show 4<=sizeLine;decide),fun p hp=> ?_⟩;have sp:=aH (o:=HO.tup [V.str (Str.ofString "swap"),V.int cc,V.int ((ns[cc]?).getD 0),V.int (vx z.bs e)]) hp;have nbh:B.h≠nb:=dX c1.h FP (by intro z;cases z);refine k p _ ?_ ?_ (pU.same ⟨by rw [aD nbh];exact c2.h,by rw [aD W4.symm];exact c2.b,by rw [aD nny.symm];exact c2.y,c2.N_,c2.bl⟩ sp) (sp _ _ ak) ?_
    ·refine s1.free ?_
     have n1:p≠nb:=fun e=>by rw [e,ak] at hp;cases hp
     rw [aD n1] at hp;have n2:p≠B.b:=fun e=>by rw [e,ak] at hp;cases hp
     rw [aD n2] at hp;exact hp
    ·rw [ak]
     show some (HO.tup [V.str (Str.ofString "swap"),V.int cc,V.int ((ns[cc]?).getD 0),V.int (vx z.bs e)])=some (HO.tup [V.str (Str.ofString "swap"),V.int cc,oV (ns[cc]?),V.int (vx z.bs e)]);rw [cellOf cc T_.2.1];rfl
    ·intro x u e n1 n2
     exact sp _ _ (by rw [aD n1,aD n2];exact s1 _ _ e)
  | Fx b e=>cases tr
  | say e=>cases tr
  | go n=>cases tr
  | GR q e f n=>cases tr
structure Pb where
 (o dx pg L nb hl tn:Addr) (rs:List Addr) (hd:List qU)
structure xY (CH:Addr) (i k m:Nat) (τ:Tg) (H:Hp) (A:qU) (s:bO):Prop where
 c:pU CH H A s
 r:fU H A.r m s.rws
 tr:τ A.r=[0]
 th:τ A.h=[i,4,k]
 tb:τ A.b=[i,5,k]
 ty:τ A.sy=[i,6,k]
structure xX (CW CH:Addr) (i:Nat) (τ:Tg) (H:Hp) (W:Pb) (S:nP):Prop where
 un:vH τ H
 i0:i≠0
 o:H W.o=some (.ins CW W.dx (wF W.pg W.nb W.hl W.tn))
 pg:H W.pg=some (.tup [.int S.m,.ref W.L])
 L:H W.L=some (.lst (W.rs.map V.ref))
 nb:H W.nb=some (.lst (S.ns.map V.int))
 hl:H W.hl=some (.lst (W.hd.map fun a=> .ref a.h))
 tn:H W.tn=some (.lst (S.ts.map V.int))
 to:τ W.o=[i,0]
 tb:τ W.nb=[i,1]
 tl:τ W.hl=[i,2]
 tt:τ W.tn=[i,3]
 tL:τ W.L=[0]
 rl:W.rs.length=S.hs.length
 rs:∀(k:Nat) (r:Addr) (s:bO),W.rs[k]? = some r->S.hs[k]? = some s->τ r=[0]/\fU H r S.m s.rws
 len:W.hd.length=S.hs.length
 hd:∀(k:Nat) (A:qU) (s:bO),W.hd[k]? = some A->S.hs[k]? = some s->xY CH i k S.m τ H A s
 ok:∀s∈S.hs,rN s
 sl:∀s∈S.hs,s.sy.length<=60*(S.ts.length+1)
 nl:S.ns.length=S.m
 hn:S.hs.length<=100
section
variable {CW CH:Addr} {i:Nat} {τ τ':Tg} {H H':Hp} {W:Pb} {S:nP}
theorem xY.mv {k m:Nat} {A:qU} {s:bO} (h:xY CH i k m τ H A s) (q:Mv i τ H τ' H'):xY CH i k m τ' H' A s:=by
 obtain ⟨⟨c1,c2,c3,c4,c5⟩,r,tr,th,tb,ty⟩:=h;have e1:=q.keep _ _ c1 (.inr (by rw [th];rfl));have e2:=q.keep _ _ c2 (.inr (by rw [tb];rfl));have e3:=q.keep _ _ c3 (.inr (by rw [ty];rfl));have rr:=r;obtain ⟨ts,hr,_⟩:=rr;have e4:=q.keep _ _ hr (.inl tr);exact ⟨⟨e1.1,e2.1,e3.1,c4,c5⟩,r.keep (fun o e=>(q.keep _ _ e (.inl tr)).1) q.tup,e4.2.trans tr,e1.2.trans th,e2.2.trans tb,e3.2.trans ty⟩
theorem U0 {r:Addr} {m:Nat} {rws:List Rw} (h:τ r=[0]/\fU H r m rws) (q:Mv i τ H τ' H'):τ' r=[0]/\fU H' r m rws:=by
 obtain ⟨t,R⟩:=h;have rr:=R;obtain ⟨ts,hr,_⟩:=rr;have e4:=q.keep _ _ hr (.inl t);exact ⟨e4.2.trans t,R.keep (fun o e=>(q.keep _ _ e (.inl t)).1) q.tup⟩
theorem xX.mv (w:xX CW CH i τ H W S) (q:Mv i τ H τ' H') (u:vH τ' H'):xX CW CH i τ' H' W S:=by
 have e1:=q.keep _ _ w.o (.inr (by rw [w.to];rfl));have e2:=q.keep _ _ w.nb (.inr (by rw [w.tb];rfl));have e3:=q.keep _ _ w.hl (.inr (by rw [w.tl];rfl));have e4:=q.keep _ _ w.tn (.inr (by rw [w.tt];rfl));have e5:=q.keep _ _ w.L (.inl w.tL);exact ⟨u,w.i0,e1.1,q.tup _ _ w.pg,e5.1,e2.1,e3.1,e4.1,e1.2.trans w.to,e2.2.trans w.tb,e3.2.trans w.tl,e4.2.trans w.tt,e5.2.trans w.tL,w.rl,fun k r s h1 h2=>U0 (w.rs k r s h1 h2) q,w.len,fun k A s h1 h2=>(w.hd k A s h1 h2).mv q,w.ok,w.sl,w.nl,w.hn⟩
theorem xX.same (w:xX CW CH i τ H W S) (k:Same H H'):xX CW CH i τ H' W S:=w.mv (Mv.of_same k) (w.un.same k)
theorem xX.hand {k:Nat} {s:bO} (w:xX CW CH i τ H W S) (h:S.hs[k]? = some s):∃A,W.hd[k]? = some A/\xY CH i k S.m τ H A s:=by
 have:k<W.hd.length:=by rw [w.len];exact (List.getElem?_eq_some_iff.mp h).1
 exact ⟨W.hd[k],by simp [this],w.hd k _ _ (by simp [this]) h⟩
end
def uH (CW CH CN:Addr) (K:PySem.W.Frag):Sp:=fun vs H Q E=>∃(i:Nat) (τ:Tg) (W:Pb) (S:nP) (h:Int),vs=[.ref W.o,.int h]/\xX CW CH i τ H W S/\(∀(k:Nat) (A:qU) (s:bO),h=k->W.hd[k]? = some A->S.hs[k]? = some s->Q (.ref A.h) H)/\(¬xH h S.hs.length->E (.ref CN) none H)
theorem NK {aq ao:Addr} {f:Addr} {fd:FuncData} (F:kO K "hand_of" "Works.hand_of" cL f fd) (fJ:FnAt P w K mg base 2 "is_below" ["value","count"] (rA K)) (aU:ig K aq) (Bt:um mg) {aV:Addr} (dM:Xr K mg aV "NoHand"):bZ P w K mg base (vI P w) 3 f fd ["self","hand"] (uH aq ao aV K):=by
 refine F.W2 v9 (fun vs H Q E h=> ?_) (fun cdv A outer s H vs Q E hr h hR=> ?_)
 ·obtain ⟨i,τ,W,S,h,rfl,_⟩:=h
  rfl
 ·obtain ⟨i,τ,W,S,h,rfl,w,k1,k2⟩:=h
  refine ⟨_,(aF (cU (gw (dI (cA fJ (hr.mono (by decide)) (by rfl) (aj (pv 1) (aj (aQ (bw (K:=K) rfl) (by rfl) Bt.gK dR (aj (bB (K:=K) rfl (pv 0) rfl) aC)) aC))))) (aK (lR PySem.F.excBase_ValueError dM.ex dM.bd (by rfl) rfl rfl hR (aj cV aC))) bQ)
   (aK (bK (aW (bh (K:=K) rfl) (bB (K:=K) rfl (pv 0) rfl) (pv 1) (fun _ _=>rfl))))), ?_⟩
  refine ⟨_,rfl,_,rfl,W.o,aq,W.dx,_,_,rfl,w.o,aU.cls,aU.pG,rfl,W.hl,_,rfl,.inl (bN.of w.hl),h,_,rfl,_,rfl, ?_⟩;have ll:(W.hd.map fun a=>V.ref a.h).length=S.hs.length:=by rw [List.length_map,w.len]
  by_cases hh:xH h (W.hd.map fun a=>V.ref a.h).length
  ·rw [decide_eq_true hh]
   refine dG ?_;obtain ⟨n,rfl⟩:=Int.eq_ofNat_of_zero_le hh.1;have nl:n<S.hs.length:=by have:=hh.2;rw [ll] at this;lia
   have es:S.hs[n]? = some S.hs[n]:=by simp [nl]
   obtain ⟨A,eA,_⟩:=w.hand es;exact ⟨_,rfl,W.o,aq,W.dx,_,_,rfl,w.o,aU.cls,aU.pG,rfl,_,rfl,_,_,_,_,rfl,rfl,bN.of w.hl,gD (by rw [List.getElem?_map,eA];rfl),k1 n A _ rfl eA es⟩
  ·rw [decide_eq_false hh]
   refine gJ ?_;rw [ll] at hh;exact ⟨(by show 1<=sizeLine;decide),k2 hh⟩
def Qo (CW CH CN:Addr) (K:PySem.W.Frag):Sp:=fun vs H Q E=>∃(i:Nat) (τ:Tg) (W:Pb) (S:nP) (h:Int),vs=[.ref W.o,.int h]/\xX CW CH i τ H W S/\(∀(k:Nat) (s:bO),h=k->S.hs[k]? = some s->Q (.str s.st) H)/\(¬xH h S.hs.length->E (.ref CN) none H)
theorem Y9 {aq ao aV:Addr} {f:Addr} {fd:FuncData} (F:kO K "how" "Works.how" eZ f fd) (kJ:jq P w K mg base 3 aq "hand_of" ["self","hand"] (uH aq ao aV K)) (aU:ig K aq) (aN:iG K ao):bZ P w K mg base (vI P w) 4 f fd ["self","hand"] (Qo aq ao aV K):=by
 refine F.W2 Ew (fun vs H Q E h=> ?_) (fun cdv A outer s H vs Q E hr h hR=> ?_)
 ·obtain ⟨i,τ,W,S,h,rfl,_⟩:=h
  rfl
 ·obtain ⟨i,τ,W,S,h,rfl,w,k1,k2⟩:=h
  refine ⟨_,(aK (bK (bB (K:=K) rfl (uU kJ aU.cls rfl hR (hr.mono (by decide)) (pv 0) (aj (pv 1) aC)) rfl))), ?_⟩;refine ⟨_,rfl,W.o,W.dx,_,rfl,w.o,rfl,_,rfl,i,τ,W,S,h,rfl,w,fun k A s e eA es=> ?_,k2⟩;have a:=w.hd k A s eA es;exact ⟨A.h,ao,A.hx,_,_,rfl,a.c.h,aN.cls,aN.mK,rfl,k1 k s e es⟩
def V_ (S:nP):List Int:=(List.range S.hs.length).map fun k:Nat=>((S.ts.count (k:Int):Nat):Int)
def zL (CW CH:Addr) (K:PySem.W.Frag):Sp:=fun vs H Q _=>∃(i:Nat) (τ:Tg) (W:Pb) (S:nP),vs=[.ref W.o]/\xX CW CH i τ H W S /\ ∀l H',H l=none->H' l=some (.lst ((V_ S).map V.int))->Same H H'->Q (.ref l) H'
theorem NT {aq ao:Addr} {f:Addr} {fd:FuncData} (F:kO K "counts" "Works.counts" cQ f fd) (aU:ig K aq) (Bt:um mg):bZ P w K mg base kY 1 f fd ["self"] (zL aq ao K):=by
 refine F.ok xQ (fun vs H Q E h=> ?_) (fun cdv A outer s H vs Q E hr h=> ?_)
 ·obtain ⟨i,τ,W,S,rfl,_⟩:=h
  rfl
 ·obtain ⟨i,τ,W,S,rfl,w,k⟩:=h
  refine ⟨_,(aK (bK (gA rfl (N:=["hand","self"]) (own:=["hand"]) (caps:=[0]) (bC.of (by kernel_rfl)) (jc (by rfl) Bt.lF (aj (aQ (bw (K:=K) rfl) (by rfl) Bt.gK dR (aj (bB (K:=K) rfl (pv 0) rfl) aC)) aC)) (fun _ _ _ _=>(bW (i:=0) (show List.Nodup (["hand","self"]:List Str) by decide +kernel) rfl (Or.inl rfl))) (fun _ _ _ _=>fM) (fun _ _ _ _=>(Aa (K:=K) rfl PySem.F.plainAttrs_list PySem.F.slot_list_count PySem.F.type_list_count (Oc (K:=K) rfl) (bB (K:=K) rfl (pv 1) rfl) (aj (pv 0) aC)))))), ?_⟩;have ll:(W.hd.map fun a=>V.ref a.h).length=S.hs.length:=by rw [List.length_map,w.len]
  refine ⟨_,rfl,W.o,aq,W.dx,_,_,rfl,w.o,aU.cls,aU.pG,rfl,W.hl,_,rfl,.inl (bN.of w.hl),_,rfl,(by rw [ll];have:=w.hn;lia),(by rw [ll];have:=w.hn;lia),fun D hD=> ?_⟩;rw [ll,Int.toNat_natCast];refine ou (fun j:Nat=>some (.int ((S.ts.count (j:Int):Nat):Int))) hD (by have:=w.hn;lia) (fun j H1 G F hj s1 kG kF=> ?_) (fun H1 s1 e1=> ?_)
  ·refine ⟨_,rfl,W.o,aq,W.dx,_,_,rfl,s1 _ _ w.o,aU.cls,aU.uW,rfl,.inl ⟨rfl,_,bN.of (s1 _ _ w.tn)⟩,_,rfl,_,S.ts,_,rfl,rfl,bN.of (s1 _ _ w.tn),kF _ H1 (Same.refl _) (by rw [Int.zero_add])⟩
  ·refine k D H1 hD ?_ s1
   rw [e1];unfold V_;rw [List.map_map,List.filterMap_eq_map'];rfl
structure rP (C:List (List Nat)) (τ:Tg) (H:Hp) (τ':Tg) (H':Hp):Prop where
 keep:∀x u,H x=some u->τ x∉C->H' x=some u/\τ' x=τ x
 tup:∀x xs,H x=some (.tup xs)->H' x=some (.tup xs)
theorem rP.of_same {C:List (List Nat)} {τ:Tg} {H H':Hp} (k:Same H H'):rP C τ H τ H':=⟨fun x u e _=>⟨k _ _ e,rfl⟩,k.tups⟩
theorem rP.claim {C:List (List Nat)} {τ:Tg} {H H':Hp} {p:Addr} {t:List Nat} (k:Same H H') (hp:H p=none):rP C τ H (aO τ p t) H':=⟨fun x u e _=>⟨k _ _ e,aP (au e hp)⟩,k.tups⟩
theorem rP.set {C:List (List Nat)} {τ:Tg} {H:Hp} {x:Addr} {o u:HO} (ht:τ x∈C) (hx:H x=some o) (hn:∀xs,o ≠ .tup xs):rP C τ H τ (upd H x u):=
 ⟨fun y v e n=>⟨by rw [aD (fun z:y=x=>n (by rw [z];exact ht))];exact e,rfl⟩,fun y xs e=>by rw [aD (dX e hx fun z=>hn xs z.symm)];exact e⟩
theorem rP.trans {C:List (List Nat)} {τ τ1 τ2:Tg} {H H1 H2:Hp} (a:rP C τ H τ1 H1) (b:rP C τ1 H1 τ2 H2):rP C τ H τ2 H2:=⟨fun x u e n=>by
 obtain ⟨e1,t1⟩:=a.keep x u e n;obtain ⟨e2,t2⟩:=b.keep x u e1 (by rw [t1];exact n);exact ⟨e2,by rw [t2,t1]⟩,fun x xs e=>b.tup _ _ (a.tup _ _ e)⟩
theorem xY.mvT {C:List (List Nat)} {CH:Addr} {i k m:Nat} {τ τ':Tg} {H H':Hp} {A:qU} {s:bO} (h:xY CH i k m τ H A s) (q:rP C τ H τ' H') (h0:[0]∉C) (h4:[i,4,k]∉C) (h5:[i,5,k]∉C) (h6:[i,6,k]∉C):xY CH i k m τ' H' A s:=by
 obtain ⟨⟨c1,c2,c3,c4,c5⟩,r,tr,th,tb,ty⟩:=h;have e1:=q.keep _ _ c1 (by rw [th];exact h4);have e2:=q.keep _ _ c2 (by rw [tb];exact h5);have e3:=q.keep _ _ c3 (by rw [ty];exact h6);have rr:=r;obtain ⟨ts,hr,_⟩:=rr;have e4:=q.keep _ _ hr (by rw [tr];exact h0);exact ⟨⟨e1.1,e2.1,e3.1,c4,c5⟩,r.keep (fun o e=>(q.keep _ _ e (by rw [tr];exact h0)).1) q.tup,e4.2.trans tr,e1.2.trans th,e2.2.trans tb,e3.2.trans ty⟩
theorem iM {C:List (List Nat)} {τ τ':Tg} {H H':Hp} {r:Addr} {m:Nat} {rws:List Rw} (h:τ r=[0]/\fU H r m rws) (q:rP C τ H τ' H') (h0:[0]∉C):τ' r=[0]/\fU H' r m rws:=by
 obtain ⟨t,R⟩:=h;have rr:=R;obtain ⟨ts,hr,_⟩:=rr;have e4:=q.keep _ _ hr (by rw [t];exact h0);exact ⟨e4.2.trans t,R.keep (fun o e=>(q.keep _ _ e (by rw [t];exact h0)).1) q.tup⟩
def JF (CW CH CN CO:Addr) (K:PySem.W.Frag):Sp:=fun vs H Q E=>∃(i:Nat) (τ:Tg) (W:Pb) (S:nP) (h:Int),vs=[.ref W.o,.int h]/\xX CW CH i τ H W S/\S.ts.length<=10000 /\
 (∀(k:Nat) (s:bO) (r:Rw) (t:Addr) (H':Hp),h=k->S.hs[k]? = some s->s.st = "waits" -> s.rws[s.pos]? = some r->touch r=true->H t=none->H' t=some (.tup (zA S.ns s.bs r))->xX CW CH i τ H' W (kW S k)->p8 i τ H H'->Q (.ref t) H') /\
 (¬xH h S.hs.length->E (.ref CN) none H)/\(∀(k:Nat) (s:bO),h=k->S.hs[k]? = some s->s.st ≠ "waits" -> E (.ref CO) none H)
theorem Qe {S:nP} {k:Nat} {s:bO} {r:Rw} (es:S.hs[k]? = some s) (er:s.rws[s.pos]? = some r):kW S k={S with ns:=pL S.ns s.bs r,hs:=S.hs.set k (nZ S.ns s r),ts:=S.ts++[(k:Int)]}:=by
 unfold kW;simp only [es,er]
theorem Kw (ns bs:List Int) (r:Rw):(pL ns bs r).length=ns.length:=by cases r<;>simp [pL]
theorem xX.turned {CW CH:Addr} {i:Nat} {τ:Tg} {H H':Hp} {W:Pb} {S:nP} {k:Nat} {A:qU} {s:bO} {r:Rw} (w:xX CW CH i τ H W S) (eA:W.hd[k]? = some A) (es:S.hs[k]? = some s) (er:s.rws[s.pos]? = some r)
 (kp:∀x u,H x=some u->x≠W.nb->x≠A.b->x≠A.h->x≠A.sy->x≠W.tn->H' x=some u) (c:pU CH H' A (nZ S.ns s r)) (hnb:H' W.nb=some (.lst ((pL S.ns s.bs r).map V.int))) (htn:H' W.tn=some (.lst ((S.ts++[(k:Int)]).map V.int))):xX CW CH i τ H' W (kW S k)/\p8 i τ H H':=by
 have a:=w.hd k A s eA es;have tup:∀x xs,H x=some (.tup xs)->H' x=some (.tup xs):=fun x xs e=>kp _ _ e (dX e w.nb (by intro z;cases z)) (dX e a.c.b (by intro z;cases z)) (dX e a.c.h (by intro z;cases z)) (dX e a.c.y (by intro z;cases z)) (dX e w.tn (by intro z;cases z))
 have st:p8 i τ H H':=by
  refine ⟨fun x u e n=> ?_,tup,fun x e=> ?_⟩
  ·have ne:∀(y:Addr) (t:List Nat),τ y=i::t->x≠y:=fun y t ty z=>n (by rw [z,ty];rfl)
   exact kp _ _ e (ne _ _ w.tb) (ne _ _ a.tb) (ne _ _ a.th) (ne _ _ a.ty) (ne _ _ w.tt)
  ·cases q:H x with
   | none=>rfl
   | some u=>
     have no:∀y o,H' y=some o->x≠y:=fun y o h z=>by rw [z,h] at e;cases e
     rw [kp _ _ q (no _ _ hnb) (no _ _ c.b) (no _ _ c.h) (no _ _ c.y) (no _ _ htn)] at e;cases e
 refine ⟨?_,st⟩
 have q:rP [[i,1],[i,5,k],[i,4,k],[i,6,k],[i,3]] τ H τ H':=by
  refine ⟨fun x u e n=>⟨?_,rfl⟩,tup⟩;have ne:∀(y:Addr) (t:List Nat),τ y=t->t∈[[i,1],[i,5,k],[i,4,k],[i,6,k],[i,3]]->x≠y:=fun y t ty ht z=>n (by rw [z,ty];exact ht);exact kp _ _ e (ne _ _ w.tb (by simp)) (ne _ _ a.tb (by simp)) (ne _ _ a.th (by simp)) (ne _ _ a.ty (by simp)) (ne _ _ w.tt (by simp))
 have i0:=w.i0;have z0:[0]∉[[i,1],[i,5,k],[i,4,k],[i,6,k],[i,3]]:=by simp
 rw [Qe es er];have hk:k<S.hs.length:=(List.getElem?_eq_some_iff.mp es).1
 have get:∀(j:Nat) (s':bO),(S.hs.set k (nZ S.ns s r))[j]? = some s'->(j=k/\s'=nZ S.ns s r)\/(j≠k/\S.hs[j]? = some s'):=fun j s' e=>by
  rw [List.getElem?_set] at e
  by_cases z:k=j
  ·subst z
   simp [hk] at e;exact .inl ⟨rfl,e.symm⟩
  ·rw [if_neg z] at e
   exact .inr ⟨fun y=>z y.symm,e⟩
 have gr:(nZ S.ns s r).rws=s.rws:=uZ _ _;have mem:∀s'∈S.hs.set k (nZ S.ns s r),s'=nZ S.ns s r\/s'∈S.hs:=fun s' m=>(List.mem_or_eq_of_mem_set m).symm;refine ⟨st.un w.un,i0,(q.keep _ _ w.o (by rw [w.to];simp)).1,tup _ _ w.pg,(q.keep _ _ w.L (by rw [w.tL];exact z0)).1,hnb,(q.keep _ _ w.hl (by rw [w.tl];simp)).1,htn,w.to,w.tb,w.tl,w.tt,w.tL, ?_, ?_, ?_, ?_, ?_, ?_, ?_, ?_⟩
 ·simp [w.rl]
 ·intro j r' s' h1 h2
  rcases get j s' h2 with ⟨rfl,rfl⟩|⟨_,h2⟩
  ·rw [gr]
   exact iM (w.rs j r' s h1 es) q z0
  ·exact iM (w.rs j r' s' h1 h2) q z0
 ·simp [w.len]
 ·intro j A' s' h1 h2
  rcases get j s' h2 with ⟨rfl,rfl⟩|⟨nj,h2⟩
  ·rw [eA] at h1
   cases h1;refine ⟨c, ?_,a.tr,a.th,a.tb,a.ty⟩;rw [gr];exact (iM ⟨a.tr,a.r⟩ q z0).2
  ·exact (w.hd j A' s' h1 h2).mvT q z0 (by simp [nj]) (by simp [nj]) (by simp [nj])
 ·intro s' m
  rcases mem s' m with rfl|m
  ·exact Kh _ _
  ·exact w.ok s' m
 ·intro s' m
  simp only [List.length_append,List.length_singleton];rcases mem s' m with rfl|m
  ·have:=Kg 60 {s with pos:=s.pos+1,bs:=Gm S.ns s.bs r}
   have:=w.sl s (List.mem_of_getElem? es);show (led 60 _).sy.length<=_;simp only at *;lia
  ·have:=w.sl s' m
   lia
 ·show (pL S.ns s.bs r).length=S.m
  rw [Kw,w.nl]
 ·simp [w.hn]
theorem Vm {aq ao aV bD:Addr} {f:Addr} {fd:FuncData} (F:kO K "turn" "Works.turn" d7 f fd) (kJ:jq P w K mg base 3 aq "hand_of" ["self","hand"] (uH aq ao aV K)) (wR:MethAt P w K mg base 4 aq "touch_by" ["self","one"] (vU aq ao K)) (lZ:MethAt P w K mg base 6 ao "lead_on" ["self"] (Ep ao K)) (aU:ig K aq) (aN:iG K ao) (fQ:Xr K mg bD "Over"):bZ P w K mg base (vI P w) 7 f fd ["self","hand"] (JF aq ao aV bD K):=by
 refine F.W2 m7 (fun vs H Q E h=> ?_) (fun cdv A outer s H vs Q E hr h hR=> ?_)
 ·obtain ⟨i,τ,W,S,h,rfl,_⟩:=h
  rfl
 ·obtain ⟨i,τ,W,S,h,rfl,w,tl,k1,k2,k3⟩:=h
  refine ⟨_,(aF (bU (i:=2) m7.nd rfl (Or.inl rfl) (uU kJ aU.cls rfl hR (hr.mono (by decide)) (pv 0) (aj (pv 1) aC)))
   (aF (cU (bM rT (bB (K:=K) rfl (pv 2) rfl) cV (bJ _)) (aK (lR PySem.F.excBase_ValueError fQ.ex fQ.bd (by rfl) rfl rfl hR (aj cV aC))) bQ)
   (aF (bU (i:=3) m7.nd rfl (Or.inl rfl) (cZ wR aU.cls (hr.mono (by decide)) (pv 0) (aj (pv 2) aC)))
   (aF (zZ (K:=K) rfl (pv 2) aG FJ)
   (aF (fO (fP lZ aN.cls (hr.mono (by decide)) (pv 2)))
   (aF (fO (jG (K:=K) rfl (bB (K:=K) rfl (pv 0) rfl) (aj (pv 1) aC)))
   (aK (bK (pv 3))))))))), ?_⟩
  refine ⟨_,rfl,W.o,W.dx,_,rfl,w.o,rfl,_,rfl,i,τ,W,S,h,rfl,w,fun k A s e eA es=> ?_,k2⟩;have a:=w.hd k A s eA es;refine ⟨_,rfl,A.h,ao,A.hx,_,_,rfl,a.c.h,aN.cls,aN.mK,rfl,rfl,_,rfl, ?_⟩
  by_cases wt:s.st = "waits"
  rotate_left
  ·refine dO (fun _=> ?_) (fun z=>absurd (by simp [wt]) z)
   exact ⟨(by show 1<=sizeLine;decide),k3 k s e es wt⟩
  refine u5 (by rw [wt]) ?_;obtain ⟨r,er,tr⟩:=w.ok s (List.mem_of_getElem? es) wt;have W4:W.nb≠A.b:=eU w.tb a.tb (by simp);have nny:W.nb≠A.sy:=eU w.tb a.ty (by simp);refine ⟨_,rfl,W.o,W.dx,_,rfl,w.o,rfl,_,rfl,W.o,W.dx,W.pg,W.nb,W.hl,W.tn,A,s,S.m,S.ns,r,rfl,w.o,w.nb,w.nl,a.c,a.r,er,tr,W4,nny,fun t H1 tf t1 c1 eG p1=> ?_⟩;refine ⟨_,rfl,A.h,ao,A.hx,_,_,rfl,c1.h,aN.cls,aN.wB,rfl,_,_,rfl,rfl,A.hx,_,c1.h,(by show 5<1000;decide), ?_⟩;rw [zW];have c2:=c1.tR (s.pos+1) s.st;have p2:KH A H1 (upd H1 A.h (.ins ao A.hx (hF A.r ((s.pos+1:Nat):Int) A.b A.sy s.st))):=KH.tR;have t2:=c1.tup p2 _ _ t1;dsimp only;rw [show ((s.pos:Nat):Int)+1=((s.pos+1:Nat):Int) by lia];generalize (upd H1 A.h (.ins ao A.hx (hF A.r ((s.pos+1:Nat):Int) A.b A.sy s.st)))=H2 at c2 p2 t2 ⊢;have nrb:A.r≠A.b:=eU a.tr a.tb (by intro z;cases z);have nry:A.r≠A.sy:=eU a.tr a.ty (by intro z;cases z);have nrh:A.r≠A.h:=eU a.tr a.th (by intro z;cases z);have nrn:A.r≠W.nb:=eU a.tr w.tb (by intro z;cases z);have afj:∀x xs,H x=some (.tup xs)->H2 x=some (.tup xs):=fun x xs q=>c1.tup p2 _ _ (p1 _ _ q (dX q w.nb (by intro z;cases z)) (dX q a.c.b (by intro z;cases z)));have R2:fU H2 A.r S.m s.rws:=a.r.keep (fun o q=>p2 _ _ (p1 _ _ q nrn nrb) nrh nrb nry) afj;have sl:=w.sl s (List.mem_of_getElem? es);refine ⟨_,rfl,A.h,A.hx,_,rfl,c2.h,rfl,A,_,S.m,rfl,c2,R2,nrb,nry,by show s.sy.length<_;lia,fun H3 c3 p3=> ?_⟩;have k13:∀x u,H x=some u->x≠W.nb->x≠A.b->x≠A.h->x≠A.sy->H3 x=some u:=fun x u q n1 n2 n3 n4=>p3 _ _ (p2 _ _ (p1 _ _ q n1 n2) n3 n2 n4) n3 n2 n4;have o3:=k13 _ _ w.o (eU w.to w.tb (by simp)) (eU w.to a.tb (by simp)) (eU w.to a.th (by simp)) (eU w.to a.ty (by simp));have tn3:=k13 _ _ w.tn (eU w.tt w.tb (by simp)) (eU w.tt a.tb (by simp)) (eU w.tt a.th (by simp)) (eU w.tt a.ty (by simp));have nb3:=p3 _ _ (p2 _ _ eG (eU w.tb a.th (by simp)) W4 nny) (eU w.tb a.th (by simp)) W4 nny;have t3:=c2.tup p3 _ _ t2;refine ⟨_,rfl,W.o,aq,W.dx,_,_,rfl,o3,aU.cls,aU.uW,rfl,.inl ⟨rfl,_,bN.of tn3⟩,_,rfl,_,_,_,rfl,rfl,tn3,(by rw [List.length_map,sizeLine_eq];lia), ?_⟩;have k14:∀x u,H x=some u->x≠W.nb->x≠A.b->x≠A.h->x≠A.sy->x≠W.tn->(upd H3 W.tn (.lst (S.ts.map V.int++[V.int h]))) x=some u:=fun x u q n1 n2 n3 n4 n5=>by rw [aD n5];exact k13 x u q n1 n2 n3 n4
  have nbt:W.nb≠W.tn:=eU w.tb w.tt (by simp);have c4:pU ao (upd H3 W.tn (.lst (S.ts.map V.int++[V.int h]))) A (nZ S.ns s r):=⟨by rw [aD (eU a.th w.tt (by simp))];exact c3.h,by rw [aD (eU a.tb w.tt (by simp))];exact c3.b,by rw [aD (eU a.ty w.tt (by simp))];exact c3.y,c3.N_,c3.bl⟩;obtain ⟨w4,st⟩:=w.turned (H':=upd H3 W.tn (.lst (S.ts.map V.int++[V.int h]))) eA es er k14 c4 (by rw [aD nbt];exact nb3) (by rw [ak,List.map_append,e];rfl);refine ⟨_,rfl,k1 k s r t _ e es wt er tr tf ?_ w4 st⟩;rw [aD (dX t3 tn3 (by intro z;cases z))];exact t3
structure Bs (H0:Hp) (τ0:Tg) (o:Addr) (τ:Tg) (H:Hp):Prop where
 un:vH τ H
 kp:Kp o H0 H
 tg:∀x u,H0 x=some u->x≠o->τ x=τ0 x
theorem Bs.same {H0 H H':Hp} {τ0 τ:Tg} {o:Addr} (b:Bs H0 τ0 o τ H) (k:Same H H'):Bs H0 τ0 o τ H':=⟨b.un.same k,b.kp.trans (Kp.of_same k),b.tg⟩
theorem Bs.claim {H0 H H':Hp} {τ0 τ:Tg} {o p:Addr} {t:List Nat} (b:Bs H0 τ0 o τ H) (k:Same H H') (hp:H p=none) (hp':∃u,H' p=some u):Bs H0 τ0 o (aO τ p t) H':=
 ⟨b.un.claim k hp',b.kp.trans (Kp.of_same k),fun x u e n=>by rw [aP (au (b.kp _ _ e n) hp)];exact b.tg x u e n⟩
theorem Bs.set {H0 H:Hp} {τ0 τ:Tg} {o x:Addr} {v:HO} (b:Bs H0 τ0 o τ H) (hx:x=o\/H0 x=none):Bs H0 τ0 o τ (upd H x v):=
 ⟨b.un.dom (fun y e=>by
   by_cases z:y=x
   ·rw [z,ak] at e;cases e
   ·rw [aD z] at e;exact e),fun y u e n=>by
   have z:y≠x:=by
    rcases hx with rfl|hx
    ·exact n
    ·exact au e hx
   rw [aD z];exact b.kp _ _ e n,b.tg⟩
theorem Bs.fresh {H0 H:Hp} {τ0 τ:Tg} {o p:Addr} (b:Bs H0 τ0 o τ H) (hp:H p=none) (n:p≠o):H0 p=none:=Vw b.kp n hp
def rm (CW CH CN:Addr) (K:PySem.W.Frag):Sp:=fun vs H Q E=>∃(i:Nat) (τ:Tg) (o dx p L0:Addr) (UW:List Addr) (m:Nat) (cv:V) (ns:List Int) (rws:List (List Rw)),vs=[.ref o,.ref p,cv]/\H o=some (.ins CW dx [])/\H p=some (.tup [.int m,.ref L0])/\H L0=some (.lst (UW.map V.ref))/\UW.length=rws.length /\
 (∀(k:Nat) (r:Addr) (x:List Rw),UW[k]? = some r->rws[k]? = some x->fU H r m x)/\rws.length<=100/\m<=100/\vH τ H/\i≠0/\ns.length<=100/\((cv = .non/\ns=List.replicate m 0) \/ ∃cl,cv = .ref cl/\H cl=some (.lst (ns.map V.int))) /\
 (wu m ns -> ∀(τ':Tg) (W:Pb) (H':Hp),W.o=o->xX CW CH i τ' H' W (Gu m ns rws)->(∀x u,H x=some u->x≠o->τ' x=τ x)->Kp o H H'->Q .non H')/\(¬wu m ns -> ∀H',Kp o H H'->E (.ref CN) none H')
theorem u_ {α:Type} {l:List α} {x y:α} {k:Nat} (h:(l++[x])[k]? = some y):l[k]? = some y\/(k=l.length/\y=x):=by
 by_cases e:k<l.length
 ·rw [List.getElem?_append_left e] at h
  exact .inl h
 ·rw [List.getElem?_append_right (by lia)] at h
  have lt:=(List.getElem?_eq_some_iff.mp h).1;simp at lt;have:k=l.length:=by lia
  subst this;simp at h;exact .inr ⟨rfl,h.symm⟩
theorem QX {aq ao:Addr} {f:Addr} {fd:FuncData} (F:Wk K "__init__" "Works.__init__" bV [.none] f fd) (aU:ig K aq) (aN:iG K ao) {aY:Addr} (xZ:TF P w K mg base 3 "check_numbers" ["cells","count"] (tQ aY K)) (K5:qR P w K mg base 1 ao "Hand" ["self","rows"] [] (yh ao K)) (lZ:MethAt P w K mg base 6 ao "lead_on" ["self"] (Ep ao K)) (Bt:um mg):bZ P w K mg base (vI P w) 7 f fd ["self","program","cells"] (rm aq ao aY K):=by
 refine F.W2 m8 (fun vs H Q E h=> ?_) (fun cdv A outer s H vs Q E hr h hR=> ?_)
 ·obtain ⟨i,τ,o,dx,p,L0,UW,m,cv,ns,rws,rfl,_⟩:=h
  rfl
 ·obtain ⟨i,τ,o,dx,p,L0,UW,m,cv,ns,rws,rfl,ho,hp,hL,lr,ab9,rl,ml,un,i0,nl,hcv,k1,k2⟩:=h
  refine ⟨_,(aF (cU (bM Fi (pv 2) iZ (bJ _)) (aK (pC (i:=2) rfl m8.nd rfl (Or.inl rfl) (N:=["cell"]) (own:=["cell"]) (caps:=[]) (bC.of (by kernel_rfl)) (jc (by rfl) Bt.lF (aj (aW (aZ (K:=K) rfl) (pv 1) aG (fun _ _=>rfl)) aC)) (fun _ _ _ _=>(bW (i:=0) (show List.Nodup (["cell"]:List Str) by decide +kernel) rfl (Or.inl rfl))) (fun _ _ _ _=>fM) (fun _ _ _ _=>aG))) bQ)
   (aF (fO (YW xZ rfl hR (hr.mono (by decide)) (by rfl) (aj (pv 2) (aj (aW (aZ (K:=K) rfl) (pv 1) aG (fun _ _=>rfl)) aC))))
   (aF (cY (K:=K) rfl (pv 0) (jF (aj (aW (aZ (K:=K) rfl) (pv 1) aG (fun _ _=>rfl)) (aj (gA rfl (N:=["rows"]) (own:=["rows"]) (caps:=[]) (bC.of (by kernel_rfl)) (dW (K:=K) rfl (aW (aZ (K:=K) rfl) (pv 1) aG (fun _ _=>rfl))) (fun _ _ _ _=>(bW (i:=0) (show List.Nodup (["rows"]:List Str) by decide +kernel) rfl (Or.inl rfl))) (fun _ _ _ _=>fM) (fun _ _ _ _=>(eV (dH (K:=K) rfl) (by rfl) Bt.jL iB (aj (pv 0) aC)))) aC))) rfl)
   (aF (cY (K:=K) rfl (pv 0) (eV (dH (K:=K) rfl) (by rfl) Bt.jL iB (aj (pv 2) aC)) rfl)
   (aF (cY (K:=K) rfl (pv 0) (gA rfl (N:=["rows"]) (own:=["rows"]) (caps:=[]) (bC.of (by kernel_rfl)) (dW (K:=K) rfl (aW (aZ (K:=K) rfl) (bB (K:=K) rfl (pv 0) rfl) aG (fun _ _=>rfl))) (fun _ _ _ _=>(bW (i:=0) (show List.Nodup (["rows"]:List Str) by decide +kernel) rfl (Or.inl rfl))) (fun _ _ _ _=>fM) (fun _ _ _ _=>(qz K5 (hr.mono (by decide)) (by rfl) (aj (pv 0) aC)))) rfl)
   (aF (cY (K:=K) rfl (pv 0) (eO aC) rfl)
   (aK (tU PassesOwn.leaving rfl (dW (K:=K) rfl (bB (K:=K) rfl (pv 0) rfl)) (bW (i:=3) m8.nd rfl (Or.inl rfl))
   (aK (fO (fP lZ aN.cls (hr.mono (by decide)) (pv 3)))))))))))), ?_⟩
  refine Li (fun σ H1=>∃cl:Addr,σ=[some (.ref o),some (.ref p),some (.ref cl),none]/\H1 cl=some (.lst (ns.map V.int))/\Same H H1) (fun D' hD' rt'=> ?_) ?_
  ·refine ⟨_,rfl,rfl,_,rfl, ?_⟩
   rcases hcv with ⟨rfl,rfl⟩|⟨cl,rfl,hcl⟩
   ·refine gJ ?_
    refine ⟨_,rfl,_,_,_,_,rfl,rfl,cN.of hp,rfl,_,rfl,by lia,by lia,fun D hD=> ?_⟩;rw [Int.toNat_natCast];refine ou (fun _=>some (.int 0)) hD (by lia) (fun i H1 G F hi s1 kG kF=>kF _ H1 (Same.refl _) rfl) (fun H1 s1 e1=> ?_);rw [FZ] at e1;exact hD' _ _ ⟨D,rfl,e1,s1⟩
   ·refine dG ?_
    exact hD' _ _ ⟨cl,rfl,hcl,Same.refl _⟩
  rintro σ H1 ⟨cl,rfl,hcl,s1⟩;have hp1:=s1 _ _ hp;refine uL (fun R g=> ?_);refine ⟨_,rfl,_,rfl,_,_,_,_,rfl,rfl,cN.of hp1,rfl,cl,m,ns,rfl,hcl,nl,fun good H2 s2=> ?_,fun bad H2 s2=>k2 bad H2 (Kp.of_same (s1.trans s2))⟩;refine g _ _ ?_;have Yv:=s1.trans s2;have ho2:=Yv _ _ ho;have hp2:=Yv _ _ hp;have hL2:=Yv _ _ hL;have ach:=s2 _ _ hcl;have Zz:∀(k:Nat) (r:Addr) (x:List Rw),UW[k]? = some r->rws[k]? = some x->fU H2 r m x:=fun k r x a b=>(ab9 k r x a b).same Yv;have B2:Bs H τ o (aO τ o [i,0]) H2:=⟨fun x e=>by rw [aP (au ho2 e).symm];exact un.same Yv x e,Kp.of_same Yv,fun x u e n=>aP n⟩;have to2:aO τ o [i,0] o=[i,0]:=bI;generalize aO τ o [i,0]=τ2 at B2 to2;refine uL (fun R g=> ?_);refine ⟨_,rfl,_,_,_,_,rfl,rfl,cN.of hp2,rfl,_,rfl,_,_,_,_,rfl,rfl,cN.of hp2,rfl,L0,rfl,⟨_,bN.of hL2⟩,fun L hLn=> ?_⟩;have sL:=aH (o:=HO.lst []) hLn;have nLo:L≠o:=(au ho2 hLn).symm;refine jJ (K:=K) (xs:=UW.map V.ref) (fun j σ Hc=>∃(v:Option V) (τc:Tg) (rs:List Addr),σ=[v]/\rs.length=j/\Same H2 Hc/\Hc L=some (.lst (rs.map V.ref))/\Bs H τ o τc Hc/\τc o=[i,0]/\τc L=[0] /\ ∀(k:Nat) (r:Addr) (x:List Rw),rs[k]? = some r->rws[k]? = some x->r≠L/\τc r=[0]/\fU Hc r m x) ?_ ?_ ?_ ?_
  ·exact ⟨none,aO τ2 L [0],[],rfl,rfl,sL,ak,B2.claim sL hLn ⟨_,ak⟩,by rw [aP nLo.symm];exact to2,bI,fun k r x h=>by simp at h⟩
  ·rintro j σ Hc hj ⟨v,τc,rs,rfl,_,sc,_⟩
   exact bN.of (sc _ _ hL2)
  ·rintro j x σ Hc hj ⟨v,τc,rs,rfl,lj,sc,hLc,Bc,toc,tLc,hc⟩
   rw [List.getElem?_map] at hj
   obtain ⟨r0,er0,rfl⟩:∃r0,UW[j]? = some r0/\x = .ref r0:=by
    cases e:UW[j]? with
    | none=>rw [e] at hj;cases hj
    | some r0=>rw [e] at hj;exact ⟨r0,rfl,(Option.some.inj hj).symm⟩
   have jl:j<rws.length:=by rw [←lr];exact (List.getElem?_eq_some_iff.mp er0).1
   have ex:rws[j]? = some rws[j]:=by simp [jl]
   have rr:=Zz j r0 _ er0 ex;obtain ⟨ts,hts,dts,rq,rl'⟩:=rr;dsimp only [gR,BP];rw [if_pos rfl];refine ⟨_,rfl,r0,_,rfl,.inl (bN.of (sc _ _ hts)),fun r hrn=> ?_⟩;have sr:=aH (o:=HO.lst ts) hrn;have nrL:r≠L:=(au hLc hrn).symm;have nro:r≠o:=(au (sc _ _ ho2) hrn).symm;have hLf:H L=none:=Yv.free hLn;refine ⟨rs.map V.ref,sr _ _ hLc,(by rw [List.length_map,sizeLine_eq];lia),some (.ref r0),aO τc r [0],rs++[r],rfl,by simp [lj],fun y u e=> ?_,by rw [ak];simp,(Bc.claim sr hrn ⟨_,ak⟩).set (.inr hLf), ?_, ?_, ?_⟩
   ·rw [aD (au e hLn)]
    exact sr _ _ (sc _ _ e)
   ·rw [aP nro.symm];exact toc
   ·rw [aP nrL.symm];exact tLc
   ·intro k r' x' h1 h2
    have tups:∀y ys,Hc y=some (.tup ys)->(upd (upd Hc r (.lst ts)) L (.lst (rs.map V.ref++[V.ref r]))) y=some (.tup ys):=fun y ys e=>by
     rw [aD (dX e hLc (by intro z;cases z))];exact sr _ _ e
    rcases u_ h1 with h1|⟨e1,rfl⟩
    ·obtain ⟨n1,t1,R1⟩:=hc k r' x' h1 h2
     have rr:=R1;obtain ⟨ts',hr',_⟩:=rr;have n2:r'≠r:=au hr' hrn;refine ⟨n1,by rw [aP n2];exact t1,R1.keep (fun u e=> ?_) tups⟩;rw [aD n1];exact sr _ _ e
    ·rw [e1,lj,ex] at h2
     cases h2;refine ⟨nrL,bI,ts,by rw [aD nrL,ak], ?_,rq,rl'⟩;exact dts.keep (fun y ys e=>tups _ _ (sc _ _ e)) _ (Ii _)
  rintro σ H3 ⟨v,τ3,rs,rfl,lrs,WL,hL3,B3,to3,tL3,Xg⟩;rw [List.length_map] at lrs;have ZF:=WL _ _ ho2;refine ⟨(by show 2<=sizeLine;decide),fun pg hpg=> ?_⟩;have spg:=aH (o:=HO.tup [V.int m,V.ref L]) hpg;refine ⟨_,rfl,o,aq,dx,_,rfl,spg _ _ ZF,aU.cls,aU.wz,(by show 0<1000;decide), ?_⟩;refine g _ _ ?_;have ain:pg≠o:=(au ZF hpg).symm;have ho4:(upd (upd H3 pg (.tup [V.int m,V.ref L])) o (.ins aq dx (cH "program" (.ref pg) []))) o=some (.ins aq dx [("program",.ref pg)]):=ak;have ab':(upd (upd H3 pg (.tup [V.int m,V.ref L])) o (.ins aq dx (cH "program" (.ref pg) []))) pg=some (.tup [V.int m,V.ref L]):=by rw [aD ain,ak]
  have q4:rP [[i,0]] τ3 H3 τ3 (upd (upd H3 pg (.tup [V.int m,V.ref L])) o (.ins aq dx (cH "program" (.ref pg) []))):=(rP.of_same spg).trans (rP.set (by rw [to3];simp) (spg _ _ ZF) (by intro xs z;cases z));have B4:Bs H τ o τ3 (upd (upd H3 pg (.tup [V.int m,V.ref L])) o (.ins aq dx (cH "program" (.ref pg) []))):=(B3.same spg).set (.inl rfl);have yr:Kp o H3 (upd (upd H3 pg (.tup [V.int m,V.ref L])) o (.ins aq dx (cH "program" (.ref pg) []))):=(Kp.of_same spg).trans Kp.set;generalize (upd (upd H3 pg (.tup [V.int m,V.ref L])) o (.ins aq dx (cH "program" (.ref pg) [])))=H4 at ho4 ab' q4 B4 yr ⊢;have hL4:=(q4.keep _ _ hL3 (by rw [tL3];simp)).1;have Ca:∀(k:Nat) (r:Addr) (x:List Rw),rs[k]? = some r->rws[k]? = some x->τ3 r=[0]/\fU H4 r m x:=fun k r x h1 h2=>iM ⟨(Xg k r x h1 h2).2.1,(Xg k r x h1 h2).2.2⟩ q4 (by simp);have ait:cl≠o:=dX ach ho2 (by intro z;cases z);have ajX:=yr _ _ (WL _ _ ach) ait;refine uL (fun R g=> ?_);refine ⟨_,rfl,cl,_,rfl,.inl (bN.of ajX),fun nb hnb=> ?_⟩;have snb:=aH (o:=HO.lst (ns.map V.int)) hnb;refine ⟨_,rfl,o,aq,dx,_,rfl,snb _ _ ho4,aU.cls,aU.lH,(by show 1<1000;decide), ?_⟩;refine g _ _ ?_;have Zf:nb≠o:=(au ho4 hnb).symm;have Ua:(upd (upd H4 nb (.lst (ns.map V.int))) o (.ins aq dx (cH "numbers" (.ref nb) [("program",.ref pg)]))) o=some (.ins aq dx [("program",.ref pg),("numbers",.ref nb)]):=ak;have acg:(upd (upd H4 nb (.lst (ns.map V.int))) o (.ins aq dx (cH "numbers" (.ref nb) [("program",.ref pg)]))) nb=some (.lst (ns.map V.int)):=by rw [aD Zf,ak]
  have q5:rP [[i,0]] τ3 H4 (aO τ3 nb [i,1]) (upd (upd H4 nb (.lst (ns.map V.int))) o (.ins aq dx (cH "numbers" (.ref nb) [("program",.ref pg)]))):=(rP.claim snb hnb).trans (rP.set (by rw [aP Zf.symm,to3];simp) (snb _ _ ho4) (by intro xs z;cases z));have B5:Bs H τ o (aO τ3 nb [i,1]) (upd (upd H4 nb (.lst (ns.map V.int))) o (.ins aq dx (cH "numbers" (.ref nb) [("program",.ref pg)]))):=(B4.claim snb hnb ⟨_,ak⟩).set (.inl rfl);have to5:aO τ3 nb [i,1] o=[i,0]:=by rw [aP Zf.symm];exact to3
  have tn5:aO τ3 nb [i,1] nb=[i,1]:=bI;generalize (upd (upd H4 nb (.lst (ns.map V.int))) o (.ins aq dx (cH "numbers" (.ref nb) [("program",.ref pg)])))=H5 at Ua acg q5 B5 ⊢;generalize aO τ3 nb [i,1]=τ5 at q5 B5 to5 tn5;have hL5:=q5.keep _ _ hL4 (by rw [tL3];simp);have hr5:∀(k:Nat) (r:Addr) (x:List Rw),rs[k]? = some r->rws[k]? = some x->τ5 r=[0]/\fU H5 r m x:=fun k r x h1 h2=>iM (Ca k r x h1 h2) q5 (by simp);have ab_:=q5.tup _ _ ab';have tL5:τ5 L=[0]:=hL5.2.trans tL3;have hL5:=hL5.1;refine uL (fun R g=> ?_);refine ⟨_,rfl,o,aq,dx,_,_,rfl,Ua,aU.cls,aU.wz,rfl,_,_,_,_,rfl,rfl,cN.of ab_,rfl,L,rfl,⟨_,bN.of hL5⟩,fun hl hhl=> ?_⟩;have shl:=aH (o:=HO.lst []) hhl;have aiq:hl≠o:=(au Ua hhl).symm;refine jJ (K:=K) (xs:=rs.map V.ref) (fun j σ Hc=>∃(v:Option V) (τc:Tg) (hd:List qU),σ=[v]/\hd.length=j/\Same H5 Hc/\Hc hl=some (.lst (hd.map fun a=> .ref a.h))/\Bs H τ o τc Hc/\(∀x u,H5 x=some u->τc x=τ5 x)/\τc hl=[i,2] /\ ∀(k:Nat) (A:qU) (x:List Rw),hd[k]? = some A->rws[k]? = some x->xY ao i k m τc Hc A (new x)/\H A.h=none/\H A.b=none/\H A.sy=none) ?_ ?_ ?_ ?_
  ·exact ⟨none,aO τ5 hl [i,2],[],rfl,rfl,shl,ak,B5.claim shl hhl ⟨_,ak⟩,fun x u e=>aP (au e hhl),bI,fun k A x h=>by simp at h⟩
  ·rintro j σ Hc hj ⟨v,τc,hd,rfl,_,sc,_⟩
   exact bN.of (sc _ _ hL5)
  ·rintro j x σ Hc hj ⟨v,τc,hd,rfl,lj,sc,Xi,Bc,tgc,tlc,hc⟩
   rw [List.getElem?_map] at hj
   obtain ⟨r,er,rfl⟩:∃r,rs[j]? = some r/\x = .ref r:=by
    cases e:rs[j]? with
    | none=>rw [e] at hj;cases hj
    | some r0=>rw [e] at hj;exact ⟨r0,rfl,(Option.some.inj hj).symm⟩
   have jl:j<rws.length:=by rw [←lr,←lrs];exact (List.getElem?_eq_some_iff.mp er).1
   have ex:rws[j]? = some rws[j]:=by simp [jl]
   obtain ⟨tr,R⟩:=hr5 j r _ er ex;have rr:=R;obtain ⟨ts,hts,_⟩:=rr;dsimp only [gR,BP];rw [if_pos rfl];refine ⟨_,rfl,fun h hx hn hxn nhx=> ?_⟩;have hn':(upd Hc hx (.own h)) h=none:=by rw [aD nhx.symm];exact hn
   have sm:Same Hc (upd (upd Hc hx (.own h)) h (.ins ao hx [])):=(aH hxn).trans (aH hn');refine ⟨h,r,hx,rfl,ak,fun b sy H7 hb hsy abQ h7 b7 sy7 k7=>⟨rfl, ?_⟩⟩;have S7:Same Hc H7:=fun y u e=>k7 _ _ (sm _ _ e) (au e hn);have fb:Hc b=none:=sm.free hb;have fy:Hc sy=none:=sm.free hsy;have nhl:hl≠h:=au Xi hn;have nbl:hl≠b:=au Xi fb;have nyl:hl≠sy:=au Xi fy;have Vs:h≠b:=au ak hb;have W5:h≠sy:=au ak hsy;have hlf:H hl=none:=B5.fresh hhl aiq;have sH:Same Hc Hc:=Same.refl _;have T:∀x u,Hc x=some u->aO (aO (aO τc h [i,4,j]) b [i,5,j]) sy [i,6,j] x=τc x:=fun y u e=>by rw [aP (au e fy),aP (au e fb),aP (au e hn)]
   have B7:Bs H τ o (aO (aO (aO τc h [i,4,j]) b [i,5,j]) sy [i,6,j]) H7:=by
    refine ⟨fun y e=> ?_,Bc.kp.trans (Kp.of_same S7),fun y u e n=> ?_⟩
    ·have n1:y≠h:=fun z=>by rw [z,h7] at e;cases e
     have n2:y≠b:=fun z=>by rw [z,b7] at e;cases e
     have n3:y≠sy:=fun z=>by rw [z,sy7] at e;cases e
     rw [aP n3,aP n2,aP n1];exact Bc.un y (S7.free e)
    ·rw [T y u (Bc.kp _ _ e n)]
     exact Bc.tg y u e n
   have q7:rP [[i,2]] τc Hc (aO (aO (aO τc h [i,4,j]) b [i,5,j]) sy [i,6,j]) (upd H7 hl (.lst ((hd.map fun a=>V.ref a.h)++[V.ref h]))):=by
    refine ⟨fun y u e n=>⟨?_,T y u e⟩,fun y ys e=> ?_⟩
    ·rw [aD (fun z:y=hl=>n (by rw [z,tlc];simp))]
     exact S7 _ _ e
    ·rw [aD (dX e Xi (by intro z;cases z))]
     exact S7 _ _ e
   have Th:aO (aO (aO τc h [i,4,j]) b [i,5,j]) sy [i,6,j] h=[i,4,j]:=by rw [aP W5,aP Vs,bI]
   have Tb:aO (aO (aO τc h [i,4,j]) b [i,5,j]) sy [i,6,j] b=[i,5,j]:=by rw [aP abQ,bI]
   have Ty:aO (aO (aO τc h [i,4,j]) b [i,5,j]) sy [i,6,j] sy=[i,6,j]:=bI;generalize aO (aO (aO τc h [i,4,j]) b [i,5,j]) sy [i,6,j]=τ7 at T B7 q7 Th Tb Ty;refine ⟨_,S7 _ _ Xi,(by rw [List.length_map,sizeLine_eq];lia),some (.ref r),τ7,hd++[⟨h,hx,r,b,sy⟩],rfl,by simp [lj],fun y u e=> ?_,by rw [ak];simp,B7.set (.inr hlf),fun y u e=> ?_, ?_, ?_⟩
   ·rw [aD (au e hhl)]
    exact S7 _ _ (sc _ _ e)
   ·rw [T y u (sc _ _ e)]
    exact tgc y u e
   ·rw [T _ _ Xi];exact tlc
   ·intro k A x' h1 h2
    rcases u_ h1 with h1|⟨e1,rfl⟩
    ·exact ⟨(hc k A x' h1 h2).1.mvT q7 (by simp) (by simp) (by simp) (by simp),(hc k A x' h1 h2).2⟩
    ·rw [e1,lj,ex] at h2
     cases h2;rw [e1,lj];have tr':τc r=[0]:=by rw [tgc _ _ hts];exact tr
     obtain ⟨t9,R9⟩:=iM ⟨tr',R.same sc⟩ q7 (by simp);have hoc:=sc _ _ Ua;exact ⟨⟨⟨by rw [aD nhl.symm];exact h7,by rw [aD nbl.symm];exact b7,by rw [aD nyl.symm];exact sy7,abQ,rfl⟩,R9,t9,Th,Tb,Ty⟩,Bc.fresh hn (au hoc hn).symm,Bc.fresh fb (au hoc fb).symm,Bc.fresh fy (au hoc fy).symm⟩
  rintro σ H8 ⟨v,τ8,hd,rfl,lhd,s58,ajT,B8,Us,tl8,hd8⟩;rw [List.length_map] at lhd;have VP:=s58 _ _ Ua;have X4:τ8 o=[i,0]:=by rw [Us _ _ Ua];exact to5
  refine ⟨_,rfl,o,aq,dx,_,rfl,VP,aU.cls,aU.pG,(by show 2<1000;decide), ?_⟩;refine g _ _ ?_;have ho9:(upd H8 o (.ins aq dx (cH "hands" (.ref hl) [("program",.ref pg),("numbers",.ref nb)]))) o=some (.ins aq dx [("program",.ref pg),("numbers",.ref nb),("hands",.ref hl)]):=ak;have q9:rP [[i,0]] τ8 H8 τ8 (upd H8 o (.ins aq dx (cH "hands" (.ref hl) [("program",.ref pg),("numbers",.ref nb)]))):=rP.set (by rw [X4];simp) VP (by intro xs z;cases z);have B9:Bs H τ o τ8 (upd H8 o (.ins aq dx (cH "hands" (.ref hl) [("program",.ref pg),("numbers",.ref nb)]))):=B8.set (.inl rfl);generalize (upd H8 o (.ins aq dx (cH "hands" (.ref hl) [("program",.ref pg),("numbers",.ref nb)])))=H9 at ho9 q9 B9 ⊢;refine uL (fun R g=> ?_);refine ⟨(by show 0<=sizeLine;decide),fun tn htn=> ?_⟩;have stn:=aH (o:=HO.lst []) htn;refine ⟨_,rfl,o,aq,dx,_,rfl,stn _ _ ho9,aU.cls,aU.uW,(by show 3<1000;decide), ?_⟩;refine g _ _ ?_;have Za:tn≠o:=(au ho9 htn).symm;have Ol:(upd (upd H9 tn (.lst [])) o (.ins aq dx (cH "turns" (.ref tn) [("program",.ref pg),("numbers",.ref nb),("hands",.ref hl)]))) o=some (.ins aq dx (wF pg nb hl tn)):=ak;have Xd:(upd (upd H9 tn (.lst [])) o (.ins aq dx (cH "turns" (.ref tn) [("program",.ref pg),("numbers",.ref nb),("hands",.ref hl)]))) tn=some (.lst []):=by rw [aD Za,ak]
  have YF:rP [[i,0]] τ8 H9 (aO τ8 tn [i,3]) (upd (upd H9 tn (.lst [])) o (.ins aq dx (cH "turns" (.ref tn) [("program",.ref pg),("numbers",.ref nb),("hands",.ref hl)]))):=(rP.claim stn htn).trans (rP.set (by rw [aP Za.symm,X4];simp) (stn _ _ ho9) (by intro xs z;cases z));have B10:Bs H τ o (aO τ8 tn [i,3]) (upd (upd H9 tn (.lst [])) o (.ins aq dx (cH "turns" (.ref tn) [("program",.ref pg),("numbers",.ref nb),("hands",.ref hl)]))):=(B9.claim stn htn ⟨_,ak⟩).set (.inl rfl);have Nj:aO τ8 tn [i,3] o=[i,0]:=by rw [aP Za.symm];exact X4
  have Ni:aO τ8 tn [i,3] tn=[i,3]:=bI;have JV:=q9.trans YF;generalize (upd (upd H9 tn (.lst [])) o (.ins aq dx (cH "turns" (.ref tn) [("program",.ref pg),("numbers",.ref nb),("hands",.ref hl)])))=Xx at Ol Xd YF B10 JV ⊢;generalize aO τ8 tn [i,3]=G4 at YF B10 Nj Ni JV;have Dl:=JV.keep _ _ ajT (by rw [tl8];simp);have Qj:G4 hl=[i,2]:=Dl.2.trans tl8;have Dl:=Dl.1
  have n5:∀x u,H5 x=some u->τ5 x≠[i,0]->Xx x=some u/\G4 x=τ5 x:=fun x u e n=>by
   have:=JV.keep _ _ (s58 _ _ e) (by rw [Us _ _ e];simp [n]);exact ⟨this.1,by rw [this.2,Us _ _ e]⟩
  have acj:=n5 _ _ hL5 (by rw [tL5];simp);have Xh:=n5 _ _ acg (by rw [tn5];simp);have acd:=JV.tup _ _ (s58 _ _ ab_);have ajW:∀(k:Nat) (A:qU) (x:List Rw),hd[k]? = some A->rws[k]? = some x->xY ao i k m G4 Xx A (new x):=fun k A x h1 h2=>(hd8 k A x h1 h2).1.mvT JV (by simp) (by simp) (by simp) (by simp)
  have ajM:∀(k:Nat) (r:Addr) (x:List Rw),rs[k]? = some r->rws[k]? = some x->G4 r=[0]/\fU Xx r m x:=fun k r x h1 h2=>by
   obtain ⟨t5,R5⟩:=hr5 k r x h1 h2;have rr:=R5;obtain ⟨ts,hts,_⟩:=rr;exact iM ⟨by rw [Us _ _ hts];exact t5,R5.same s58⟩ JV (by simp)
  have lh:hd.length=rws.length:=by rw [lhd,lrs,lr]
  refine ⟨_,rfl,o,aq,dx,_,_,rfl,Ol,aU.cls,aU.pG,rfl,hl,rfl,⟨_,bN.of Dl⟩, ?_⟩
  refine vg (K:=K) (a:=hl) (xs:=hd.map fun a=>V.ref a.h) (fun j σ Hc=>∃x1:Option V,σ=[some (.ref o),some (.ref p),some (.ref cl),x1]/\(∀x u,Xx x=some u->(∀k,G4 x≠[i,4,k])->(∀k,G4 x≠[i,5,k])->(∀k,G4 x≠[i,6,k])->Hc x=some u)/\(∀x ys,Xx x=some (.tup ys)->Hc x=some (.tup ys))/\Bs H τ o G4 Hc /\
   ∀(k:Nat) (A:qU) (x:List Rw),hd[k]? = some A->rws[k]? = some x->xY ao i k m G4 Hc A (if k<j then lead (new x) else new x))
   ⟨none,rfl,fun x u e _ _ _=>e,fun x ys e=>e,B10,fun k A x h1 h2=>by rw [if_neg (by lia)];exact ajW k A x h1 h2⟩ (fun j σ Hc _ ⟨_,_,kc,_⟩=>bN.of (kc _ _ Dl (by rw [Qj];simp) (by rw [Qj];simp) (by rw [Qj];simp))) ?_ ?_
  ·rintro j v σ Hc hj ⟨x1,rfl,kc,tc,Bc,hc⟩
   rw [List.getElem?_map] at hj
   obtain ⟨A,eA,rfl⟩:∃A,hd[j]? = some A/\v = .ref A.h:=by
    cases e:hd[j]? with
    | none=>rw [e] at hj;cases hj
    | some A=>rw [e] at hj;exact ⟨A,rfl,(Option.some.inj hj).symm⟩
   have jl:j<rws.length:=by rw [←lh];exact (List.getElem?_eq_some_iff.mp eA).1
   have ex:rws[j]? = some rws[j]:=by simp [jl]
   have a:=hc j A _ eA ex;rw [if_neg (by lia)] at a;refine ⟨_,rfl,A.h,A.hx,_,rfl,a.c.h,rfl,A,_,m,rfl,a.c,a.r,eU a.tr a.tb (by intro z;cases z),eU a.tr a.ty (by intro z;cases z),(by show 0<900000;decide),fun H12 c12 k12=> ?_⟩;have q12:rP [[i,4,j],[i,5,j],[i,6,j]] G4 Hc G4 H12:=⟨fun x u e n=>⟨k12 _ _ e (fun z=>n (by rw [z,a.th];simp)) (fun z=>n (by rw [z,a.tb];simp)) (fun z=>n (by rw [z,a.ty];simp)),rfl⟩,a.c.tup k12⟩;refine ⟨_,rfl,fun x u e n4 n5 n6=>(q12.keep _ _ (kc x u e n4 n5 n6) (by simp [n4,n5,n6])).1,fun x ys e=>q12.tup _ _ (tc _ _ e), ?_, ?_⟩
   ·obtain ⟨f1,f2,f3⟩:=(hd8 j A _ eA ex).2
    refine ⟨Bc.un.dom fun x e=> ?_,fun x u e n=>k12 _ _ (Bc.kp _ _ e n) (au e f1) (au e f2) (au e f3),Bc.tg⟩;cases q:Hc x with
    | none=>rfl
    | some u=>
      have no:∀y o,H12 y=some o->x≠y:=fun y o h z=>by rw [z,h] at e;cases e
      rw [k12 _ _ q (no _ _ c12.h) (no _ _ c12.b) (no _ _ c12.y)] at e;cases e
   ·intro k A' x h1 h2
    by_cases z:k=j
    ·subst z
     rw [eA] at h1;cases h1;rw [ex] at h2;cases h2;rw [if_pos (by lia)];have lr':(lead (new rws[k])).rws=rws[k]:=uZ _ _;refine ⟨c12, ?_,a.tr,a.th,a.tb,a.ty⟩;rw [lr'];exact (iM ⟨a.tr,a.r⟩ q12 (by simp)).2
    ·have b:=(hc k A' x h1 h2).mvT q12 (by simp) (by simp [z]) (by simp [z]) (by simp [z])
     by_cases lt:k<j
     ·rw [if_pos lt] at b
      rw [if_pos (by lia)];exact b
     ·rw [if_neg lt] at b
      rw [if_neg (by lia)];exact b
  ·rintro σ H11 ⟨x1,rfl,kc,tc,Bc,hc⟩
   rw [List.length_map] at hc;have kt:∀x u t,Xx x=some u->G4 x=t->(∀k,t≠[i,4,k])->(∀k,t≠[i,5,k])->(∀k,t≠[i,6,k])->H11 x=some u:=fun x u t e et n4 n5 n6=>kc x u e (by rw [et];exact n4) (by rw [et];exact n5) (by rw [et];exact n6);have abb:G4 L=[0]:=acj.2.trans tL5;have aaY:G4 nb=[i,1]:=Xh.2.trans tn5
   have get:∀(k:Nat) (s:bO),(rws.map fun r=>lead (new r))[k]? = some s -> ∃x,rws[k]? = some x/\s=lead (new x):=fun k s e=>by
    rw [List.getElem?_map] at e;cases q:rws[k]? with
    | none=>rw [q] at e;cases e
    | some x=>rw [q] at e;exact ⟨x,rfl,(Option.some.inj e).symm⟩
   refine k1 good G4 ⟨o,dx,pg,L,nb,hl,tn,rs,hd⟩ H11 rfl ⟨Bc.un,i0,kt _ _ _ Ol Nj (by simp) (by simp) (by simp),tc _ _ acd,kt _ _ _ acj.1 abb (by simp) (by simp) (by simp),kt _ _ _ Xh.1 aaY (by simp) (by simp) (by simp),kt _ _ _ Dl Qj (by simp) (by simp) (by simp),kt _ _ _ Xd Ni (by simp) (by simp) (by simp),Nj,aaY,Qj,Ni,abb, ?_, ?_, ?_, ?_, ?_, ?_, ?_, ?_⟩ Bc.tg Bc.kp
   ·show rs.length=(rws.map _).length
    rw [List.length_map,lrs,lr]
   ·intro k r s h1 h2
    obtain ⟨x,ex,rfl⟩:=get k s h2;obtain ⟨t1,R1⟩:=ajM k r x h1 ex;have lr':(lead (new x)).rws=x:=uZ _ _;rw [lr'];exact ⟨t1,R1.keep (fun u e=>kt _ _ _ e t1 (by simp) (by simp) (by simp)) tc⟩
   ·show hd.length=(rws.map _).length
    rw [List.length_map,lh]
   ·intro k A s h1 h2
    obtain ⟨x,ex,rfl⟩:=get k s h2;have:=hc k A x h1 ex;rw [if_pos (List.getElem?_eq_some_iff.mp h1).1] at this;exact this
   ·intro s ms
    obtain ⟨x,_,rfl⟩:=List.mem_map.mp ms;exact Kh _ _
   ·intro s ms
    obtain ⟨x,_,rfl⟩:=List.mem_map.mp ms;exact Kg 60 (new x)
   ·have:=good.1
    show ns.length=m;lia
   ·show (rws.map _).length<=100
    rw [List.length_map];exact rl
def Tt:Nat->PyData->Prop
 | 0,_=>False
 | n+1,.list ds=>ds.length<=20000 /\ ∀d∈ds,Tt n d
 | n+1,.tuple ds=>ds.length<=20000 /\ ∀d∈ds,Tt n d
 | _+1,.int _=>True
 | _+1,.str _=>True
 | _+1,.none=>True
 | _+1,.bool _=>True
 | _+1,_=>False
theorem Tt.ints {n:Nat} {ns:List Int} (h:ns.length<=20000):Tt (n+2) (.list (ns.map PyData.int)):=by
 refine ⟨by rw [List.length_map];exact h,fun d hd=> ?_⟩;obtain ⟨i,_,rfl⟩:=List.mem_map.mp hd;trivial
theorem Vy (K:PySem.W.Frag):PySem.W.kitOne K (.type "str") (.type "tuple")=some false:=by kernel_rfl
theorem VB (K:PySem.W.Frag):PySem.W.kitOne K (.type "str") (.type "list")=some false:=by kernel_rfl
theorem Fz (K:PySem.W.Frag):PySem.W.kitOne K (.type "str") (.type "bool")=some false:=by kernel_rfl
theorem Vz (K:PySem.W.Frag):PySem.W.kitOne K (.type "str") (.type "str")=some true:=rfl
theorem VG (K:PySem.W.Frag):PySem.W.kitOne K (.type "int") (.type "tuple")=some false:=by kernel_rfl
theorem VJ (K:PySem.W.Frag):PySem.W.kitOne K (.type "int") (.type "list")=some false:=by kernel_rfl
theorem VH (K:PySem.W.Frag):PySem.W.kitOne K (.type "int") (.type "str")=some false:=by kernel_rfl
theorem VL (K:PySem.W.Frag):PySem.W.kitOne K (.type "bool") (.type "tuple")=some false:=by kernel_rfl
theorem VN (K:PySem.W.Frag):PySem.W.kitOne K (.type "bool") (.type "list")=some false:=by kernel_rfl
theorem VD (K:PySem.W.Frag):PySem.W.kitOne K (.type "NoneType") (.type "tuple")=some false:=by kernel_rfl
theorem VF (K:PySem.W.Frag):PySem.W.kitOne K (.type "NoneType") (.type "list")=some false:=by kernel_rfl
theorem Ds (n:Nat) (v:V):(List.range n).filterMap (fun _=>some v)=List.replicate n v:=by
 induction n with
 | zero=>rfl
 | succ n ih=>rw [d9,ih,List.replicate_succ'];rfl
def jR (n:Nat) (K:PySem.W.Frag):Sp:=fun vs H Q _=>∃(x y:V) (d:PyData),vs=[x,y]/\Dat H x d/\Dat H y d/\Tt n d /\ ∀H',Same H H'->Q (.bl true) H'
theorem N5 {f:Addr} {fd:FuncData} (F:kO K "_law_alike" "_law_alike" iK f fd):bZ P w K mg base kY 1 f fd ["found","due"] (jR 0 K):=by
 refine F.ok CG (fun vs H Q E h=> ?_) (fun cdv A outer s H vs Q E hr h=> ?_)
 ·obtain ⟨x,y,d,_,_,_,z,_⟩:=h
  exact z.elim
 ·obtain ⟨x,y,d,_,_,_,z,_⟩:=h
  exact z.elim
theorem rF {n:Nat} {f:Addr} {fd:FuncData} (F:kO K "_law_alike" "_law_alike" iK f fd) (jt:FnAt P w K mg base (n+1) "_law_alike" ["found","due"] (jR n K)) (Bt:um mg):bZ P w K mg base kY (n+1+1) f fd ["found","due"] (jR (n+1) K):=by
 refine F.ok CG (fun vs H Q E h=> ?_) (fun cdv A outer s H vs Q E hr h=> ?_)
 ·obtain ⟨x,y,d,rfl,_⟩:=h
  rfl
 ·obtain ⟨x,y,d,rfl,dx,dy,pl,k⟩:=h
  refine ⟨_,(aF (cU (PW.pt (pP (dI (aQ (cX (K:=K) (cv:= .ty "tuple") (c:= .type "tuple") rfl rfl) (by rfl) Bt.bH bx (aj (pv 1) (aj (fD (v:= .ty "tuple") (by rfl) Bt.yw vo rfl) aC)))) (lQ (dI (aQ (cX (K:=K) (cv:= .ty "list") (c:= .type "list") rfl rfl) (by rfl) Bt.bH bx (aj (pv 1) (aj (fD (v:= .ty "list") (by rfl) Bt.jL iB rfl) aC))))))) (aF (cU (PW.pt (pP (bM rT (aQ (cX (K:=K) (cv:= .ty "tuple") (c:= .type "tuple") rfl rfl) (by rfl) Bt.bH bx (aj (pv 0) (aj (fD (v:= .ty "tuple") (by rfl) Bt.yw vo rfl) aC))) (aQ (cX (K:=K) (cv:= .ty "tuple") (c:= .type "tuple") rfl rfl) (by rfl) Bt.bH bx (aj (pv 1) (aj (fD (v:= .ty "tuple") (by rfl) Bt.yw vo rfl) aC))) (bJ _)) (lQ (bM rT (aQ (cX (K:=K) (cv:= .ty "list") (c:= .type "list") rfl rfl) (by rfl) Bt.bH bx (aj (pv 0) (aj (fD (v:= .ty "list") (by rfl) Bt.jL iB rfl) aC))) (aQ (cX (K:=K) (cv:= .ty "list") (c:= .type "list") rfl rfl) (by rfl) Bt.bH bx (aj (pv 1) (aj (fD (v:= .ty "list") (by rfl) Bt.jL iB rfl) aC))) (bJ _))))) (aK (bK wZ)) bQ)
   (aF (cU (bM rT (aQ (bw (K:=K) rfl) (by rfl) Bt.gK dR (aj (pv 0) aC)) (aQ (bw (K:=K) rfl) (by rfl) Bt.gK dR (aj (pv 1) aC)) (bJ _)) (aK (bK wZ)) bQ)
   (aK (bK (aQ (iR (K:=K) rfl rfl) (by rfl) Bt.MK Gk (aj (gA rfl (N:=["mine","other"]) (own:=["mine","other"]) (caps:=[]) (bC.of (by kernel_rfl)) (Vc (K:=K) rfl (by rfl) Bt.adz (aj (pv 0) (aj (pv 1) aC))) (fun _ _ _ _=>(Ls (K:=K) (n:=2) rfl rfl (uT (bW (i:=0) (show List.Nodup (["mine","other"]:List Str) by decide +kernel) rfl (Or.inl rfl)) (uT (bW (i:=1) (show List.Nodup (["mine","other"]:List Str) by decide +kernel) rfl (Or.inl rfl)) Lr)))) (fun _ _ _ _=>fM) (fun _ _ _ _=>(cA jt (hr.mono (Nat.le_refl _)) (by rfl) (aj (pv 0) (aj (pv 1) aC))))) aC)))))) bQ)
   (aF (cU (bM Fi (pv 1) iZ (bJ _)) (aK (bK (gB Fi (pv 0) iZ (bJ _)))) bQ)
   (aF (cU (PW.pt (pP (dI (aQ (cX (K:=K) (cv:= .ty "bool") (c:= .type "bool") rfl rfl) (by rfl) Bt.bH bx (aj (pv 1) (aj (fD (v:= .ty "bool") (by rfl) Bt.Br vp rfl) aC)))) (lQ (dI (aQ (cX (K:=K) (cv:= .ty "str") (c:= .type "str") rfl rfl) (by rfl) Bt.bH bx (aj (pv 1) (aj (fD (v:= .ty "str") (by rfl) Bt.adA aac rfl) aC))))))) (aK (bK (qC (gB h_ (aQ (cX (K:=K) (cv:= .ty "bool") (c:= .type "bool") rfl rfl) (by rfl) Bt.bH bx (aj (pv 0) (aj (fD (v:= .ty "bool") (by rfl) Bt.Br vp rfl) aC))) (aQ (cX (K:=K) (cv:= .ty "bool") (c:= .type "bool") rfl rfl) (by rfl) Bt.bH bx (aj (pv 1) (aj (fD (v:= .ty "bool") (by rfl) Bt.Br vp rfl) aC))) (bJ _)) (qy (gB h_ (pv 0) (pv 1) (bJ _)))))) bQ)
   (aK (bK (qC (aQ (cX (K:=K) (cv:= .ty "int") (c:= .type "int") rfl rfl) (by rfl) Bt.bH bx (aj (pv 0) (aj (fD (v:= .ty "int") (by rfl) Bt.Jh Bf rfl) aC))) (qC (QJ (aQ (cX (K:=K) (cv:= .ty "bool") (c:= .type "bool") rfl rfl) (by rfl) Bt.bH bx (aj (pv 0) (aj (fD (v:= .ty "bool") (by rfl) Bt.Br vp rfl) aC)))) (qy (gB h_ (pv 0) (pv 1) (bJ _)))))))))), ?_⟩
  match d,pl,dx,dy with
  | .int i,pl,dx,dy=>
    simp only [Dat] at dx dy;subst dx dy;refine ⟨_,rfl,_,_,false,rfl,.int i,VG K,_,rfl,dG ?_⟩;refine ⟨_,rfl,_,_,false,rfl,.int i,VJ K,_,rfl,dG ?_⟩;refine ⟨_,rfl,rfl,_,rfl,dG ?_⟩;refine ⟨_,rfl,_,_,false,rfl,.int i,pK K,_,rfl,dG ?_⟩;refine ⟨_,rfl,_,_,false,rfl,.int i,VH K,_,rfl,dG ?_⟩;refine ⟨_,rfl,_,_,true,rfl,.int i,xG K,_,rfl,gJ ?_⟩;refine ⟨_,rfl,_,_,false,rfl,.int i,pK K,_,rfl,_,rfl,gJ ?_⟩;refine ⟨_,rfl,_,rfl,rfl, ?_⟩;rw [decide_eq_true rfl];exact k _ (Same.refl _)
  | .str i,pl,dx,dy=>
    simp only [Dat] at dx dy;subst dx dy;refine ⟨_,rfl,_,_,false,rfl,.str i,Vy K,_,rfl,dG ?_⟩;refine ⟨_,rfl,_,_,false,rfl,.str i,VB K,_,rfl,dG ?_⟩;refine ⟨_,rfl,rfl,_,rfl,dG ?_⟩;refine ⟨_,rfl,_,_,false,rfl,.str i,Fz K,_,rfl,dG ?_⟩;refine ⟨_,rfl,_,_,true,rfl,.str i,Vz K,_,rfl,gJ ?_⟩;refine ⟨_,rfl,_,_,false,rfl,.str i,Fz K,_,rfl,_,_,false,rfl,.str i,Fz K,rfl,_,rfl, ?_⟩;refine dO (fun _=> ?_) (fun z=>absurd (decide_eq_true rfl) z);refine ⟨_,rfl,_,rfl,rfl, ?_⟩;rw [decide_eq_true rfl];exact k _ (Same.refl _)
  | .bool i,pl,dx,dy=>
    simp only [Dat] at dx dy;subst dx dy;refine ⟨_,rfl,_,_,false,rfl,.bl i,VL K,_,rfl,dG ?_⟩;refine ⟨_,rfl,_,_,false,rfl,.bl i,VN K,_,rfl,dG ?_⟩;refine ⟨_,rfl,rfl,_,rfl,dG ?_⟩;refine ⟨_,rfl,_,_,true,rfl,.bl i,ni K,_,rfl,gJ ?_⟩;refine gJ ?_;refine ⟨_,rfl,_,_,true,rfl,.bl i,ni K,_,rfl,_,_,true,rfl,.bl i,ni K,rfl,_,rfl, ?_⟩;refine dO (fun _=> ?_) (fun z=>absurd (decide_eq_true rfl) z);refine ⟨_,rfl,_,rfl,rfl, ?_⟩;rw [decide_eq_true rfl];exact k _ (Same.refl _)
  | .none,pl,dx,dy=>
    simp only [Dat] at dx dy;subst dx dy;refine ⟨_,rfl,_,_,false,rfl,.non,VD K,_,rfl,dG ?_⟩;refine ⟨_,rfl,_,_,false,rfl,.non,VF K,_,rfl,dG ?_⟩;refine ⟨_,rfl,rfl,_,rfl,gJ ?_⟩;exact ⟨_,rfl,rfl,k _ (Same.refl _)⟩
  | .list ds,pl,dx,dy=>
    simp only [Dat] at dx dy;obtain ⟨a,vs,rfl,ha,da⟩:=dx;obtain ⟨b,ws,rfl,hb,db⟩:=dy;have la:vs.length=ds.length:=da.length;have lb:ws.length=ds.length:=db.length;have pl1:ds.length<=20000:=pl.1;refine ⟨_,rfl,_,_,false,rfl,.lst hb,lX K,_,rfl,dG ?_⟩;refine ⟨_,rfl,_,_,true,rfl,.lst hb,jU K,_,rfl,gJ ?_⟩;refine ⟨_,rfl,_,_,false,rfl,.lst ha,lX K,_,rfl,_,_,false,rfl,.lst hb,lX K,rfl,_,rfl, ?_⟩;refine u5 rfl ?_;refine ⟨_,rfl,_,_,true,rfl,.lst ha,jU K,_,rfl,_,_,true,rfl,.lst hb,jU K,rfl,_,rfl, ?_⟩;refine u5 rfl ?_;refine ⟨_,rfl,a,_,rfl,.inl (bN.of ha),_,rfl,b,_,rfl,.inl (bN.of hb),rfl,_,rfl, ?_⟩;refine u5 (by rw [la,lb]) ?_;refine ⟨_,rfl,_,rfl,a,b,vs,ws,rfl,.inl ⟨bN.of ha,bN.of hb,fun D hD=> ?_⟩⟩;refine Ou (K:=K) la lb (fun i=>some (.bl true)) hD (bN.of ha) (bN.of hb) (by lia) (fun i x y H2 G F hx hy s2 kG kF=> ?_) (fun H2 s2 e2=> ?_)
    ·obtain ⟨d,ed,dx⟩:=da.get hx
     obtain ⟨d',ed',dy⟩:=db.get hy;rw [ed] at ed';cases ed';exact ⟨_,rfl,_,rfl,x,y,d,rfl,dx.same s2 d,dy.same s2 d,pl.2 d (List.mem_of_getElem? ed),fun H3 s3=>kF _ H3 s3 rfl⟩
    ·rw [Ds] at e2
     refine ⟨D,List.replicate ds.length true,rfl,bN.of (by rw [e2,List.map_replicate]), ?_⟩;rw [show (List.replicate ds.length true).all id=true by simp];exact k H2 s2
  | .tuple ds,pl,dx,dy=>
    simp only [Dat] at dx dy;obtain ⟨a,vs,rfl,ha,da⟩:=dx;obtain ⟨b,ws,rfl,hb,db⟩:=dy;have la:vs.length=ds.length:=da.length;have lb:ws.length=ds.length:=db.length;have pl1:ds.length<=20000:=pl.1;refine ⟨_,rfl,_,_,true,rfl,.tup hb,iQ K,_,rfl,gJ ?_⟩;refine gJ ?_;refine ⟨_,rfl,_,_,true,rfl,.tup ha,iQ K,_,rfl,_,_,true,rfl,.tup hb,iQ K,rfl,_,rfl, ?_⟩;refine u5 rfl ?_;refine ⟨_,rfl,_,_,false,rfl,.tup ha,qH K,_,rfl,_,_,false,rfl,.tup hb,qH K,rfl,_,rfl, ?_⟩;refine u5 rfl ?_;refine ⟨_,rfl,a,_,rfl,.inr (cN.of ha),_,rfl,b,_,rfl,.inr (cN.of hb),rfl,_,rfl, ?_⟩;refine u5 (by rw [la,lb]) ?_;refine ⟨_,rfl,_,rfl,a,b,vs,ws,rfl,.inr ⟨cN.of ha,cN.of hb,fun D hD=> ?_⟩⟩;refine Ku (K:=K) la lb (fun i=>some (.bl true)) hD ha hb (by lia) (fun i x y H2 G F hx hy s2 kG kF=> ?_) (fun H2 s2 e2=> ?_)
    ·obtain ⟨d,ed,dx⟩:=da.get hx
     obtain ⟨d',ed',dy⟩:=db.get hy;rw [ed] at ed';cases ed';exact ⟨_,rfl,_,rfl,x,y,d,rfl,dx.same s2 d,dy.same s2 d,pl.2 d (List.mem_of_getElem? ed),fun H3 s3=>kF _ H3 s3 rfl⟩
    ·rw [Ds] at e2
     refine ⟨D,List.replicate ds.length true,rfl,bN.of (by rw [e2,List.map_replicate]), ?_⟩;rw [show (List.replicate ds.length true).all id=true by simp];exact k H2 s2
def Ei (ns bs:List Int) (r:Rw):PyData:= .tuple [.str (Wv r),.int (DG r),oD (WQ ns r),oD (Wu bs r)]
theorem Sw {H:Hp} (x:Option Int):Dat H (oV x) (oD x):=by cases x<;>simp only [oV,oD,Dat]
theorem Dy {H:Hp} {t:Addr} {ns bs:List Int} {r:Rw} (h:H t=some (.tup (zA ns bs r))):Dat H (.ref t) (Ei ns bs r):=by
 unfold Ei zA at *;simp only [Dat];exact ⟨t,_,rfl,h,by simp only [aR,Dat,and_true,true_and];exact ⟨Sw _,Sw _⟩⟩
theorem QF {n:Nat} (ns bs:List Int) (r:Rw):Tt (n+2) (Ei ns bs r):=by
 refine ⟨by show 4<=20000;decide,fun d hd=> ?_⟩;have:∀x:Option Int,Tt (n+1) (oD x):=fun x=>by cases x<;>trivial
 simp only [List.mem_cons,List.mem_nil_iff,or_false] at hd;rcases hd with rfl|rfl|rfl|rfl
 ·trivial
 ·trivial
 ·exact this _
 ·exact this _
structure RT (τ:Tg) (H:Hp) (r:Addr):Prop where
 R:je H r
 off:∀x o,H x=some o->τ x≠[]->x≠r/\Off H r x
 un:vH τ H
theorem RT.draw {τ:Tg} {H H':Hp} {r:Addr} (h:RT τ H r) (k:KR r H H') (R':je H' r):RT τ H' r:=by
 have un':vH τ H':=h.un.dom fun x e=>by
  refine Kp.new k.1 e ?_;exact R'.at
 refine ⟨R',fun x o e t=> ?_,un'⟩;cases q:H x with
 | none=>exact absurd (h.un x q) t
 | some u=>
   obtain ⟨n,f⟩:=h.off x u q t;exact ⟨n,k.2 x u q n f⟩
theorem RT.stp {τ:Tg} {H H':Hp} {r:Addr} {i:Nat} (h:RT τ H r) (k:p8 i τ H H'):RT τ H' r:=by
 obtain ⟨g,c,gs,cs,p,t,e1,e2,e3,q⟩:=h.R
 have tr:τ r=[]:=by
  by_cases z:τ r=[]
  ·exact z
  ·exact absurd rfl (h.off r _ e1 z).1
 have tg:τ g=[]:=by
  by_cases z:τ g=[]
  ·exact z
  ·exact absurd rfl ((h.off g _ e2 z).2 _ _ _ _ e1).1
 have tc:τ c=[]:=by
  by_cases z:τ c=[]
  ·exact z
  ·exact absurd rfl ((h.off c _ e3 z).2 _ _ _ _ e1).2
 have e1':=k.keep _ _ e1 (by rw [tr];simp);refine ⟨⟨g,c,gs,cs,p,t,e1',k.keep _ _ e2 (by rw [tg];simp),k.keep _ _ e3 (by rw [tc];simp),q⟩,fun x o e t=> ?_,h.un.dom k.dom⟩;cases q:H x with
 | none=>exact absurd (h.un x q) t
 | some u=>
   obtain ⟨n,f⟩:=h.off x u q t;refine ⟨n,fun g' c' u' v' e'=> ?_⟩;rw [e1'] at e';cases e';exact f _ _ _ _ e1
theorem RT.same {τ:Tg} {H H':Hp} {r:Addr} (h:RT τ H r) (k:Same H H'):RT τ H' r:=h.stp (i:=0) (p8.of_same k)
theorem RT.kr {τ:Tg} {H H':Hp} {r:Addr} {i:Nat} (h:RT τ H r) (k:KR r H H'):Mv i τ H τ H':=⟨fun x o e t=>⟨k.1 _ _ e (h.off x o e (by
 rcases t with t|t
 ·rw [t];simp
 ·intro z;rw [z] at t;cases t)).1,rfl⟩,h.R.tups k.1⟩
theorem RT.keep {τ:Tg} {H H':Hp} {r x:Addr} {o:HO} (h:RT τ H r) (k:KR r H H') (e:H x=some o) (t:τ x≠[]):H' x=some o:=k.1 _ _ e (h.off x o e t).1
theorem RT.claim {τ:Tg} {H H':Hp} {r p:Addr} {t:List Nat} (h:RT τ H r) (k:Same H H') (hp:H p=none) (hp':∃o,H' p=some o):RT (aO τ p t) H' r:=by
 have h':=h.same k;refine ⟨h'.R,fun x o e n=> ?_,h.un.claim k hp'⟩
 by_cases z:x=p
 ·subst z
  exact ⟨h.R.ne hp,(h.R.off hp).same h.R k⟩
 ·rw [aP z] at n
  exact h'.off x o e n
theorem RT.made {τ τ':Tg} {H H':Hp} {r:Addr} (h:RT τ H r) (k:Same H H') (tg:∀x u,H x=some u->τ' x=τ x) (un:vH τ' H'):RT τ' H' r:=by
 have h':=h.same k;refine ⟨h'.R,fun x o e n=> ?_,un⟩;cases q:H x with
 | some u=>exact h'.off x o e (by rw [←tg x u q];exact n)
 | none=>exact ⟨h.R.ne q,(h.R.off q).same h.R k⟩
def vY (CH:Addr) (K:PySem.W.Frag):Sp:=fun vs H Q _=>∃(A:qU) (s:bO),vs=[.ref A.h]/\pU CH H A s /\ ∀(B:qU) (H':Hp),H B.h=none->H B.b=none->H B.sy=none->B.r=A.r->pU CH H' B s->Same H H'->Q (.ref B.h) H'
theorem YH (r b b' sy:Addr) (n:Int) (st:Str):cH "in_boxes" (.ref b') (hF r n b sy st)=hF r n b' sy st:=by rfl
theorem YG (r b sy sy':Addr) (n:Int) (st:Str):cH "sayings" (.ref sy') (hF r n b sy st)=hF r n b sy' st:=by rfl
theorem Kc {ao:Addr} {f:Addr} {fd:FuncData} (F:kO K "another" "Hand.another" cT f fd) (aN:iG K ao) (K5:qR P w K mg base 1 ao "Hand" ["self","rows"] [] (yh ao K)) (Bt:um mg):bZ P w K mg base kY 3 f fd ["self"] (vY ao K):=by
 refine F.ok pO (fun vs H Q E h=> ?_) (fun cdv A outer s H vs Q E hr h=> ?_)
 ·obtain ⟨A,s,rfl,_⟩:=h
  rfl
 ·obtain ⟨B,s,rfl,c,k⟩:=h
  refine ⟨_,(aF (bU (i:=1) pO.nd rfl (Or.inl rfl) (qz K5 (hr.mono (by decide)) (by rfl) (aj (bB (K:=K) rfl (pv 0) rfl) aC)))
   (aF (cY (K:=K) rfl (pv 1) (bB (K:=K) rfl (pv 0) rfl) rfl)
   (aF (cY (K:=K) rfl (pv 1) (eV (dH (K:=K) rfl) (by rfl) Bt.jL iB (aj (bB (K:=K) rfl (pv 0) rfl) aC)) rfl)
   (aF (cY (K:=K) rfl (pv 1) (eV (dH (K:=K) rfl) (by rfl) Bt.jL iB (aj (bB (K:=K) rfl (pv 0) rfl) aC)) rfl)
   (aF (cY (K:=K) rfl (pv 1) (bB (K:=K) rfl (pv 0) rfl) rfl)
   (aK (bK (pv 1)))))))), ?_⟩
  refine ⟨_,rfl,B.h,ao,B.hx,_,_,rfl,c.h,aN.cls,aN.qF,rfl,fun h hx hh hhx nx=> ?_⟩;have hh':(upd H hx (.own h)) h=none:=by rw [aD nx.symm];exact hh
  have sm:Same H (upd (upd H hx (.own h)) h (.ins ao hx [])):=(aH hhx).trans (aH hh');refine ⟨h,B.r,hx,rfl,ak,fun b0 Uv H1 hb0 aqc apL e1 eb1 aqB k1=>⟨rfl, ?_⟩⟩;have S1:Same H H1:=fun x u e=>k1 _ _ (sm _ _ e) (au e hh);clear k1 sm hh';have c1:=c.same S1;refine ⟨_,rfl,B.h,ao,B.hx,_,_,rfl,c1.h,aN.cls,aN.wB,rfl,_,rfl,h,ao,hx,_,rfl,e1,aN.cls,aN.wB,(by show 5<1000;decide), ?_⟩;rw [zW];have S2:Same H (upd H1 h (.ins ao hx (hF B.r s.pos b0 Uv "waits"))):=fun x u e=>by rw [aD (au e hh)];exact S1 _ _ e
  have e2:(upd H1 h (.ins ao hx (hF B.r s.pos b0 Uv "waits"))) h=some (.ins ao hx (hF B.r s.pos b0 Uv "waits")):=ak;generalize (upd H1 h (.ins ao hx (hF B.r s.pos b0 Uv "waits")))=H2 at S2 e2 ⊢;have c2:=c.same S2;refine ⟨_,rfl,B.h,ao,B.hx,_,_,rfl,c2.h,aN.cls,aN.lV,rfl,B.b,_,rfl,.inl (bN.of c2.b),fun b hb=> ?_⟩;have sb:=aH (o:=HO.lst (s.bs.map V.int)) hb;have Vs:b≠h:=(au e2 hb).symm;refine ⟨_,rfl,h,ao,hx,_,rfl,sb _ _ e2,aN.cls,aN.lV,(by show 5<1000;decide), ?_⟩;rw [YH];have fb:H b=none:=S2.free hb;have S3:Same H (upd (upd H2 b (.lst (s.bs.map V.int))) h (.ins ao hx (hF B.r s.pos b Uv "waits"))):=fun x u e=>by rw [aD (au e hh)];exact sb _ _ (S2 _ _ e)
  have e3:(upd (upd H2 b (.lst (s.bs.map V.int))) h (.ins ao hx (hF B.r s.pos b Uv "waits"))) h=some (.ins ao hx (hF B.r s.pos b Uv "waits")):=ak;have eb3:(upd (upd H2 b (.lst (s.bs.map V.int))) h (.ins ao hx (hF B.r s.pos b Uv "waits"))) b=some (.lst (s.bs.map V.int)):=by rw [aD Vs,ak]
  generalize (upd (upd H2 b (.lst (s.bs.map V.int))) h (.ins ao hx (hF B.r s.pos b Uv "waits")))=H3 at S3 e3 eb3 ⊢;have c3:=c.same S3;refine ⟨_,rfl,B.h,ao,B.hx,_,_,rfl,c3.h,aN.cls,aN.rH,rfl,B.sy,_,rfl,.inl (bN.of c3.y),fun y hy=> ?_⟩;have sy:=aH (o:=HO.lst (s.sy.map V.int)) hy;have W5:y≠h:=(au e3 hy).symm;have N_:b≠y:=au eb3 hy;refine ⟨_,rfl,h,ao,hx,_,rfl,sy _ _ e3,aN.cls,aN.rH,(by show 5<1000;decide), ?_⟩;rw [YG];have fy:H y=none:=S3.free hy;have S4:Same H (upd (upd H3 y (.lst (s.sy.map V.int))) h (.ins ao hx (hF B.r s.pos b y "waits"))):=fun x u e=>by rw [aD (au e hh)];exact sy _ _ (S3 _ _ e)
  have e4:(upd (upd H3 y (.lst (s.sy.map V.int))) h (.ins ao hx (hF B.r s.pos b y "waits"))) h=some (.ins ao hx (hF B.r s.pos b y "waits")):=ak;have eb4:(upd (upd H3 y (.lst (s.sy.map V.int))) h (.ins ao hx (hF B.r s.pos b y "waits"))) b=some (.lst (s.bs.map V.int)):=by rw [aD Vs];exact sy _ _ eb3
  have ey4:(upd (upd H3 y (.lst (s.sy.map V.int))) h (.ins ao hx (hF B.r s.pos b y "waits"))) y=some (.lst (s.sy.map V.int)):=by rw [aD W5,ak]
  generalize (upd (upd H3 y (.lst (s.sy.map V.int))) h (.ins ao hx (hF B.r s.pos b y "waits")))=H4 at S4 e4 eb4 ey4 ⊢;have c4:=c.same S4;refine ⟨_,rfl,B.h,ao,B.hx,_,_,rfl,c4.h,aN.cls,aN.mK,rfl,_,rfl,h,ao,hx,_,rfl,e4,aN.cls,aN.mK,(by show 5<1000;decide), ?_⟩;rw [Fb];exact ⟨_,rfl,k ⟨h,hx,B.r,b,y⟩ _ hh fb fy rfl ⟨ak,by rw [aD Vs];exact eb4,by rw [aD W5];exact ey4,N_,c.bl⟩ (fun x u e=>by rw [aD (au e hh)];exact S4 _ _ e)⟩
def JD (CW CH:Addr) (K:PySem.W.Frag):Sp:=fun vs H Q _=>∃(i i':Nat) (τ:Tg) (W:Pb) (S:nP),vs=[.ref W.o]/\xX CW CH i τ H W S/\xP S/\S.m<=100/\i'≠0 /\ ∀(τ':Tg) (W':Pb) (H':Hp),xX CW CH i' τ' H' W' S->(∀x u,H x=some u->τ' x=τ x)->Same H H'->Q (.ref W'.o) H'
theorem Vl {aq ao aY:Addr} {f:Addr} {fd:FuncData} (F:kO K "twin" "Works.twin" dZ f fd) (aU:ig K aq) (aN:iG K ao) (Wh:qR P w K mg base 7 aq "Works" ["self","program","cells"] [] (fun vs H Q _=>rm aq ao aY K vs H Q fun _ _ _=>False)) (BJ:MethAt P w K mg base 3 ao "another" ["self"] (vY ao K)) (Bt:um mg):bZ P w K mg base kY 9 f fd ["self"] (JD aq ao K):=by
 refine F.ok rR (fun vs H Q E h=> ?_) (fun cdv A outer s H vs Q E hr h=> ?_)
 ·obtain ⟨i,i',τ,W,S,rfl,_⟩:=h
  rfl
 ·obtain ⟨i,i',τ,W,S,rfl,w,g,ml,i0,k⟩:=h
  refine ⟨_,(aF (bU (i:=1) rR.nd rfl (Or.inl rfl) (qz Wh (hr.mono (by decide)) (by rfl) (aj (bB (K:=K) rfl (pv 0) rfl) (aj (bB (K:=K) rfl (pv 0) rfl) aC))))
   (aF (cY (K:=K) rfl (pv 1) (gA rfl (N:=["one"]) (own:=["one"]) (caps:=[]) (bC.of (by kernel_rfl)) (dW (K:=K) rfl (bB (K:=K) rfl (pv 0) rfl)) (fun _ _ _ _=>(bW (i:=0) (show List.Nodup (["one"]:List Str) by decide +kernel) rfl (Or.inl rfl))) (fun _ _ _ _=>fM) (fun _ _ _ _=>(fP BJ aN.cls (hr.mono (by decide)) (pv 0)))) rfl)
   (aF (cY (K:=K) rfl (pv 1) (eV (dH (K:=K) rfl) (by rfl) Bt.jL iB (aj (bB (K:=K) rfl (pv 0) rfl) aC)) rfl)
   (aK (bK (pv 1)))))), ?_⟩
  have good:wu S.m S.ns:=⟨by rw [w.nl],g.n⟩;refine ⟨_,rfl,W.o,aq,W.dx,_,_,rfl,w.o,aU.cls,aU.wz,rfl,_,rfl,W.o,aq,W.dx,_,_,rfl,w.o,aU.cls,aU.lH,rfl,fun o dx ho hdx ndx=> ?_⟩;have ho':(upd H dx (.own o)) o=none:=by rw [aD ndx.symm];exact ho
  have sm:Same H (upd (upd H dx (.own o)) o (.ins aq dx [])):=(aH hdx).trans (aH ho');refine ⟨i',τ,o,dx,W.pg,W.L,W.rs,S.m,.ref W.nb,S.ns,S.hs.map bO.rws,rfl,ak,sm _ _ w.pg,sm _ _ w.L,by rw [List.length_map];exact w.rl,fun kk r x h1 h2=> ?_,by rw [List.length_map];exact w.hn,ml,w.un.same sm,i0,by rw [w.nl];exact ml,.inr ⟨W.nb,rfl,sm _ _ w.nb⟩,fun _ τ1 W1 H1 eo w1 tg kp=>⟨rfl, ?_⟩,fun bad=>absurd good bad⟩
  ·rw [List.getElem?_map] at h2
   cases e:S.hs[kk]? with
   | none=>rw [e] at h2;cases h2
   | some s=>rw [e] at h2;cases h2;exact (w.rs kk r s h1 e).2.same sm
  have S1:Same H H1:=fun x u e=>kp _ _ (sm _ _ e) (au e ho);have TY:∀x u,H x=some u->τ1 x=τ x:=fun x u e=>tg x u (sm _ _ e) (au e ho);have fo:H W1.o=none:=by rw [eo];exact ho
  have eo':V.ref o=V.ref W1.o:=by rw [eo]
  rw [eo'];clear kp tg sm ho' eo';have wA:xX aq ao i τ1 H1 W S:=w.mv (Mv.tags S1 TY) w1.un;refine ⟨_,rfl,W.o,aq,W.dx,_,_,rfl,wA.o,aU.cls,aU.pG,rfl,W.hl,rfl,⟨_,bN.of wA.hl⟩,fun D hD=> ?_⟩;have sD:=aH (o:=HO.lst []) hD;refine jJ (K:=K) (xs:=W.hd.map fun a=>V.ref a.h) (fun j σ Hc=>∃(v:Option V) (τc:Tg) (hd:List qU),σ=[v]/\hd.length=j/\Same H1 Hc/\Hc D=some (.lst (hd.map fun a=> .ref a.h))/\vH τc Hc/\(∀x u,H1 x=some u->τc x=τ1 x)/\τc D=[i',2] /\ ∀(k:Nat) (A:qU) (s:bO),hd[k]? = some A->S.hs[k]? = some s->xY ao i' k S.m τc Hc A s) ?_ ?_ ?_ ?_
  ·exact ⟨none,aO τ1 D [i',2],[],rfl,rfl,sD,ak,w1.un.claim sD ⟨_,ak⟩,fun x u e=>aP (au e hD),bI,fun k A s e=>by simp at e⟩
  ·rintro j σ Hc _ ⟨v,τc,hd,rfl,_,sc,_⟩
   exact bN.of (sc _ _ wA.hl)
  ·rintro j x σ Hc hj ⟨v,τc,hd,rfl,lj,sc,hDc,unc,tgc,tDc,hc⟩
   rw [List.getElem?_map] at hj
   obtain ⟨A,eA,rfl⟩:∃A,W.hd[j]? = some A/\x = .ref A.h:=by
    cases e:W.hd[j]? with
    | none=>rw [e] at hj;cases hj
    | some A=>rw [e] at hj;exact ⟨A,rfl,(Option.some.inj hj).symm⟩
   have wc:xX aq ao i τc Hc W S:=wA.mv (Mv.tags sc tgc) unc;have jl:j<S.hs.length:=by rw [←w.len];exact (List.getElem?_eq_some_iff.mp eA).1
   have es:S.hs[j]? = some S.hs[j]:=by simp [jl]
   have a:=wc.hd j A _ eA es;dsimp only [gR,BP];rw [if_pos rfl];refine ⟨_,rfl,A.h,A.hx,_,rfl,a.c.h,rfl,A,_,rfl,a.c,fun B H7 fh fb fy er c7 s7=> ?_⟩;have nDh:D≠B.h:=au hDc fh;have nDb:D≠B.b:=au hDc fb;have nDy:D≠B.sy:=au hDc fy;have T:∀x u,Hc x=some u->aO (aO (aO τc B.h [i',4,j]) B.b [i',5,j]) B.sy [i',6,j] x=τc x:=fun y u e=>by rw [aP (au e fy),aP (au e fb),aP (au e fh)]
   have U7:vH (aO (aO (aO τc B.h [i',4,j]) B.b [i',5,j]) B.sy [i',6,j]) H7:=fun y e=>by
    have n1:y≠B.h:=fun z=>by rw [z,c7.h] at e;cases e
    have n2:y≠B.b:=fun z=>by rw [z,c7.b] at e;cases e
    have n3:y≠B.sy:=fun z=>by rw [z,c7.y] at e;cases e
    rw [aP n3,aP n2,aP n1];exact unc y (s7.free e)
   have Th:aO (aO (aO τc B.h [i',4,j]) B.b [i',5,j]) B.sy [i',6,j] B.h=[i',4,j]:=by rw [aP c7.W5,aP c7.Vs,bI]
   have Tb:aO (aO (aO τc B.h [i',4,j]) B.b [i',5,j]) B.sy [i',6,j] B.b=[i',5,j]:=by rw [aP c7.N_,bI]
   have Ty:aO (aO (aO τc B.h [i',4,j]) B.b [i',5,j]) B.sy [i',6,j] B.sy=[i',6,j]:=bI;generalize aO (aO (aO τc B.h [i',4,j]) B.b [i',5,j]) B.sy [i',6,j]=τ7 at T U7 Th Tb Ty
   have q7:rP [[i',2]] τc Hc τ7 (upd H7 D (.lst ((hd.map fun a=>V.ref a.h)++[V.ref B.h]))):=by
    refine ⟨fun y u e n=>⟨?_,T y u e⟩,fun y ys e=> ?_⟩
    ·rw [aD (fun z:y=D=>n (by rw [z,tDc];simp))]
     exact s7 _ _ e
    ·rw [aD (dX e hDc (by intro z;cases z))]
     exact s7 _ _ e
   have hjl:hd.length<=100:=by rw [lj];have:=w.hn;lia
   refine ⟨_,s7 _ _ hDc,(by rw [List.length_map,sizeLine_eq];lia),some (.ref A.h),τ7,hd++[B],rfl,by simp [lj],fun y u e=> ?_,by rw [ak];simp, ?_,fun y u e=> ?_, ?_, ?_⟩
   ·rw [aD (au e hD)]
    exact s7 _ _ (sc _ _ e)
   ·exact U7.dom fun y e=>by
     by_cases z:y=D
     ·rw [z,ak] at e;cases e
     ·rw [aD z] at e;exact e
   ·rw [T y u (sc _ _ e)]
    exact tgc y u e
   ·rw [T _ _ hDc];exact tDc
   ·intro k A' s' h1 h2
    rcases u_ h1 with h1|⟨e1,rfl⟩
    ·exact (hc k A' s' h1 h2).mvT q7 (by simp) (by simp) (by simp) (by simp)
    ·rw [e1,lj,es] at h2
     cases h2;rw [e1,lj];obtain ⟨t9,R9⟩:=iM ⟨a.tr,a.r⟩ q7 (by simp);exact ⟨⟨by rw [aD nDh.symm];exact c7.h,by rw [aD nDb.symm];exact c7.b,by rw [aD nDy.symm];exact c7.y,c7.N_,c7.bl⟩,by rw [er];exact R9,by rw [er];exact t9,Th,Tb,Ty⟩
  rintro σ H8 ⟨v,τ8,hd,rfl,lhd,s18,hD8,un8,Us,tD8,hd8⟩;rw [List.length_map] at lhd;have VP:=s18 _ _ w1.o;have X4:τ8 W1.o=[i',0]:=by rw [Us _ _ w1.o];exact w1.to
  refine ⟨_,rfl,W1.o,aq,W1.dx,_,rfl,VP,aU.cls,aU.pG,(by show 4<1000;decide), ?_⟩;have ho9:(upd H8 W1.o (.ins aq W1.dx (cH "hands" (.ref D) (wF W1.pg W1.nb W1.hl W1.tn)))) W1.o=some (.ins aq W1.dx (wF W1.pg W1.nb D W1.tn)):=ak;have q9:rP [[i',0]] τ8 H8 τ8 (upd H8 W1.o (.ins aq W1.dx (cH "hands" (.ref D) (wF W1.pg W1.nb W1.hl W1.tn)))):=rP.set (by rw [X4];simp) VP (by intro xs z;cases z)
  have un9:vH τ8 (upd H8 W1.o (.ins aq W1.dx (cH "hands" (.ref D) (wF W1.pg W1.nb W1.hl W1.tn)))):=un8.dom fun y e=>by
   by_cases z:y=W1.o
   ·rw [z,ak] at e;cases e
   ·rw [aD z] at e;exact e
  have S9:Same H (upd H8 W1.o (.ins aq W1.dx (cH "hands" (.ref D) (wF W1.pg W1.nb W1.hl W1.tn)))):=fun x u e=>by rw [aD (au e fo)];exact s18 _ _ (S1 _ _ e)
  generalize (upd H8 W1.o (.ins aq W1.dx (cH "hands" (.ref D) (wF W1.pg W1.nb W1.hl W1.tn))))=H9 at ho9 q9 un9 S9 ⊢;have w9:xX aq ao i τ8 H9 W S:=w.mv (Mv.tags S9 fun x u e=>(Us x u (S1 _ _ e)).trans (TY x u e)) un9;refine ⟨_,rfl,W.o,aq,W.dx,_,_,rfl,w9.o,aU.cls,aU.uW,rfl,W.tn,_,rfl,.inl (bN.of w9.tn),fun t ht=> ?_⟩;have st:=aH (o:=HO.lst (S.ts.map V.int)) ht;have nto:t≠W1.o:=(au ho9 ht).symm;refine ⟨_,rfl,W1.o,aq,W1.dx,_,rfl,st _ _ ho9,aU.cls,aU.uW,(by show 4<1000;decide), ?_⟩;have Ol:(upd (upd H9 t (.lst (S.ts.map V.int))) W1.o (.ins aq W1.dx (cH "turns" (.ref t) (wF W1.pg W1.nb D W1.tn)))) W1.o=some (.ins aq W1.dx (wF W1.pg W1.nb D t)):=ak;have ab8:(upd (upd H9 t (.lst (S.ts.map V.int))) W1.o (.ins aq W1.dx (cH "turns" (.ref t) (wF W1.pg W1.nb D W1.tn)))) t=some (.lst (S.ts.map V.int)):=by rw [aD nto,ak]
  have YF:rP [[i',0]] τ8 H9 (aO τ8 t [i',3]) (upd (upd H9 t (.lst (S.ts.map V.int))) W1.o (.ins aq W1.dx (cH "turns" (.ref t) (wF W1.pg W1.nb D W1.tn)))):=(rP.claim st ht).trans (rP.set (by rw [aP nto.symm,X4];simp) (st _ _ ho9) (by intro xs z;cases z))
  have XQ:vH (aO τ8 t [i',3]) (upd (upd H9 t (.lst (S.ts.map V.int))) W1.o (.ins aq W1.dx (cH "turns" (.ref t) (wF W1.pg W1.nb D W1.tn)))):=(un9.claim st ⟨_,ak⟩).dom fun y e=>by
   by_cases z:y=W1.o
   ·rw [z,ak] at e;cases e
   ·rw [aD z] at e;exact e
  have S10:Same H (upd (upd H9 t (.lst (S.ts.map V.int))) W1.o (.ins aq W1.dx (cH "turns" (.ref t) (wF W1.pg W1.nb D W1.tn)))):=fun x u e=>by rw [aD (au e fo)];exact st _ _ (S9 _ _ e)
  have Nj:aO τ8 t [i',3] W1.o=[i',0]:=by rw [aP nto.symm];exact X4
  have Ni:aO τ8 t [i',3] t=[i',3]:=bI;have tgt:∀x u,H x=some u->aO τ8 t [i',3] x=τ x:=fun x u e=>by rw [aP (au (S9 _ _ e) ht)];exact (Us x u (S1 _ _ e)).trans (TY x u e)
  have Q18:rP [[i',0]] τ1 H1 τ8 H8:=⟨fun x u e _=>⟨s18 _ _ e,Us x u e⟩,s18.tups⟩;have Q8:=q9.trans YF;generalize (upd (upd H9 t (.lst (S.ts.map V.int))) W1.o (.ins aq W1.dx (cH "turns" (.ref t) (wF W1.pg W1.nb D W1.tn))))=Xx at Ol ab8 YF XQ S10 Q8 ⊢;generalize aO τ8 t [i',3]=G4 at YF XQ Nj Ni tgt Q8;have Q1:=Q18.trans Q8;have hL:=Q1.keep _ _ w1.L (by rw [w1.tL];simp);have hnb:=Q1.keep _ _ w1.nb (by rw [w1.tb];simp);have RM:=Q8.keep _ _ hD8 (by rw [tD8];simp);refine ⟨_,rfl,k G4 ⟨W1.o,W1.dx,W1.pg,W1.L,W1.nb,D,t,W1.rs,hd⟩ Xx ⟨XQ,i0,Ol,Q1.tup _ _ w1.pg,hL.1,hnb.1,RM.1,ab8,Nj,hnb.2.trans w1.tb,RM.2.trans tD8,Ni,hL.2.trans w1.tL, ?_, ?_,by rw [lhd,w.len],fun kk A s h1 h2=>(hd8 kk A s h1 h2).mvT Q8 (by simp) (by simp) (by simp) (by simp),w.ok,w.sl,w.nl,w.hn⟩ tgt S10⟩
  ·have:=w1.rl
   unfold Gu at this;simpa using this
  ·intro kk r s h1 h2
   have e1:(Gu S.m S.ns (S.hs.map bO.rws)).hs[kk]? = some (lead (new s.rws)):=by
    show ((S.hs.map bO.rws).map fun r=>lead (new r))[kk]? = _;rw [List.getElem?_map,List.getElem?_map,h2];rfl
   have:=w1.rs kk r _ h1 e1;rw [show (lead (new s.rws)).rws=s.rws from uZ _ _] at this;exact iM this Q1 (by simp)
theorem acV (a b c d:V):qK [a,b,c,d] none (some 2)=[a,b]:=SJ _ 2
theorem acU (a b c d:V):qK [a,b,c,d] (some 2) none=[c,d]:=IW _ 2
theorem Y4 {α:Type} (xs:List α) (h:xs.length=4):¬(HT.ju xs.length 0 none=0/\HT.ju xs.length xs.length (some 2)=xs.length):=by
 rw [h];decide
theorem Y0 {α:Type} (xs:List α) (h:xs.length=4):¬(HT.ju xs.length 0 (some 2)=0/\HT.ju xs.length xs.length none=xs.length):=by
 rw [h];decide
def nt (H H':Hp):Hp:=fun x=>match H' x with
 | some (.tup xs)=>some (.tup xs)
 | o=>match H x with
   | none=>o
   | some _=>none
theorem Zb {H H':Hp} {x:Addr} {xs:List V} (e:H' x=some (.tup xs)):nt H H' x=some (.tup xs):=by unfold nt;rw [e]
theorem W3 {H H':Hp} {x:Addr} {o:HO} (n:H x=none) (e:H' x=some o):nt H H' x=some o:=by
 unfold nt;rw [e,n];cases o<;>rfl
theorem Zd {H H':Hp} {x:Addr} {o:HO} (e:nt H H' x=some o):H' x=some o/\((∃xs,o = .tup xs)\/H x=none):=by
 unfold nt at e;split at e
 ·rename_i xs q
  cases e;exact ⟨q,.inl ⟨_,rfl⟩⟩
 ·cases q:H x with
  | none=>rw [q] at e;exact ⟨e,.inr rfl⟩
  | some u=>rw [q] at e;cases e
def pW (τ:Tg) (H:Hp):Hp:=fun x=>match H x with
 | some (.tup xs)=>some (.tup xs)
 | o=>if τ x=[0] then o else none
theorem qm {τ:Tg} {H:Hp} {x:Addr} {xs:List V} (e:H x=some (.tup xs)):pW τ H x=some (.tup xs):=by unfold pW;rw [e]
theorem uz {τ:Tg} {H:Hp} {x:Addr} {o:HO} (t:τ x=[0]) (e:H x=some o):pW τ H x=some o:=by
 unfold pW;rw [e];cases o<;>simp only [t,if_true]<;>rfl
theorem zB {τ:Tg} {H:Hp} {x:Addr} {o:HO} (e:pW τ H x=some o):H x=some o/\((∃xs,o = .tup xs)\/τ x=[0]):=by
 unfold pW at e;split at e
 ·rename_i xs q
  cases e;exact ⟨q,.inl ⟨_,rfl⟩⟩
 ·by_cases t:τ x=[0]
  ·rw [if_pos t] at e;exact ⟨e,.inr t⟩
  ·rw [if_neg t] at e;cases e
theorem q_ (τ:Tg) (H:Hp):Same (pW τ H) H:=fun x o e=>(zB e).1
theorem pq {i:Nat} {τ τ':Tg} {H H':Hp} (q:Mv i τ H τ' H'):Same (pW τ H) (pW τ' H'):=fun x o e=>by
 obtain ⟨e,⟨xs,rfl⟩|t⟩:=zB e
 ·exact qm (q.tup _ _ e)
 ·have:=q.keep x o e (.inl t)
  exact uz (this.2.trans t) this.1
theorem jg {i:Nat} {τ:Tg} {H H':Hp} (q:p8 i τ H H') (i0:i≠0):Same (pW τ H) (pW τ H'):=fun x o e=>by
 obtain ⟨e,⟨xs,rfl⟩|t⟩:=zB e
 ·exact qm (q.tup _ _ e)
 ·exact uz t (q.keep x o e (by rw [t];intro z;exact i0 (Option.some.inj z).symm))
def O9 (τ:Tg) (H H':Hp):Tg:=fun x=>match H x with
 | some _=>τ x
 | none=>match H' x with
   | some _=>[0]
   | none=>τ x
theorem Uo {τ:Tg} {H H':Hp} {x:Addr} {o:HO} (e:H x=some o):O9 τ H H' x=τ x:=by unfold O9;rw [e]
theorem Uq {τ:Tg} {H H':Hp} {x:Addr} {o:HO} (n:H x=none) (e:H' x=some o):O9 τ H H' x=[0]:=by unfold O9;rw [n];simp only [e]
theorem X5 {τ:Tg} {H H':Hp} (k:Same H H') (u:vH τ H):vH (O9 τ H H') H':=fun x e=>by
 have n:=k.free e;unfold O9;rw [n];simp only [e];exact u x n
theorem Zc {τ:Tg} {H H':Hp}:Same (nt H H') (pW (O9 τ H H') H'):=fun x o e=>by
 obtain ⟨e,⟨xs,rfl⟩|n⟩:=Zd e
 ·exact qm e
 ·exact uz (Uq n e) e
abbrev M6:=Int×Int
def pD (x:M6):PyData:= .tuple [.int x.1,.int x.2]
theorem qI (x:M6):GZ (pD x)=true:=rfl
theorem Mx {H:Hp} {t:Addr} {x:M6} (h:H t=some (.tup [.int x.1,.int x.2])):Dat H (.ref t) (pD x):=by
 simp only [pD,Dat];exact ⟨t,_,rfl,h,by simp only [aR,Dat,and_self]⟩
theorem IV {H:Hp} {v:V} {x:M6} (h:Dat H v (pD x)):∃t,v = .ref t/\H t=some (.tup [.int x.1,.int x.2]):=by
 simp only [pD,Dat] at h;obtain ⟨t,vs,e,q,d⟩:=h
 match vs,d with
 | [a,b],d=>
   simp only [aR,Dat,and_true] at d;obtain ⟨rfl,rfl⟩:=d;exact ⟨t,e,q⟩
 | [],d=>simp only [aR] at d
 | [_],d=>simp only [aR,and_false] at d
 | _::_::_::_,d=>simp only [aR,and_false] at d
def qO (H:Hp) (a:Addr) (ps:List M6):Prop:=∃vs,H a=some (.lst vs)/\aR H vs (ps.map pD)
theorem qO.same {H H':Hp} {a:Addr} {ws:List M6} (h:qO H a ws) (k:Same H H'):qO H' a ws:=by
 obtain ⟨vs,e,d⟩:=h;exact ⟨vs,k _ _ e,aR.keep k.tups _ (cg _ qI ws) d⟩
theorem Vb {H:Hp} {vs:List V} {ps:List M6} {i:Nat} {v:V} (d:aR H vs (ps.map pD)) (e:vs[i]? = some v):∃x t,ps[i]? = some x/\v = .ref t/\H t=some (.tup [.int x.1,.int x.2]):=by
 obtain ⟨q,eq,dq⟩:=d.get e;rw [List.getElem?_map] at eq;cases ex:ps[i]? with
 | none=>rw [ex] at eq;cases eq
 | some x=>
   rw [ex] at eq;cases eq;obtain ⟨t,rfl,ht⟩:=IV dq;exact ⟨x,t,rfl,rfl,ht⟩
def ft (x:Nt):M6:=(x.1,x.2.1)
def cW (ns:List Nt) (o m:Int):List M6:=(ns.filter fun x=>decide (x.2.2.1=o)&&decide (x.2.2.2=m)).map ft
theorem Cd (ns:List Nt) (x:Nt) (o m:Int):cW (ns++[x]) o m=cW ns o m++(if x.2.2.1=o/\x.2.2.2=m then [ft x] else []):=by
 unfold cW;rw [List.filter_append,List.map_append];congr 1
 by_cases e:x.2.2.1=o/\x.2.2.2=m
 ·simp [e.1,e.2]
 ·rw [if_neg e]
  by_cases e1:x.2.2.1=o
  ·have e2:¬x.2.2.2=m:=fun z=>e ⟨e1,z⟩
   simp [e2]
  ·simp [e1]
def mj (H:Hp) (f:Addr) (ns:List Nt):Prop:=∃kvs,H f=some (.dT kvs) /\ ∀o m:Int,(gH kvs [Sum.inl o,Sum.inl m]=none/\cW ns o m=[]) \/ ∃l,gH kvs [Sum.inl o,Sum.inl m]=some (.ref l)/\qO H l (cW ns o m)
theorem mj.same {H H':Hp} {f:Addr} {ns:List Nt} (h:mj H f ns) (k:Same H H'):mj H' f ns:=by
 obtain ⟨kvs,e,q⟩:=h;refine ⟨kvs,k _ _ e,fun o m=> ?_⟩;rcases q o m with z|⟨l,e1,e2⟩
 ·exact .inl z
 ·exact .inr ⟨l,e1,e2.same k⟩
def zK (K:PySem.W.Frag):Sp:=fun vs H Q _=>∃(t c a:Addr) (cs:List Int) (ns:List Nt),vs=[.ref t]/\RecAt H t c a cs ns/\Jm cs ns /\ ∀(f:Addr) (H':Hp),H f=none->mj (nt H H') f ns->Same H H'->Q (.ref f) H'
theorem NQ {f:Addr} {fd:FuncData} (F:kO K "firsts_of" "firsts_of" eY f fd):bZ P w K mg base kY 1 f fd ["record"] (zK K):=by
 refine F.ok pB (fun vs H Q E h=> ?_) (fun cdv A outer s H vs Q E hr h=> ?_)
 ·obtain ⟨t,c,a,cs,ns,rfl,_⟩:=h
  rfl
 ·obtain ⟨t,c,a,cs,ns,rfl,R,ok,k⟩:=h
  have hu:=Xc hr;obtain ⟨ht,hc,nvs,ha,dn⟩:=id R;have nvl:nvs.length=ns.length:=by rw [dn.length,List.length_map]
  have nl:=ok.2.1
  refine ⟨_,(aF (bU (i:=1) pB.nd rfl (Or.inl rfl) QS)
   (aF (tU PassesOwn.never rfl (dW (K:=K) rfl (aW (aZ (K:=K) rfl) (pv 0) aG (fun _ _=>rfl))) (bW (i:=2) pB.nd rfl (Or.inl rfl))
   (aK (fO (jG (K:=K) rfl (QM hu (pv 1) (nU (Lh (K:=K) rfl) (pv 2) (rD aG) rE) (eO aC) ⟨rfl,rfl,rfl,rfl⟩) (aj (nU (Lh (K:=K) rfl) (pv 2) rE (rD aG)) aC)))))
   (aK (bK (pv 1))))), ?_⟩
  intro f hf;have s1:=aH (o:=HO.dT []) hf;refine ⟨_,rfl,_,_,_,_,rfl,rfl,cN.of (s1 _ _ ht),rfl,a,rfl,⟨_,bN.of (s1 _ _ ha)⟩, ?_⟩
  refine vg (K:=K) (a:=a) (xs:=nvs) (fun i σ H2=>∃(x:Option V) (kvs:List (List Key×V)),σ=[some (.ref t),some (.ref f),x]/\Same H H2/\H2 f=some (.dT kvs)/\kvs.length<=i /\
   (∀o m:Int,(gH kvs [Sum.inl o,Sum.inl m]=none/\cW (ns.take i) o m=[]) \/ ∃l,gH kvs [Sum.inl o,Sum.inl m]=some (.ref l)/\qO H2 l (cW (ns.take i) o m)/\H l=none/\l≠f) /\
   (∀(o m o' m':Int) l,gH kvs [Sum.inl o,Sum.inl m]=some (.ref l)->gH kvs [Sum.inl o',Sum.inl m']=some (.ref l)->o=o'/\m=m'))
   ⟨none,[],rfl,s1,ak,Nat.zero_le _,fun o m=> .inl ⟨rfl,rfl⟩,fun o m o' m' l h=>by cases h⟩ (fun i σ H2 _ ⟨_,_,_,sm,_⟩=>bN.of (sm _ _ ha)) ?_ ?_
  ·rintro i v σ H2 hi ⟨x0,kvs,rfl,sm,hF,kl,hval,inj⟩
   obtain ⟨x,w,ex,rfl,hx⟩:=uV dn hi;have il:i<nvs.length:=(List.getElem?_eq_some_iff.mp hi).1;have hx2:=sm _ _ hx;have tk:ns.take (i+1)=ns.take i++[x]:=by rw [List.take_add_one,ex];rfl
   refine Iw (fun v H3=>∃l Fy,v = .ref l/\Same H H3/\(∀a xs,H2 a=some (HO.tup xs)->H3 a=some (HO.tup xs))/\H3 f=some (.dT Fy)/\Fy.length<=i+1/\gH Fy [Sum.inl x.2.2.1,Sum.inl x.2.2.2]=some (.ref l) /\
    (∀o m:Int,(gH Fy [Sum.inl o,Sum.inl m]=none/\cW (ns.take i) o m=[]) \/ ∃l,gH Fy [Sum.inl o,Sum.inl m]=some (.ref l)/\qO H3 l (cW (ns.take i) o m)/\H l=none/\l≠f) /\
    (∀(o m o' m':Int) l,gH Fy [Sum.inl o,Sum.inl m]=some (.ref l)->gH Fy [Sum.inl o',Sum.inl m']=some (.ref l)->o=o'/\m=m')) (fun Q' kQ=> ?_) ?_
   ·refine ⟨_,rfl,f,rfl,.inr ⟨_,.inl hF⟩,_,rfl,_,rfl,_,_,rfl,cN.of hx2,Y0 _ rfl,fun p1 hp1=> ?_⟩
    have c2:qK (nV x) (some 2) none=[.int x.2.2.1,.int x.2.2.2]:=acU ..;rw [c2];have Yo:=aH (o:=HO.tup [V.int x.2.2.1,V.int x.2.2.2]) hp1;refine ⟨(by show 0<=sizeLine;decide),fun e he=> ?_⟩;have sp2:=aH (o:=HO.lst []) he;have s12:=Yo.trans sp2;refine ⟨kvs,[Sum.inl x.2.2.1,Sum.inl x.2.2.2],p1,s12 _ _ hF,rfl,sp2 _ _ ak,by rw [sizeLine_eq];lia,fun v hv=> ?_,fun hn=> ?_⟩
    ·rcases hval x.2.2.1 x.2.2.2 with z|⟨l,e1,e2,e3,e4⟩
     ·rw [z.1] at hv;cases hv
     ·rw [e1] at hv
      cases hv;refine kQ _ _ ⟨l,kvs,rfl,sm.trans s12,s12.tups,s12 _ _ hF,by lia,e1,fun o m=> ?_,inj⟩;rcases hval o m with z|⟨l',f1,f2,f3,f4⟩
      ·exact .inl z
      ·exact .inr ⟨l',f1,f2.same s12,f3,f4⟩
    ·have kF:Kp f (upd (upd H2 p1 (.tup [V.int x.2.2.1,V.int x.2.2.2])) e (.lst [])) (upd (upd (upd H2 p1 (.tup [V.int x.2.2.1,V.int x.2.2.2])) e (.lst [])) f (.dT (putK kvs [Sum.inl x.2.2.1,Sum.inl x.2.2.2] (.ref e)))):=Kp.set
     have nef:e≠f:=fun z=>by rw [←z] at hF;rw [Yo _ _ hF] at he;cases he
     have hFe:(upd (upd H2 p1 (.tup [V.int x.2.2.1,V.int x.2.2.2])) e (.lst [])) f=some (.dT kvs):=s12 _ _ hF;have he2:H2 e=none:=Yo.free he;have tF:∀a xs,(upd (upd H2 p1 (.tup [V.int x.2.2.1,V.int x.2.2.2])) e (.lst [])) a=some (HO.tup xs)->(upd (upd (upd H2 p1 (.tup [V.int x.2.2.1,V.int x.2.2.2])) e (.lst [])) f (.dT (putK kvs [Sum.inl x.2.2.1,Sum.inl x.2.2.2] (.ref e)))) a=some (HO.tup xs):=fun a xs h=>kF _ _ h (dX h hFe (by intro z;cases z))
     have neq:∀o m:Int,([Sum.inl o,Sum.inl m]:List Key)=[Sum.inl x.2.2.1,Sum.inl x.2.2.2]↔o=x.2.2.1/\m=x.2.2.2:=fun o m=>by
      constructor
      ·intro z;injection z with z1 z2;injection z2 with z2 _;exact ⟨Sum.inl.inj z1,Sum.inl.inj z2⟩
      ·rintro ⟨rfl,rfl⟩;rfl
     refine kQ _ _ ⟨e,_,rfl,fun b o eb=>kF _ _ ((sm.trans s12) _ _ eb) (au eb hf),fun a xs h=>tF _ _ (s12.tups _ _ h),ak, ?_,by rw [zy,if_pos rfl],fun o m=> ?_,fun o m o' m' l h1 h2=> ?_⟩
     ·exact Nat.le_trans (xq ..) (by lia)
     ·rw [zy]
      by_cases q:o=x.2.2.1/\m=x.2.2.2
      ·rw [if_pos ((neq o m).mpr q)]
       obtain ⟨rfl,rfl⟩:=q;refine .inr ⟨e,rfl, ?_,sm.free he2,nef⟩;rcases hval x.2.2.1 x.2.2.2 with z|⟨l,e1,_⟩
       ·rw [z.2]
        exact ⟨[],kF _ _ ak nef,by simp [aR]⟩
       ·rw [e1] at hn;cases hn
      ·rw [if_neg fun z=>q ((neq o m).mp z)]
       rcases hval o m with z|⟨l',f1,f2,f3,f4⟩
       ·exact .inl z
       ·refine .inr ⟨l',f1, ?_,f3,f4⟩
        obtain ⟨ws,g1,g2⟩:=f2.same s12;exact ⟨ws,kF _ _ g1 f4,aR.keep tF _ (cg _ qI _) g2⟩
     ·rw [zy] at h1 h2
      have old:∀o m:Int,gH kvs [Sum.inl o,Sum.inl m]=some (V.ref e)->False:=fun o m h=>by
       rcases hval o m with z|⟨l',f1,⟨ws,g1,_⟩,f3,f4⟩
       ·rw [z.1] at h;cases h
       ·rw [f1] at h
        cases h;rw [he2] at g1;cases g1
      by_cases q:o=x.2.2.1/\m=x.2.2.2
      ·rw [if_pos ((neq o m).mpr q)] at h1
       cases h1
       by_cases q':o'=x.2.2.1/\m'=x.2.2.2
       ·exact ⟨q.1.trans q'.1.symm,q.2.trans q'.2.symm⟩
       ·rw [if_neg fun z=>q' ((neq o' m').mp z)] at h2
        exact (old _ _ h2).elim
      ·rw [if_neg fun z=>q ((neq o m).mp z)] at h1
       by_cases q':o'=x.2.2.1/\m'=x.2.2.2
       ·rw [if_pos ((neq o' m').mpr q')] at h2
        cases h2;exact (old _ _ h1).elim
       ·rw [if_neg fun z=>q' ((neq o' m').mp z)] at h2
        exact inj _ _ _ _ _ h1 h2
   ·rintro v H3 ⟨l,Fy,rfl,sm3,tp3,hF3,kl3,hkey,Xb,abZ⟩
    obtain ⟨z0,PL,hl0,nlf⟩:∃z0:True,qO H3 l (cW (ns.take i) x.2.2.1 x.2.2.2)/\H l=none/\l≠f:=by
     rcases Xb x.2.2.1 x.2.2.2 with z|⟨l',f1,f2,f3,f4⟩
     ·rw [z.1] at hkey;cases hkey
     ·rw [f1] at hkey
      cases hkey;exact ⟨trivial,f2,f3,f4⟩
    obtain ⟨ws,hl3,dl3⟩:=id PL;refine ⟨.inl ⟨rfl,_,bN.of hl3⟩,_,rfl,_,rfl,_,_,rfl,cN.of (tp3 _ _ hx2),Y4 _ rfl,fun p2 hp2=> ?_⟩;have c1:qK (nV x) none (some 2)=[.int x.1,.int x.2.1]:=acV ..;rw [c1];have sp:=aH (o:=HO.tup [V.int x.1,V.int x.2.1]) hp2
    have wl:ws.length<=ns.length:=by
     rw [dl3.length,List.length_map];unfold cW;rw [List.length_map];have a1:=List.length_filter_le (fun y:Nt=>decide (y.2.2.1=x.2.2.1)&&decide (y.2.2.2=x.2.2.2)) (ns.take i);have a2:(ns.take i).length<=ns.length:=by rw [List.length_take];lia
     lia
    refine ⟨l,ws,_,rfl,rfl,sp _ _ hl3,by rw [sizeLine_eq];lia, ?_⟩;have kL:Kp l (upd H3 p2 (.tup [V.int x.1,V.int x.2.1])) (upd (upd H3 p2 (.tup [V.int x.1,V.int x.2.1])) l (.lst (ws++[V.ref p2]))):=Kp.set;have tL:=kL.tups (sp _ _ hl3);refine ⟨_,Fy,rfl,fun b o eb=>kL _ _ (sp _ _ (sm3 _ _ eb)) (au eb hl0),kL _ _ (sp _ _ hF3) nlf.symm,kl3,fun o m=> ?_,abZ⟩;rw [tk,Cd]
    by_cases q:x.2.2.1=o/\x.2.2.2=m
    ·obtain ⟨rfl,rfl⟩:=q
     rw [if_pos ⟨rfl,rfl⟩];refine .inr ⟨l,hkey,⟨_,ak, ?_⟩,hl0,nlf⟩;rw [List.map_append];exact aR.append (aR.keep (fun a xs h=>tL _ _ (sp.tups _ _ h)) _ (cg _ qI _) dl3) (Mw (Mx (x:=ft x) (tL _ _ ak)))
    ·rw [if_neg q,List.append_nil]
     rcases Xb o m with z|⟨l',f1,f2,f3,f4⟩
     ·exact .inl z
     ·have nll:l'≠l:=fun z=>by
       subst z;obtain ⟨e1,e2⟩:=abZ _ _ _ _ _ f1 hkey;exact q ⟨e1.symm,e2.symm⟩
      obtain ⟨us,g1,g2⟩:=f2;exact .inr ⟨l',f1,⟨us,kL _ _ (sp _ _ g1) nll,aR.keep (fun a xs h=>tL _ _ (sp.tups _ _ h)) _ (cg _ qI _) g2⟩,f3,f4⟩
  ·rintro σ H2 ⟨x0,kvs,rfl,sm,hF,kl,hval,inj⟩
   rw [nvl,List.take_length] at hval;refine ⟨_,rfl,k f H2 hf ⟨kvs,W3 hf hF,fun o m=> ?_⟩ sm⟩;rcases hval o m with z|⟨l,f1,⟨ws,g1,g2⟩,hl0,_⟩
   ·exact .inl z
   ·exact .inr ⟨l,f1,ws,W3 hl0 g1,aR.keep (fun a xs e=>Zb e) _ (cg _ qI _) g2⟩
def zH (K:PySem.W.Frag):Sp:=fun vs H Q _=>∃(t:Addr) (x:Nt),vs=[.ref t]/\H t=some (.tup (nV x)) /\ ∀H',Same H H'->Q (.bl (!decide (x.1=x.2.2.1))) H'
theorem J9 {f:Addr} {fd:FuncData} (F:kO K "is_note" "is_note" iw f fd) (ug:FnAt P w K mg base 1 "is_whole" ["value"] (Ux K)) (Bt:um mg):bZ P w K mg base kY 2 f fd ["value"] (zH K):=by
 refine F.ok JL (fun vs H Q E h=> ?_) (fun cdv A outer s H vs Q E hr h=> ?_)
 ·obtain ⟨t,x,rfl,_⟩:=h
  rfl
 ·obtain ⟨t,x,rfl,ht,k⟩:=h
  have xT:=hr.units
  refine ⟨_,(aF (cU (PW.pt (pP (gw (dI (aQ (cX (K:=K) (cv:= .ty "tuple") (c:= .type "tuple") rfl rfl) (by rfl) Bt.bH bx (aj (pv 0) (aj (fD (v:= .ty "tuple") (by rfl) Bt.yw vo rfl) aC))))) (lQ (bM rT (aQ (bw (K:=K) rfl) (by rfl) Bt.gK dR (aj (pv 0) aC)) aG (bJ _))))) (aK (bK wZ)) bQ)
   (aK (bK (qC (aQ (iR (K:=K) rfl rfl) (by rfl) Bt.MK Gk (aj (gA rfl (N:=["number"]) (own:=["number"]) (caps:=[]) (bC.of (by kernel_rfl)) (Vd (K:=K) rfl (pv 0)) (fun _ _ _ _=>(bW (i:=0) (show List.Nodup (["number"]:List Str) by decide +kernel) rfl (Or.inl rfl))) (fun _ _ _ _=>fM) (fun _ _ _ _=>(cA ug (hr.mono (by decide)) (by rfl) (aj (pv 0) aC)))) aC)) (qy (gB rT (aW (aZ (K:=K) rfl) (pv 0) aG (fun _ _=>rfl)) (aW (aZ (K:=K) rfl) (pv 0) aG (fun _ _=>rfl)) (bJ _))))))), ?_⟩
  refine ⟨_,rfl,_,_,true,rfl,.tup ht,iQ K,true,rfl, ?_⟩;refine dG ?_;refine ⟨_,rfl,t,_,rfl,.inr (cN.of ht),rfl,_,rfl, ?_⟩;refine u5 (by rfl) ?_;refine ⟨_,rfl,t,rfl,⟨_,cN.of ht⟩,fun D hD=> ?_⟩;refine Ov (K:=K) (fun i=>some (.bl true)) hD ht (by show 4<=100000;decide) (fun i v H2 G F hi s2 kG kF=> ?_) (fun H2 s2 e2=> ?_)
  ·obtain ⟨z,rfl⟩:∃z,v=V.int z:=by
    have hm:=List.mem_of_getElem? hi;simp only [nV,List.mem_cons,List.not_mem_nil,or_false] at hm;rcases hm with rfl|rfl|rfl|rfl<;>exact ⟨_,rfl⟩
   exact ⟨_,rfl,z,rfl,kF _ H2 (Same.refl _) rfl⟩
  ·refine ⟨D,[true,true,true,true],rfl,bN.of e2,true,rfl, ?_⟩
   refine gJ ?_;refine ⟨_,rfl,_,_,_,_,rfl,rfl,cN.of (s2 _ _ ht),rfl,_,rfl,_,_,_,_,rfl,rfl,cN.of (s2 _ _ ht),rfl,rfl, ?_⟩
   have e:(!decide (V.int x.1=V.int x.2.2.1))=(!decide (x.1=x.2.2.1)):=by
    by_cases q:x.1=x.2.2.1
    ·simp [q]
    ·simp [q]
   show Q (.bl (!decide (V.int x.1=V.int x.2.2.1))) H2;rw [e];exact k H2 s2
def vX (K:PySem.W.Frag):Sp:=fun vs H Q _=>∃(c t:Addr) (cs:List Int) (x:Nt),vs=[.ref c,.ref t]/\H c=some (.lst (cs.map V.int))/\H t=some (.tup (nV x))/\Gz cs x/\Js cs /\ ∀H',Same H H'->Q (.bl true) H'
theorem BZ {f:Addr} {fd:FuncData} (F:kO K "is_between" "is_between" dY f fd) (fJ:FnAt P w K mg base 2 "is_below" ["value","count"] (rA K)) (O8:FnAt P w K mg base 2 "is_note" ["value"] (zH K)) (Bt:um mg):bZ P w K mg base kY 3 f fd ["counts","note"] (vX K):=by
 refine F.ok BW (fun vs H Q E h=> ?_) (fun cdv A outer s H vs Q E hr h=> ?_)
 ·obtain ⟨c,t,cs,x,rfl,_⟩:=h
  rfl
 ·obtain ⟨c,t,cs,x,rfl,hc,ht,ok,cok,k⟩:=h
  have xT:=hr.units;obtain ⟨⟨h0,h1⟩,⟨k0,k1⟩,⟨o0,o1⟩,⟨m0,m1⟩,hne⟩:=id ok
  refine ⟨_,(aF (cU (PW.pt (pP (gw (dI (cA O8 (hr.mono (by decide)) (by rfl) (aj (pv 1) aC)))) (pP (gw (dI (cA fJ (hr.mono (by decide)) (by rfl) (aj (aW (aZ (K:=K) rfl) (pv 1) aG (fun _ _=>rfl)) (aj (aQ (bw (K:=K) rfl) (by rfl) Bt.gK dR (aj (pv 0) aC)) aC))))) (lQ (gw (dI (cA fJ (hr.mono (by decide)) (by rfl) (aj (aW (aZ (K:=K) rfl) (pv 1) aG (fun _ _=>rfl)) (aj (aQ (bw (K:=K) rfl) (by rfl) Bt.gK dR (aj (pv 0) aC)) aC))))))))) (aK (bK wZ)) bQ)
   (aK (bK (qC (cA fJ (hr.mono (by decide)) (by rfl) (aj (aW (aZ (K:=K) rfl) (pv 1) aG (fun _ _=>rfl)) (aj (aW (bh (K:=K) rfl) (pv 0) (aW (aZ (K:=K) rfl) (pv 1) aG (fun _ _=>rfl)) (fun _ _=>rfl)) aC))) (qy (cA fJ (hr.mono (by decide)) (by rfl) (aj (aW (aZ (K:=K) rfl) (pv 1) aG (fun _ _=>rfl)) (aj (aW (bh (K:=K) rfl) (pv 0) (aW (aZ (K:=K) rfl) (pv 1) aG (fun _ _=>rfl)) (fun _ _=>rfl)) aC)))))))), ?_⟩
  refine ⟨_,rfl,t,x,rfl,ht,fun H1 s1=>⟨_,rfl, ?_⟩⟩;rw [show (!decide (x.1=x.2.2.1))=true by simp [hne]];refine dG ?_;have hc1:=s1 _ _ hc;have ht1:=s1 _ _ ht;refine ⟨_,rfl,_,_,_,_,rfl,rfl,cN.of ht1,rfl,_,rfl,c,_,rfl,.inl (bN.of hc1),_,_,rfl,_,rfl, ?_⟩;rw [show decide (xH x.1 (cs.map V.int).length)=true by rw [List.length_map];simp [xH,h0,h1]];refine dG ?_;refine ⟨_,rfl,_,_,_,_,rfl,rfl,cN.of ht1,rfl,_,rfl,c,_,rfl,.inl (bN.of hc1),_,_,rfl,_,rfl, ?_⟩;rw [show decide (xH x.2.2.1 (cs.map V.int).length)=true by rw [List.length_map];simp [xH,o0,o1]];refine dG ?_;have g1:=(cok.gI x.1).1;have g2:=(cok.gI x.2.2.1).1;have e1:gI cs x.1=((gI cs x.1).toNat:Int):=by lia
  have e2:gI cs x.2.2.1=((gI cs x.2.2.1).toNat:Int):=by lia
  refine ⟨_,rfl,_,_,_,_,rfl,rfl,cN.of ht1,rfl,_,rfl,_,rfl,_,_,_,_,rfl,rfl,cN.of ht1,rfl,_,_,_,_,rfl,rfl,bN.of hc1,gF h0 h1,x.2.1,(gI cs x.1).toNat,by rw [←e1];rfl,_,rfl, ?_⟩;rw [decide_eq_true (show xH x.2.1 (gI cs x.1).toNat from ⟨k0,by lia⟩)];refine gJ ?_;refine ⟨_,rfl,_,_,_,_,rfl,rfl,cN.of ht1,rfl,_,rfl,_,rfl,_,_,_,_,rfl,rfl,cN.of ht1,rfl,_,_,_,_,rfl,rfl,bN.of hc1,gF o0 o1,x.2.2.2,(gI cs x.2.2.1).toNat,by rw [←e2];rfl, ?_⟩;rw [decide_eq_true (show xH x.2.2.2 (gI cs x.2.2.1).toNat from ⟨m0,by lia⟩)];exact k H1 s1
def zM (K:PySem.W.Frag):Sp:=fun vs H Q _=>∃(t c a:Addr) (cs:List Int) (ns:List Nt),vs=[.ref t]/\RecAt H t c a cs ns/\Jm cs ns /\ ∀H',Same H H'->Q .non H'
theorem R7 (n:Nat) (v:V):(List.range n).filterMap (fun _=>some v)=List.replicate n v:=by
 induction n with
 | zero=>rfl
 | succ n ih=>rw [d9,ih,List.replicate_succ'];rfl
theorem Ad {f:Addr} {fd:FuncData} (F:kO K "check_notes" "check_notes" dh f fd) (GK:FnAt P w K mg base 3 "is_between" ["counts","note"] (vX K)) (Bt:um mg):bZ P w K mg base kY 4 f fd ["record"] (zM K):=by
 refine F.ok zP (fun vs H Q E h=> ?_) (fun cdv A outer s H vs Q E hr h=> ?_)
 ·obtain ⟨t,c,a,cs,ns,rfl,_⟩:=h
  rfl
 ·obtain ⟨t,c,a,cs,ns,rfl,⟨ht,hc,hN⟩,ok,k⟩:=h
  have xT:=hr.units;obtain ⟨vs,ha,dv⟩:=id hN;have vl:vs.length=ns.length:=by rw [dv.length,List.length_map]
  have nl:=ok.2.1;refine ⟨_,(aK (cU (gw (dI (aQ (iR (K:=K) rfl rfl) (by rfl) Bt.MK Gk (aj (gA rfl (N:=["note","record"]) (own:=["note"]) (caps:=[0]) (bC.of (by kernel_rfl)) (dW (K:=K) rfl (aW (aZ (K:=K) rfl) (pv 0) aG (fun _ _=>rfl))) (fun _ _ _ _=>(bW (i:=0) (show List.Nodup (["note","record"]:List Str) by decide +kernel) rfl (Or.inl rfl))) (fun _ _ _ _=>fM) (fun _ _ _ _=>(cA GK (hr.mono (by decide)) (by rfl) (aj (aW (aZ (K:=K) rfl) (pv 1) aG (fun _ _=>rfl)) (aj (pv 0) aC))))) aC)))) (aK QB) bQ)), ?_⟩;refine ⟨_,rfl,_,_,_,_,rfl,rfl,cN.of ht,rfl,a,rfl,⟨_,bN.of ha⟩,fun D hD=> ?_⟩;refine oA (K:=K) (fun i=>some (.bl true)) hD (bN.of ha) (by lia) (fun i v H2 G F hi s2 kG kF=> ?_) (fun H2 s2 e2=> ?_)
  ·obtain ⟨x,q,ex,rfl,hx⟩:=uV dv hi
   exact ⟨_,rfl,_,_,_,_,rfl,rfl,cN.of (s2 _ _ ht),rfl,_,rfl,c,q,cs,x,rfl,s2 _ _ hc,s2 _ _ hx,ok.2.2 x (List.mem_of_getElem? ex),ok.1,fun H3 s3=>kF _ H3 s3 rfl⟩
  ·rw [R7] at e2
   refine ⟨D,List.replicate vs.length true,rfl,bN.of (by rw [e2,List.map_replicate]),_,rfl, ?_⟩;rw [show (List.replicate vs.length true).all id=true by simp];refine dG ?_;exact k H2 s2
def GP (cs ds:List Int):Prop:=ds.length=cs.length /\ ∀i:Int,0<=i->i<cs.length->0<=gI ds i/\gI ds i<=gI cs i
def Qp (K:PySem.W.Frag):Sp:=fun vs H Q _=>∃(d t:Addr) (ds:List Int) (h k:Int),vs=[.ref d,.ref t]/\H d=some (.lst (ds.map V.int))/\H t=some (.tup [.int h,.int k])/\0<=h/\h<ds.length/\Q (.bl (decide (k<gI ds h))) H
theorem Y_ {f:Addr} {fd:FuncData} (F:kO K "has" "has" uR f fd):bZ P w K mg base kY 1 f fd ["done","touch"] (Qp K):=by
 refine F.ok Ys (fun vs H Q E h=> ?_) (fun cdv A outer s H vs Q E hr h=> ?_)
 ·obtain ⟨d,t,ds,h,k,rfl,_⟩:=h
  rfl
 ·obtain ⟨d,t,ds,h,k,rfl,hd,ht,h0,h1,q⟩:=h
  refine ⟨_,(aK (bK (gB Ac (aW (aZ (K:=K) rfl) (pv 1) aG (fun _ _=>rfl)) (aW (bh (K:=K) rfl) (pv 0) (aW (aZ (K:=K) rfl) (pv 1) aG (fun _ _=>rfl)) (fun _ _=>rfl)) (bJ _)))), ?_⟩;exact ⟨_,rfl,_,_,_,_,rfl,rfl,cN.of ht,rfl,_,rfl,_,rfl,_,_,_,_,rfl,rfl,cN.of ht,rfl,_,_,_,_,rfl,rfl,bN.of hd,gF h0 h1,_,_,rfl,rfl,q⟩
def nK (x:Nt):List Int:=[x.1,x.2.1,x.2.2.1,x.2.2.2]
theorem Zi (x:Nt):(nK x).map V.int=nV x:=rfl
theorem Zj {x y:Nt} (h:nK x=nK y):x=y:=by
 obtain ⟨a,b,c,d⟩:=x;obtain ⟨a',b',c',d'⟩:=y;simp only [nK,List.cons.injEq,and_true] at h;obtain ⟨rfl,rfl,rfl,rfl⟩:=h;rfl
def GC (ns:List Nt):Prop:=ns.Pairwise fun x y=>Tim.jV (nK y) (nK x)=false
theorem CT:∀{a b:List Nt},a.Perm b->GC a->GC b->a=b
 | [],_,p,_,_=>p.nil_eq
 | x::r,b,p,ha,hb=>by
   cases b with
   | nil=>exact absurd p.length_eq (by simp)
   | cons y t=>
     have hx:x∈y::t:=p.mem_iff.mp (.head _);have hy:y∈x::r:=p.mem_iff.mpr (.head _)
     have e:x=y:=by
      rcases List.mem_cons.mp hx with h|h
      ·exact h
      ·rcases List.mem_cons.mp hy with h'|h'
       ·exact h'.symm
       ·exact Zj (Tim.H_ _ _ ((List.pairwise_cons.mp hb).1 x h) ((List.pairwise_cons.mp ha).1 y h'))
     subst e;rw [CT (List.perm_cons _ |>.mp p) (List.pairwise_cons.mp ha).2 (List.pairwise_cons.mp hb).2]
def vInt:V->Int
 | .int n=>n
 | _=>0
def tupK (H:Hp) (v:V):List Int:=match v with
 | .ref t=>match H t with
   | some (.tup xs)=>xs.map vInt
   | _=>[]
 | _=>[]
def toN:List Int->Nt
 | [a,b,c,d]=>(a,b,c,d)
 | _=>(0,0,0,0)
theorem qZ {H:Hp} {t:Addr} {x:Nt} (h:H t=some (.tup (nV x))):tupK H (.ref t)=nK x:=by
 unfold tupK;dsimp only;rw [h];rfl
theorem Qh (x:Nt):toN (nK x)=x:=rfl
theorem Fp {H:Hp} {vs:List V} {ns:List Nt} (d:aR H vs (ns.map nD)) {v:V} (hv:v∈vs):∃t x,v = .ref t/\x∈ns/\H t=some (.tup (nV x)):=by
 obtain ⟨i,hi,e⟩:=List.getElem_of_mem hv;obtain ⟨x,t,ex,ev,ht⟩:=uV d (i:=i) (v:=v) (by rw [List.getElem?_eq_getElem hi,e]);exact ⟨t,x,ev,List.mem_of_getElem? ex,ht⟩
theorem LR {H:Hp}:∀{vs:List V} {ns:List Nt},aR H vs (ns.map nD)->vs.map (fun v=>toN (tupK H v))=ns
 | [],[],_=>rfl
 | [],_::_,h=>by simp only [List.map_cons,aR] at h
 | _::_,[],h=>by simp only [List.map_nil,aR] at h
 | v::vs,n::ns,h=>by
   simp only [List.map_cons,aR] at h;obtain ⟨t,rfl,ht⟩:=Ay h.1;rw [List.map_cons,LR h.2,qZ ht,Qh]
theorem Rg {H:Hp}:∀{vs:List V},(∀v∈vs,∃t x,v=V.ref t/\H t=some (.tup (nV x)))->aR H vs ((vs.map fun v=>toN (tupK H v)).map nD)
 | [],_=>by simp [aR]
 | v::vs,h=>by
   obtain ⟨t,x,rfl,ht⟩:=h v (.head _);simp only [List.map_cons,aR];exact ⟨by rw [qZ ht,Qh];exact ud ht,Rg fun v hv=>h v (.tail _ hv)⟩
theorem Hh {K:PySem.W.Frag} {H:Hp} {p:Addr} {ns:List Nt} {Q:VK} (N:lY H p ns) (k:∀l ns' H',H l=none->lY H' l ns'->ns'.Perm ns->GC ns'->Same H H'->Q (.ref l) H'):JT K [.ref p] H Q:=by
 obtain ⟨ys,hp,d⟩:=N;refine ⟨p,ys,4,tupK H,rfl,bN.of hp,by decide,fun y hy=> ?_,fun l zs hl pz sz=> ?_⟩
 ·obtain ⟨t,x,rfl,_,ht⟩:=Fp d hy
  exact ⟨t,rfl,by rw [qZ ht,Zi];exact cN.of ht,by rw [qZ ht];rfl⟩
 ·have sm:=aH (o:=HO.lst zs) hl
  have all:∀v∈zs,∃t x,v=V.ref t/\H t=some (.tup (nV x)):=fun v hv=>by
   obtain ⟨t,x,e,_,ht⟩:=Fp d (pz.mem_iff.mp hv);exact ⟨t,x,e,ht⟩
  refine k l (zs.map fun v=>toN (tupK H v)) _ hl ⟨zs,ak,aR.keep sm.tups _ (cg _ jH _) (Rg all)⟩ ?_ ?_ sm
  ·rw [←LR d]
   exact pz.map _
  ·unfold GC
   rw [List.pairwise_map];refine List.Pairwise.imp_of_mem (fun {x y} hx hy h=> ?_) sz;obtain ⟨t,a,rfl,ht⟩:=all x hx;obtain ⟨u,b,rfl,hu⟩:=all y hy;rw [qZ ht,qZ hu] at h ⊢;exact h
def La (hs:List bO) (k:Nat):Bool:=match hs[k]? with
 | some s=>decide (s.st = "waits")
 | none=>false
theorem Ks {α:Type} (p:Nat->Bool) (f:Nat->α) (n:Nat):(List.range n).filterMap (fun i=>if p i then some (f i) else none)=((List.range n).filter p).map f:=by
 induction n with
 | zero=>rfl
 | succ n ih=>
   rw [d9,ih,List.range_succ,List.filter_append,List.map_append];congr 1;cases h:p n<;>simp [h]
def rpF (t f st pr:Addr):List (Str×V):=[("record",.ref t),("firsts",.ref f),("stage",.ref st),("progress",.ref pr)]
structure Jv where
 (o dx t c a f pr:Addr) (W:Pb)
structure mF (CR CW CH:Addr) (i ii:Nat) (τ:Tg) (H:Hp) (R:Jv) (S:nP) (cs:List Int) (ns:List Nt) (gs:List Int):Prop where
 w:xX CW CH i τ H R.W S
 o:H R.o=some (.ins CR R.dx (rpF R.t R.f R.W.o R.pr))
 to:τ R.o=[ii,7]
 pr:H R.pr=some (.lst (gs.map V.int))
 tp:τ R.pr=[ii,8]
 ne:ii≠i
 n0:ii≠0
 Yy:RecAt (pW τ H) R.t R.c R.a cs ns
 ZQ:mj (pW τ H) R.f ns
 ok:Jm cs ns
 lc:cs.length=S.hs.length
 dn:GP cs gs
 gd:xP S
 ml:S.m<=100
section
variable {CR CW CH:Addr} {i ii:Nat} {τ τ':Tg} {H H':Hp} {R:Jv} {S:nP} {cs gs:List Int} {ns:List Nt}
theorem mF.rcd (r:mF CR CW CH i ii τ H R S cs ns gs):RecAt H R.t R.c R.a cs ns:=r.Yy.same (q_ _ _)
theorem mF.fst (r:mF CR CW CH i ii τ H R S cs ns gs):mj H R.f ns:=r.ZQ.same (q_ _ _)
theorem mF.mv (r:mF CR CW CH i ii τ H R S cs ns gs) (q:Mv i τ H τ' H') (q':Mv ii τ H τ' H') (u:vH τ' H'):mF CR CW CH i ii τ' H' R S cs ns gs:=by
 have e1:=q'.keep _ _ r.o (.inr (by rw [r.to];rfl));have e2:=q'.keep _ _ r.pr (.inr (by rw [r.tp];rfl));exact ⟨r.w.mv q u,e1.1,e1.2.trans r.to,e2.1,e2.2.trans r.tp,r.ne,r.n0,r.Yy.same (pq q),r.ZQ.same (pq q),r.ok,r.lc,r.dn,r.gd,r.ml⟩
theorem mF.same (r:mF CR CW CH i ii τ H R S cs ns gs) (k:Same H H'):mF CR CW CH i ii τ H' R S cs ns gs:=r.mv (Mv.of_same k) (Mv.of_same k) (r.w.un.same k)
end
def gQ (S:nP) (cs gs:List Int) (k:Nat):Bool:=decide (gI gs k=gI cs k) || !(La S.hs k)
def jd (ns:List Nt) (gs:List Int) (k:Nat):List Nt:=((cW ns k (gI gs k)).filter fun q=> !decide (q.2<gI gs q.1)).map fun q=>(q.1,q.2,(k:Int),gI gs k)
def vV (CR CW CH:Addr) (K:PySem.W.Frag):Sp:=fun vs H Q _=>∃(i ii:Nat) (τ:Tg) (R:Jv) (S:nP) (cs gs:List Int) (ns:List Nt),vs=[.ref R.o]/\mF CR CW CH i ii τ H R S cs ns gs /\ ∀l H',H l=none->H' l=some (.lst (gs.map V.int))->Same H H'->Q (.ref l) H'
theorem J5 {aB aq ao:Addr} {f:Addr} {fd:FuncData} (F:kO K "counts" "Replay.counts" cM f fd) (aL:eF K aB) (Bt:um mg):bZ P w K mg base kY 1 f fd ["self"] (vV aB aq ao K):=by
 refine F.ok wg (fun vs H Q E h=> ?_) (fun cdv A outer s H vs Q E hr h=> ?_)
 ·obtain ⟨i,ii,τ,R,S,cs,gs,ns,rfl,_⟩:=h
  rfl
 ·obtain ⟨i,ii,τ,R,S,cs,gs,ns,rfl,r,k⟩:=h
  refine ⟨_,(aK (bK (eV (dH (K:=K) rfl) (by rfl) Bt.jL iB (aj (bB (K:=K) rfl (pv 0) rfl) aC)))), ?_⟩;exact ⟨_,rfl,R.o,aB,R.dx,_,_,rfl,r.o,aL.cls,aL.fH,rfl,R.pr,_,rfl,.inl (bN.of r.pr),fun l hl=>k l _ hl ak (aH hl)⟩
def Eo (CR CW CH:Addr) (K:PySem.W.Frag):Sp:=fun vs H Q _=>∃(i ii:Nat) (τ:Tg) (R:Jv) (S:nP) (cs gs:List Int) (ns:List Nt),vs=[.ref R.o]/\mF CR CW CH i ii τ H R S cs ns gs/\Q (.bl (decide (gs=cs))) H
theorem Q7 {aB aq ao:Addr} {f:Addr} {fd:FuncData} (F:kO K "done" "Replay.done" dF f fd) (aL:eF K aB) (Bt:um mg):bZ P w K mg base kY 1 f fd ["self"] (Eo aB aq ao K):=by
 refine F.ok zT (fun vs H Q E h=> ?_) (fun cdv A outer s H vs Q E hr h=> ?_)
 ·obtain ⟨i,ii,τ,R,S,cs,gs,ns,rfl,_⟩:=h
  rfl
 ·obtain ⟨i,ii,τ,R,S,cs,gs,ns,rfl,r,k⟩:=h
  have xT:=hr.units;refine ⟨_,(aK (bK (gB (Fj (K:=K) rfl xT) (bB (K:=K) rfl (pv 0) rfl) (aW (aZ (K:=K) rfl) (bB (K:=K) rfl (pv 0) rfl) aG (fun _ _=>rfl)) (bJ _)))), ?_⟩;have rc:=r.rcd;refine ⟨_,rfl,R.o,aB,R.dx,_,_,rfl,r.o,aL.cls,aL.fH,rfl,_,rfl,R.o,aB,R.dx,_,_,rfl,r.o,aL.cls,aL.nY,rfl,_,_,_,_,rfl,rfl,cN.of rc.1,rfl,_,_,jW r.pr,jW rc.2.1,shaped_ints _,shaped_ints _, ?_⟩;rw [if_neg Bool.false_ne_true,qJ PyData.int Gb];exact k
def uF (CR CW CH:Addr) (K:PySem.W.Frag):Sp:=fun vs H Q _=>∃(i ii:Nat) (τ:Tg) (R:Jv) (S:nP) (cs gs:List Int) (ns:List Nt) (k:Nat),vs=[.ref R.o,.int k]/\mF CR CW CH i ii τ H R S cs ns gs/\k<cs.length/\Q (.bl (gQ S cs gs k)) H
theorem Nz {aB aq ao aV:Addr} {f:Addr} {fd:FuncData} (F:kO K "is_over" "Replay.is_over" cC f fd) (aL:eF K aB) (aU:ig K aq) (Jq:MethAt P w K mg base 4 aq "how" ["self","hand"] (fun vs H Q _=>Qo aq ao aV K vs H Q fun _ _ _=>False)) (Bt:um mg):bZ P w K mg base kY 5 f fd ["self","hand"] (uF aB aq ao K):=by
 refine F.ok uM (fun vs H Q E h=> ?_) (fun cdv A outer s H vs Q E hr h=> ?_)
 ·obtain ⟨i,ii,τ,R,S,cs,gs,ns,n,rfl,_⟩:=h
  rfl
 ·obtain ⟨i,ii,τ,R,S,cs,gs,ns,n,rfl,r,nl,k⟩:=h
  refine ⟨_,(aK (bK (abB (gB h_ (aW (bh (K:=K) rfl) (bB (K:=K) rfl (pv 0) rfl) (pv 1) (fun _ _=>rfl)) (aW (bh (K:=K) rfl) (aW (aZ (K:=K) rfl) (bB (K:=K) rfl (pv 0) rfl) aG (fun _ _=>rfl)) (pv 1) (fun _ _=>rfl)) (bJ _)) (qy (gB rT (cZ Jq aU.cls (hr.mono (by decide)) (bB (K:=K) rfl (pv 0) rfl) (aj (pv 1) aC)) cV (bJ _)))))), ?_⟩;have rc:=r.rcd;have lg:=r.dn.1;refine ⟨_,rfl,R.o,aB,R.dx,_,_,rfl,r.o,aL.cls,aL.fH,rfl,_,rfl,_,_,_,_,rfl,rfl,bN.of r.pr,gF (by lia) (by lia),_,rfl,R.o,aB,R.dx,_,_,rfl,r.o,aL.cls,aL.nY,rfl,_,_,_,_,rfl,rfl,cN.of rc.1,rfl,_,rfl,_,_,_,_,rfl,rfl,bN.of rc.2.1,gF (by lia) (by lia),rfl, ?_⟩;have nh:n<S.hs.length:=by rw [←r.lc];exact nl
  have es:S.hs[n]? = some S.hs[n]:=by simp [nh]
  by_cases e:gI gs n=gI cs n
  ·rw [decide_eq_true (by rw [e])]
   refine ⟨_,rfl,gJ ?_⟩;have:gQ S cs gs n=true:=by unfold gQ;rw [decide_eq_true e];rfl
   rw [←this];exact k
  ·rw [decide_eq_false (fun z=>e (V.int.inj z))]
   refine ⟨_,rfl,dG ?_⟩;have inn:xH (n:Int) S.hs.length:=⟨by lia,by lia⟩;refine ⟨_,rfl,R.o,aB,R.dx,_,_,rfl,r.o,aL.cls,aL.Ft,rfl,R.W.o,R.W.dx,_,rfl,r.w.o,rfl,_,rfl,i,τ,R.W,S,_,rfl,r.w,fun k3 t3 e3 e3'=> ?_,fun z=>absurd inn z⟩
   obtain rfl:t3=S.hs[n]:=by
    have:k3=n:=by lia
    subst this;rw [es] at e3';exact (Option.some.inj e3').symm
   refine ⟨rfl, ?_⟩
   have:gQ S cs gs n = !decide (V.str S.hs[n].st=V.str (Str.ofString "waits")):=by
    unfold gQ La;rw [decide_eq_false e,es]
    by_cases q:S.hs[n].st=Str.ofString "waits"
    ·simp only [q];rfl
    ·have:¬V.str S.hs[n].st=V.str (Str.ofString "waits"):=fun z=>q (V.str.inj z)
     show (false || !decide (S.hs[n].st=Str.ofString "waits"))=_;rw [decide_eq_false q,decide_eq_false this];rfl
   rw [this] at k;exact k
def Et (CR CW CH:Addr) (K:PySem.W.Frag):Sp:=fun vs H Q _=>∃(i ii:Nat) (τ:Tg) (R:Jv) (S:nP) (cs gs:List Int) (ns:List Nt) (k:Nat),vs=[.ref R.o,.int k]/\mF CR CW CH i ii τ H R S cs ns gs/\k<cs.length /\ ∀l H',H l=none->lY H' l (jd ns gs k)->Same H H'->Q (.ref l) H'
theorem J_ {aB aq ao:Addr} {f:Addr} {fd:FuncData} (F:kO K "holding" "Replay.holding" cD f fd) (aL:eF K aB) (adS:FnAt P w K mg base 1 "has" ["done","touch"] (Qp K)) (Bt:um mg):bZ P w K mg base kY 2 f fd ["self","hand"] (Et aB aq ao K):=by
 refine F.ok mH (fun vs H Q E h=> ?_) (fun cdv A outer s H vs Q E hr h=> ?_)
 ·obtain ⟨i,ii,τ,R,S,cs,gs,ns,n,rfl,_⟩:=h
  rfl
 ·obtain ⟨i,ii,τ,R,S,cs,gs,ns,n,rfl,r,nl,k⟩:=h
  have hu:=Xc hr
  refine ⟨_,(aF (bU (i:=2) mH.nd rfl (Or.inr rfl) (jF (aj (pv 1) (aj (aW (bh (K:=K) rfl) (bB (K:=K) rfl (pv 0) rfl) (pv 1) (fun _ _=>rfl)) aC))))
   (aK (bK (gA rfl (N:=["first","touch","self"]) (own:=["first"]) (caps:=[2,0]) (bC.of (by kernel_rfl)) (dW (K:=K) rfl (QT hu (bB (K:=K) rfl (pv 0) rfl) (pv 2) (eO aC) ⟨rfl,rfl,rfl,rfl⟩)) (fun _ _ _ _=>(bW (i:=0) (show List.Nodup (["first","touch","self"]:List Str) by decide +kernel) rfl (Or.inl rfl))) (fun _ _ _ _=>(rC (gw (dI (cA adS (hr.mono (by decide)) (by rfl) (aj (bB (K:=K) rfl (pv 2) rfl) (aj (pv 0) aC))))))) (fun _ _ _ _=>(bY QW (pv 0) (pv 1))))))), ?_⟩
  have lg:=r.dn.1;refine ⟨_,rfl,_,rfl,R.o,aB,R.dx,_,_,rfl,r.o,aL.cls,aL.fH,rfl,_,rfl,_,_,_,_,rfl,rfl,bN.of r.pr,gF (by lia) (by lia),(by show 2<=sizeLine;decide),fun t ht=> ?_⟩;have s1:=aH (o:=HO.tup [V.int n,V.int (gI gs n)]) ht;have r1:=r.same s1;obtain ⟨kvs,hF,hval⟩:=r1.fst;refine ⟨_,rfl,R.o,aB,R.dx,_,_,rfl,r1.o,aL.cls,aL.HD,rfl,R.f,rfl,.inr ⟨_,.inl hF⟩,_,rfl,(by show 0<=sizeLine;decide),fun el hel=> ?_⟩;have s2:=aH (o:=HO.lst []) hel;have s12:=s1.trans s2;refine ⟨_,TQ.t (k:=[Sum.inl (n:Int),Sum.inl (gI gs n)]) (s2 _ _ hF) (s2 _ _ ak), ?_⟩
  obtain ⟨l,el',PL⟩:∃l,(gH kvs [Sum.inl (n:Int),Sum.inl (gI gs n)]).getD (V.ref el) = .ref l/\qO (upd (upd H t (.tup [V.int n,V.int (gI gs n)])) el (.lst [])) l (cW ns n (gI gs n)):=by
   rcases hval n (gI gs n) with z|⟨l,e1,e2⟩
   ·exact ⟨el,by rw [z.1];rfl,by rw [z.2];exact ⟨[],ak,by simp [aR]⟩⟩
   ·exact ⟨l,by rw [e1];rfl,e2.same s2⟩
  rw [el'];obtain ⟨vs,hl,dv⟩:=id PL;have vl:vs.length=(cW ns n (gI gs n)).length:=by rw [dv.length,List.length_map]
  have fl:(cW ns n (gI gs n)).length<=ns.length:=by unfold cW;rw [List.length_map];exact List.length_filter_le ..
  have nsl:=r.ok.2.1;have ht2:(upd (upd H t (.tup [V.int n,V.int (gI gs n)])) el (.lst [])) t=some (.tup [V.int n,V.int (gI gs n)]):=s2 _ _ ak;have r2:=r1.same s2;generalize (upd (upd H t (.tup [V.int n,V.int (gI gs n)])) el (.lst []))=H2 at s12 hl dv PL ht2 r2 s2 ⊢;refine ⟨l,rfl,⟨_,bN.of hl⟩,fun D hD=> ?_⟩;refine Oz (K:=K) (fun i=>((cW ns n (gI gs n))[i]?).bind fun q=>if !decide (q.2<gI gs q.1) then some (nD (q.1,q.2,(n:Int),gI gs n)) else none) (fun i dd e=> ?_) hD (bN.of hl) (by lia) (fun i v H3 G F hi s3 kG kF=> ?_) (fun H3 ws s3 e3 d3=> ?_)
  ·cases ex:(cW ns n (gI gs n))[i]? with
   | none=>rw [ex] at e;cases e
   | some x=>
     rw [ex,Option.bind_some] at e;split at e
     ·cases e;rfl
     ·cases e
  ·obtain ⟨q,u,eq,rfl,hq⟩:=Vb dv hi
   obtain ⟨x,xm,rfl⟩:∃x∈ns,q=ft x:=by
    obtain ⟨x,hx,e⟩:=List.mem_map.mp (List.mem_of_getElem? eq);exact ⟨x,(List.mem_filter.mp hx).1,e.symm⟩
   obtain ⟨⟨h0,h1⟩,⟨k0,k1⟩,⟨o0,o1⟩,⟨m0,m1⟩,hne⟩:=r.ok.2.2 x xm;have r3:=r2.same s3;have ZD:=s3 _ _ hq;simp only [eq,Option.bind_some] at kG kF;refine ⟨_,rfl,R.o,aB,R.dx,_,_,rfl,r3.o,aL.cls,aL.fH,rfl,_,rfl,R.pr,u,gs,_,_,rfl,r3.pr,ZD,h0,by rw [lg];exact h1,_,rfl, ?_⟩
   by_cases w:(ft x).2<gI gs (ft x).1
   ·rw [decide_eq_true w]
    refine dG ?_;exact kG _ (Same.refl _) (by simp [w])
   ·rw [decide_eq_false w]
    refine gJ ?_;refine ⟨_,rfl,_,rfl,u,t,_,_,rfl,rfl,ZD,s3 _ _ ht2,by show 2+2<=sizeLine;decide,fun p H4 hp s4=> ?_⟩;exact kF _ (nD ((ft x).1,(ft x).2,(n:Int),gI gs n)) _ s4 (by simp [w]) (ud hp)
  ·rw [vl,yu (fun q:M6=> !decide (q.2<gI gs q.1)) (fun q:M6=>nD (q.1,q.2,(n:Int),gI gs n))] at d3
   refine k D H3 (s12.free hD) ⟨ws,e3, ?_⟩ (s12.trans s3);unfold jd;rw [List.map_map];exact d3
def n_ (S:nP) (cs:List Int) (ns:List Nt) (gs:List Int):List Nat:=(List.range cs.length).filter fun k=> !gQ S cs gs k&&(jd ns gs k).isEmpty
def En (CR CW CH:Addr) (K:PySem.W.Frag):Sp:=fun vs H Q _=>∃(i ii:Nat) (τ:Tg) (R:Jv) (S:nP) (cs gs:List Int) (ns:List Nt),vs=[.ref R.o]/\mF CR CW CH i ii τ H R S cs ns gs /\ ∀l H',H l=none->H' l=some (.lst ((n_ S cs ns gs).map fun k:Nat=>V.int k))->Same H H'->Q (.ref l) H'
theorem Q5 {aB aq ao:Addr} {f:Addr} {fd:FuncData} (F:kO K "free" "Replay.free" dD f fd) (aL:eF K aB) (jO:MethAt P w K mg base 5 aB "is_over" ["self","hand"] (uF aB aq ao K)) (jP:MethAt P w K mg base 2 aB "holding" ["self","hand"] (Et aB aq ao K)) (Bt:um mg):bZ P w K mg base kY 6 f fd ["self"] (En aB aq ao K):=by
 refine F.ok zR (fun vs H Q E h=> ?_) (fun cdv A outer s H vs Q E hr h=> ?_)
 ·obtain ⟨i,ii,τ,R,S,cs,gs,ns,rfl,_⟩:=h
  rfl
 ·obtain ⟨i,ii,τ,R,S,cs,gs,ns,rfl,r,k⟩:=h
  refine ⟨_,(aK (bK (gA rfl (N:=["hand","self"]) (own:=["hand"]) (caps:=[0]) (bC.of (by kernel_rfl)) (jc (by rfl) Bt.lF (aj (aQ (bw (K:=K) rfl) (by rfl) Bt.gK dR (aj (bB (K:=K) rfl (pv 0) rfl) aC)) aC)) (fun _ _ _ _=>(bW (i:=0) (show List.Nodup (["hand","self"]:List Str) by decide +kernel) rfl (Or.inl rfl))) (fun _ _ _ _=>(rC (PW.pt (zV (gw (dI (cZ jO aL.cls (hr.mono (by decide)) (pv 1) (aj (pv 0) aC)))) (yq (gw (CP (K:=K) rfl (cZ jP aL.cls (hr.mono (by decide)) (pv 1) (aj (pv 0) aC))))))))) (fun _ _ _ _=>(pv 0))))), ?_⟩;have lg:=r.dn.1;have c8:=r.ok.1.1;refine ⟨_,rfl,R.o,aB,R.dx,_,_,rfl,r.o,aL.cls,aL.fH,rfl,R.pr,_,rfl,.inl (bN.of r.pr),_,rfl,by rw [List.length_map];lia,by rw [List.length_map];lia,fun D hD=> ?_⟩;rw [List.length_map,Int.toNat_natCast,lg];refine ou (fun j=>if !gQ S cs gs j&&(jd ns gs j).isEmpty then some (.int (j:Nat)) else none) hD (by lia) (fun j H1 G F hj s1 kG kF=> ?_) (fun H1 s1 e1=> ?_)
  ·have r1:=r.same s1
   refine ⟨_,rfl,R.o,R.dx,_,rfl,r1.o,rfl,_,rfl,i,ii,τ,R,S,cs,gs,ns,j,by rw [Int.zero_add];rfl,r1,hj,_,rfl, ?_⟩;cases eo:gQ S cs gs j with
   | true=>
     refine dG ?_;exact kG H1 (Same.refl _) (by rw [eo];rfl)
   | false=>
     refine gJ ?_;refine ⟨_,rfl,R.o,R.dx,_,rfl,r1.o,rfl,_,rfl,i,ii,τ,R,S,cs,gs,ns,j,by rw [Int.zero_add];rfl,r1,hj,fun l H2 fl N2 s2=> ?_⟩;obtain ⟨ws,hl,dw⟩:=N2;have wl:ws.length=(jd ns gs j).length:=by rw [dw.length,List.length_map]
     have eb:ws.isEmpty=(jd ns gs j).isEmpty:=by
      cases ws<;>cases h:jd ns gs j<;>rw [h] at wl<;>first |rfl|(simp at wl)
     refine ⟨!ws.isEmpty,.inl ⟨ws,bN.of hl,rfl⟩, ?_⟩;rw [eb];cases eh:(jd ns gs j).isEmpty with
     | true=>
       refine gJ ?_;exact ⟨_,rfl,kF _ H2 s2 (by rw [eo,eh,Int.zero_add];rfl)⟩
     | false=>
       refine dG ?_;exact kG H2 s2 (by rw [eo,eh];rfl)
  ·rw [Ks (fun j=> !gQ S cs gs j&&(jd ns gs j).isEmpty) (fun j:Nat=>V.int j)] at e1
   exact k D H1 hD e1 s1
def Qu (cs gs:List Int) (k:Nat):List M6:=(List.range (gI cs k - gI gs k).toNat).map fun j:Nat=>((k:Int),gI gs k+(j:Int))
def mL (cs gs:List Int) (n:Nat):List M6:=(List.range n).flatMap (Qu cs gs)
def JH (CR CW CH:Addr) (K:PySem.W.Frag):Sp:=fun vs H Q _=>∃(i ii:Nat) (τ:Tg) (R:Jv) (S:nP) (cs gs:List Int) (ns:List Nt),vs=[.ref R.o]/\mF CR CW CH i ii τ H R S cs ns gs /\ ∀l H',H l=none->qO H' l (mL cs gs cs.length)->Same H H'->Q (.ref l) H'
theorem pI (cs gs:List Int) (n:Nat):mL cs gs (n+1)=mL cs gs n++Qu cs gs n:=by
 unfold mL;rw [List.range_succ,List.flatMap_append];simp
theorem Vp {aB aq ao:Addr} {f:Addr} {fd:FuncData} (F:kO K "left" "Replay.left" dz f fd) (aL:eF K aB) (Bt:um mg):bZ P w K mg base kY 1 f fd ["self"] (JH aB aq ao K):=by
 refine F.ok ji (fun vs H Q E h=> ?_) (fun cdv A outer s H vs Q E hr h=> ?_)
 ·obtain ⟨i,ii,τ,R,S,cs,gs,ns,rfl,_⟩:=h
  rfl
 ·obtain ⟨i,ii,τ,R,S,cs,gs,ns,rfl,r,k⟩:=h
  refine ⟨_,(aF (bU (i:=1) ji.nd rfl (Or.inl rfl) (eO aC))
   (aF (tU PassesOwn.never rfl (QH (K:=K) rfl (by rfl) Bt.Ji (aj (aW (aZ (K:=K) rfl) (bB (K:=K) rfl (pv 0) rfl) aG (fun _ _=>rfl)) aC)) (Ls (K:=K) (n:=2) rfl rfl (uT (bW (i:=2) ji.nd rfl (Or.inr rfl)) (uT (bW (i:=3) ji.nd rfl (Or.inl rfl)) Lr)))
   (aK (fO (Aa (K:=K) rfl PySem.F.plainAttrs_list PySem.F.slot_list_extend PySem.F.type_list_extend Ob (pv 1) (aj (gA rfl (N:=["k","hand"]) (own:=["k"]) (caps:=[2]) (bC.of (by kernel_rfl)) (Nr (by rfl) Bt.lF (aj (aW (bh (K:=K) rfl) (bB (K:=K) rfl (pv 0) rfl) (pv 2) (fun _ _=>rfl)) (aj (pv 3) aC))) (fun _ _ _ _=>(bW (i:=0) (show List.Nodup (["k","hand"]:List Str) by decide +kernel) rfl (Or.inl rfl))) (fun _ _ _ _=>fM) (fun _ _ _ _=>(jF (aj (pv 1) (aj (pv 0) aC))))) aC)))))
   (aK (bK (pv 1))))), ?_⟩
  have lg:=r.dn.1;have c8:=r.ok.1.1;refine ⟨(by show 0<=sizeLine;decide),fun l hl=> ?_⟩;have sl:=aH (o:=HO.lst []) hl;have r1:=r.same sl;have rc:=r1.rcd;refine ⟨_,rfl,R.o,aB,R.dx,_,_,rfl,r1.o,aL.cls,aL.nY,rfl,_,_,_,_,rfl,rfl,cN.of rc.1,rfl,R.c,_,rfl,bN.of rc.2.1, ?_⟩;refine RZ (K:=K) (xs:=cs.map V.int) (fun j σ Hc=>∃(x2 x3:Option V) (ps:List M6),σ=[some (.ref R.o),some (.ref l),x2,x3]/\Same H Hc/\qO Hc l (mL cs gs j)) ?_ ?_ ?_ ?_
  ·exact ⟨none,none,[],rfl,sl,[],ak,by simp [mL,aR]⟩
  ·rintro j σ Hc _ ⟨x2,x3,ps,rfl,sc,_⟩
   exact bN.of ((r.same sc).rcd.2.1)
  ·rintro j x σ Hc p hj ⟨x2,x3,ps,rfl,sc,PL⟩ hp
   rw [List.getElem?_map] at hj
   obtain ⟨c,ec,rfl⟩:∃c,cs[j]? = some c/\x = .int c:=by
    cases e:cs[j]? with
    | none=>rw [e] at hj;cases hj
    | some c=>rw [e] at hj;exact ⟨c,rfl,(Option.some.inj hj).symm⟩
   have jl:=(List.getElem?_eq_some_iff.mp ec).1;have gc:gI cs j=c:=Kr ec;subst gc;have gb:=r.dn.2 j (by lia) (by lia);have cb:=r.ok.1.gI j;have sp:=aH (o:=HO.tup [V.int (j:Int),V.int (gI cs j)]) hp;have r2:=r.same (sc.trans sp);obtain ⟨ws,hlw,dw⟩:=PL.same sp;refine ⟨p,_,rfl,cN.of ak,rfl,_,_,rfl,_,_,rfl,rfl, ?_⟩;dsimp only [gR];refine ⟨_,rfl,.inl ⟨rfl,_,bN.of hlw⟩,_,rfl,R.o,aB,R.dx,_,_,rfl,r2.o,aL.cls,aL.fH,rfl,_,rfl,_,_,_,_,rfl,rfl,bN.of r2.pr,gF (by lia) (by lia),_,rfl,_,_,rfl,⟨by lia,by lia,by lia,by lia⟩,fun D hD=> ?_⟩
   have ll:ws.length<=8*300:=by
    rw [dw.length,List.length_map]
    have:∀n,n<=cs.length->(mL cs gs n).length<=n*300:=fun n=>by
     induction n with
     | zero=>intro _;simp [mL]
     | succ n ih=>
       intro h;have:=ih (by lia);have cb':=r.ok.1.gI n;have gb':=r.dn.2 n (by lia) (by lia);rw [pI,List.length_append];unfold Qu;rw [List.length_map,List.length_range];lia
    have:=this j (by lia);lia
   have sD:=aH (o:=HO.lst []) hD;refine uf (lo:=gI gs j) (n:=(gI cs j - gI gs j).toNat) (fun m σ Hd=>(∃v,σ=[v,some (.int j)])/\Same (upd Hc p (.tup [V.int j,V.int (gI cs j)])) Hd/\qO Hd D ((List.range m).map fun x:Nat=>((j:Int),gI gs j+(x:Int)))) ?_ ?_ ?_
   ·exact ⟨⟨none,rfl⟩,sD,[],ak,by simp [aR]⟩
   ·rintro m σ Hd hm ⟨⟨v,rfl⟩,sd,us,hus,du⟩
    dsimp only [gR,BP];rw [if_pos rfl];refine ⟨_,rfl,_,rfl,(by show 2<=sizeLine;decide),fun q hq=> ?_⟩;have sq:=aH (o:=HO.tup [V.int j,V.int (gI gs j+m)]) hq;have ul:us.length=m:=by rw [du.length];simp
    have kp:Kp D (upd Hd q (.tup [V.int j,V.int (gI gs j+m)])) (upd (upd Hd q (.tup [V.int j,V.int (gI gs j+m)])) D (.lst (us++[V.ref q]))):=Kp.set;have tp:=kp.tups (sq _ _ hus);refine ⟨us,sq _ _ hus,by rw [ul,sizeLine_eq];lia,⟨_,rfl⟩,(sd.trans sq).newly hD,us++[V.ref q],ak, ?_⟩;rw [List.range_succ,List.map_append,List.map_append];exact Dw (aR.keep (fun a xs h=>tp _ _ (sq.tups _ _ h)) _ (cg _ qI _) du) (Mx (x:=((j:Int),gI gs j+(m:Int))) (tp _ _ ak))
   ·rintro σ Hd ⟨⟨v,rfl⟩,sd,us,hus,du⟩
    have ul:us.length<=300:=by rw [du.length];simp;lia
    refine ⟨l,D,ws,us,rfl,rfl,sd _ _ hlw,hus,by rw [sizeLine_eq];lia, ?_⟩;have Xi:=sd _ _ hlw;have kp:Kp l Hd (upd Hd l (.lst (ws++us))):=Kp.set;have tp:=kp.tups Xi;refine ⟨_,_,[],rfl,fun x o e=>kp _ _ (sd _ _ (sp _ _ (sc _ _ e))) (au e hl),ws++us,ak, ?_⟩;rw [pI,List.map_append];exact aR.append (aR.keep (fun a xs h=>tp _ _ (sd.tups _ _ h)) _ (cg _ qI _) dw) (aR.keep tp _ (cg _ qI _) du)
  ·rintro σ Hc ⟨x2,x3,ps,rfl,sc,PL⟩
   rw [List.length_map] at PL;exact ⟨_,rfl,k l Hc hl PL sc⟩
def JG (CR CW CH:Addr) (K:PySem.W.Frag):Sp:=fun vs H Q _=>∃(i ii:Nat) (τ:Tg) (R:Jv) (S:nP) (cs gs:List Int) (ns:List Nt),vs=[.ref R.o]/\mF CR CW CH i ii τ H R S cs ns gs /\ ∀H',Same H H'->Q (.int (cs.sum - gs.sum)) H'
theorem Dg {cs gs:List Int} (d:GP cs gs):((mL cs gs cs.length).length:Int)=cs.sum - gs.sum:=by
 have take:∀(l:List Int) (n:Nat),n<l.length->(l.take (n+1)).sum=(l.take n).sum+gI l n:=fun l n h=>by
  rw [Kr (List.getElem?_eq_getElem h),List.take_add_one,List.getElem?_eq_getElem h,List.sum_append];show _+([l[n]]:List Int).sum=_;rw [List.sum_cons,List.sum_nil,Int.add_zero]
 have:∀n,n<=cs.length->((mL cs gs n).length:Int)=(cs.take n).sum - (gs.take n).sum:=fun n=>by
  induction n with
  | zero=>intro _;simp [mL]
  | succ n ih=>
    intro h;have e:=ih (by lia);have gb:=d.2 n (by lia) (by lia);rw [pI,List.length_append,take cs n (by lia),take gs n (by rw [d.1];lia)];unfold Qu;rw [List.length_map,List.length_range];lia
 have e:=this cs.length (Nat.le_refl _);rw [List.take_length] at e;rw [e,←d.1,List.take_length]
theorem Vo {aB aq ao:Addr} {f:Addr} {fd:FuncData} (F:kO K "__len__" "Replay.__len__" cF f fd) (aL:eF K aB) (Cp:MethAt P w K mg base 1 aB "left" ["self"] (JH aB aq ao K)) (Bt:um mg):bZ P w K mg base kY 2 f fd ["self"] (JG aB aq ao K):=by
 refine F.ok uN (fun vs H Q E h=> ?_) (fun cdv A outer s H vs Q E hr h=> ?_)
 ·obtain ⟨i,ii,τ,R,S,cs,gs,ns,rfl,_⟩:=h
  rfl
 ·obtain ⟨i,ii,τ,R,S,cs,gs,ns,rfl,r,k⟩:=h
  refine ⟨_,(aK (bK (aQ (bw (K:=K) rfl) (by rfl) Bt.gK dR (aj (fP Cp aL.cls (hr.mono (by decide)) (pv 0)) aC)))), ?_⟩;refine ⟨_,rfl,R.o,R.dx,_,rfl,r.o,rfl,i,ii,τ,R,S,cs,gs,ns,rfl,r,fun l H1 fl PL s1=> ?_⟩;obtain ⟨ws,hl,dw⟩:=PL;refine ⟨l,_,rfl,.inl (bN.of hl), ?_⟩;rw [dw.length,List.length_map,Dg r.dn];exact k H1 s1
def yg (CE:Addr) (K:PySem.W.Frag):Sp:=fun vs H Q _=>∃(e:Addr) (v:V),vs=[.ref e,v]/\H e=some (Gy CE none e) /\ ∀d,H d=none->Q .non (upd (upd H d (.xd [("note",v)])) e (Gy CE (some d) e))
theorem Ra {aX:Addr} {f:Addr} {fd:FuncData} (F:kO K "__init__" "Held.__init__" fj f fd) (d_:Xf K mg aX "Held" "note"):bZ P w K mg base kY 1 f fd ["self","note"] (yg aX K):=by
 refine F.ok Ey (fun vs H Q E h=> ?_) (fun cdv A outer s H vs Q E hr h=> ?_)
 ·obtain ⟨e,v,rfl,_⟩:=h
  rfl
 ·obtain ⟨e,v,rfl,he,k⟩:=h
  refine ⟨_,(aK (U9 (K:=K) rfl (pv 0) (pv 1) rfl)), ?_⟩;exact ⟨_,rfl,_,rfl,e,aX,rfl,he,d_.sa,d_.na,fun d hd=>k d hd⟩
theorem Dm {H:Hp} {e d:Addr} {a b c:HO} (n:d≠e):upd (upd (upd H e a) d b) e c=upd (upd H d b) e c:=by
 funext x
 by_cases z:x=e
 ·rw [z,ak,ak]
 ·rw [aD z,aD z]
  by_cases y:x=d
  ·rw [y,ak,ak]
  ·rw [aD y,aD y,aD z]
def St2 (i ii:Nat) (τ:Tg) (H H':Hp):Prop:=∃H1,p8 i τ H H1/\p8 ii τ H1 H'
def jh (gs:List Int) (k:Nat):List Int:=gs.set k (gI gs k+1)
def yd (CR CW CH CN CO CE:Addr) (K:PySem.W.Frag):Sp:=fun vs H Q E=>∃(i ii:Nat) (τ:Tg) (R:Jv) (S:nP) (cs gs:List Int) (ns:List Nt) (h:Int),vs=[.ref R.o,.int h]/\mF CR CW CH i ii τ H R S cs ns gs/\S.ts.length<=9000 /\
 (∀(k:Nat) (x:Nt) (p d:Addr) (H':Hp),h=k->k<cs.length->gQ S cs gs k=false->(jd ns gs k)[0]? = some x->H d=none->H' d=some (.xd [("note",.ref p)])->Dat H' (.ref p) (nD x)->Same H H'->E (.ref CE) (some d) H') /\
 (∀(k:Nat) (s:bO) (r:Rw) (t:Addr) (H':Hp),h=k->k<cs.length->gQ S cs gs k=false->jd ns gs k=[]->S.hs[k]? = some s->s.st = "waits" -> s.rws[s.pos]? = some r->touch r=true->H t=none->H' t=some (.tup (zA S.ns s.bs r))->mF CR CW CH i ii τ H' R (kW S k) cs ns (jh gs k)->St2 i ii τ H H'->Q (.ref t) H') /\
 (¬xH h cs.length->E (.ref CN) none H)/\(∀k:Nat,h=k->k<cs.length->gQ S cs gs k=true->E (.ref CO) none H)
theorem Cy (S:nP) (k:Nat):(kW S k).hs.length=S.hs.length:=by
 unfold kW;split
 ·rfl
 ·split
  ·rfl
  ·simp
theorem Uk (S:nP) (k:Nat):(kW S k).m=S.m:=by
 unfold kW;split
 ·rfl
 ·split<;>rfl
theorem QZ {aB aq ao:Addr} {f:Addr} {fd:FuncData} (F:kO K "turn" "Replay.turn" dj f fd) {aV bD aX:Addr} (dM:Xr K mg aV "NoHand") (fQ:Xr K mg bD "Over") (aL:eF K aB) (aU:ig K aq) (fJ:FnAt P w K mg base 2 "is_below" ["value","count"] (rA K)) (jO:MethAt P w K mg base 5 aB "is_over" ["self","hand"] (uF aB aq ao K)) (jP:MethAt P w K mg base 2 aB "holding" ["self","hand"] (Et aB aq ao K)) (GF:jq P w K mg base 7 aq "turn" ["self","hand"] (JF aq ao aV bD K)) (K6:DY P w K mg base 1 aX "Held" ["self","note"] (yg aX K)) (Bt:um mg):bZ P w K mg base (vI P w) 8 f fd ["self","hand"] (yd aB aq ao aV bD aX K):=by
 refine F.W2 lN (fun vs H Q E h=> ?_) (fun cdv A outer s H vs Q E hr h hR=> ?_)
 ·obtain ⟨i,ii,τ,R,S,cs,gs,ns,h,rfl,_⟩:=h
  rfl
 ·obtain ⟨i,ii,τ,R,S,cs,gs,ns,h,rfl,r,tl,k0,k1,k2,k3⟩:=h
  refine ⟨_,(aF (cU (gw (dI (cA fJ (hr.mono (by decide)) (by rfl) (aj (pv 1) (aj (aQ (bw (K:=K) rfl) (by rfl) Bt.gK dR (aj (bB (K:=K) rfl (pv 0) rfl) aC)) aC))))) (aK (lR PySem.F.excBase_ValueError dM.ex dM.bd (by rfl) rfl rfl hR (aj cV aC))) bQ)
   (aF (cU (dI (cZ jO aL.cls (hr.mono (by decide)) (pv 0) (aj (pv 1) aC))) (aK (lR PySem.F.excBase_ValueError fQ.ex fQ.bd (by rfl) rfl rfl hR (aj cV aC))) bQ)
   (aF (bU (i:=2) lN.nd rfl (Or.inl rfl) (cZ jP aL.cls (hr.mono (by decide)) (pv 0) (aj (pv 1) aC)))
   (aF (cU (CP (K:=K) rfl (pv 2)) (aK (Nm K6 rfl rfl hR (hr.mono (by decide)) (by rfl) (aj (aW (bh (K:=K) rfl) (pv 2) aG (fun _ _=>rfl)) aC))) bQ)
   (aF (bU (i:=3) lN.nd rfl (Or.inl rfl) (uU GF aU.cls rfl hR (hr.mono (by decide)) (bB (K:=K) rfl (pv 0) rfl) (aj (pv 1) aC)))
   (aF (Va (bB (K:=K) rfl (pv 0) rfl) (pv 1) (JX (K:=K) rfl) aG FJ set_list)
   (aK (bK (pv 3))))))))), ?_⟩
  have lg:=r.dn.1;refine ⟨_,rfl,_,rfl,R.o,aB,R.dx,_,_,rfl,r.o,aL.cls,aL.fH,rfl,R.pr,_,rfl,.inl (bN.of r.pr),h,_,rfl,_,rfl, ?_⟩;rw [List.length_map,lg]
  by_cases hh:xH h cs.length
  ·rw [decide_eq_true hh]
   refine dG ?_;obtain ⟨n,rfl⟩:=Int.eq_ofNat_of_zero_le hh.1;have nl:n<cs.length:=by have:=hh.2;lia
   refine ⟨_,rfl,R.o,R.dx,_,rfl,r.o,rfl,_,rfl,i,ii,τ,R,S,cs,gs,ns,n,rfl,r,nl,_,rfl, ?_⟩;cases eo:gQ S cs gs n with
   | true=>
     refine gJ ?_;exact ⟨(by show 1<=sizeLine;decide),k3 n rfl nl eo⟩
   | false=>
     refine dG ?_;refine ⟨_,rfl,R.o,R.dx,_,rfl,r.o,rfl,_,rfl,i,ii,τ,R,S,cs,gs,ns,n,rfl,r,nl,fun l H1 fl N1 s1=> ?_⟩;obtain ⟨ws,hl,dw⟩:=N1;have wl:ws.length=(jd ns gs n).length:=by rw [dw.length,List.length_map]
     refine ⟨_,rfl, !ws.isEmpty,.inl ⟨ws,bN.of hl,rfl⟩, ?_⟩;cases he:jd ns gs n with
     | cons x0 xr=>
       rw [he] at dw wl
       obtain ⟨v0,vr,rfl⟩:∃v0 vr,ws=v0::vr:=by
        cases ws with
        | nil=>simp at wl
        | cons a b=>exact ⟨a,b,rfl⟩
       refine gJ ?_
       obtain ⟨p0,rfl,hp0⟩:∃p,v0 = .ref p/\Dat H1 (.ref p) (nD x0):=by
        have d0:Dat H1 v0 (nD x0):=dw.1;obtain ⟨p,xs,e,q⟩:=id d0;subst e;exact ⟨p,rfl,d0⟩
       refine ⟨_,rfl,l,_,_,_,rfl,rfl,bN.of hl,gD (j:=0) rfl,(by show 1<=sizeLine;decide),fun e he1=>⟨e,.ref p0,rfl,ak,fun d hd=>⟨rfl,d,_,Dm ?_, ?_, ?_⟩⟩⟩
       ·intro z
        rw [z,ak] at hd;cases hd
       ·have nd:e≠d:=fun z=>by rw [←z,ak] at hd;cases hd
        rw [aD nd];exact he1
       ·have nd:d≠e:=fun z=>by rw [z,ak] at hd;cases hd
        rw [aD nd] at hd;have sd:=aH (o:=HO.xd [("note",V.ref p0)]) hd;exact k0 n x0 p0 d _ rfl nl eo (by rw [he];rfl) (s1.free hd) ak (hp0.same sd _) (s1.trans sd)
     | nil=>
     rw [he] at wl;have we:ws=[]:=List.eq_nil_of_length_eq_zero wl;rw [we];refine dG ?_;have r1:=r.same s1;have nS:n<S.hs.length:=by rw [←r.lc];exact nl
     have es:S.hs[n]? = some S.hs[n]:=by simp [nS]
     have wt:S.hs[n].st = "waits" :=by
      unfold gQ La at eo;rw [es,Bool.or_eq_false_iff] at eo;have:=eo.2;simpa using this
     have inn:xH (n:Int) S.hs.length:=⟨by lia,by lia⟩
     have one:∀(k':Nat) (t:bO),(n:Int)=k'->S.hs[k']? = some t->t=S.hs[n]/\k'=n:=fun k' t e1 e2=>by
      have:k'=n:=by lia
      subst this;rw [es] at e2;exact ⟨(Option.some.inj e2).symm,rfl⟩
     refine ⟨_,rfl,R.o,aB,R.dx,_,_,rfl,r1.o,aL.cls,aL.Ft,rfl,R.W.o,R.W.dx,_,rfl,r1.w.o,rfl,_,rfl,i,τ,R.W,S,_,rfl,r1.w,by lia,fun k' t' r' tt H2 e1 e2 wt' er' tr' tf tk w2 st2=> ?_,fun z=>absurd inn z,fun k' t' e1 e2 z=>absurd (by rw [(one k' t' e1 e2).1];exact wt) z⟩;obtain ⟨e3,e4⟩:=one k' t' e1 e2;subst e4;have gb:=r.dn.2 k' (by lia) (by lia);have e5:=r1.n0;have hpr:=st2.keep _ _ r1.pr (by rw [r1.tp];intro z;exact r1.ne (Option.some.inj z));have ho2:=st2.keep _ _ r1.o (by rw [r1.to];intro z;exact r1.ne (Option.some.inj z));refine ⟨_,rfl,R.o,aB,R.dx,_,_,rfl,ho2,aL.cls,aL.fH,rfl,_,rfl,R.pr,_,_,_,rfl,rfl,bN.of hpr,by lia,(by rw [Int.toNat_natCast,List.getElem?_map,List.getElem?_eq_getElem (by lia)];rfl),_,_,rfl,rfl,R.pr,_,_,_,rfl,rfl,hpr,Ml (by lia) (by rw [List.length_map];lia), ?_⟩;have gl:k'<gs.length:=by lia
     have gg:gI gs k'=gs[k']:=Kr (List.getElem?_eq_getElem gl)
     have em:(gs.map V.int).set ((k':Int)).toNat (.int (gs[k']+1))=(jh gs k').map V.int:=by
      unfold jh;rw [gg,List.map_set,Int.toNat_natCast]
     rw [em];have st3:p8 ii τ H2 (upd H2 R.pr (.lst ((jh gs k').map V.int))):=p8.set (by rw [r1.tp];rfl) hpr (by intro xs z;cases z);have st1:p8 i τ H H2:=(p8.of_same s1).trans st2
     have ne1:gI gs k'≠gI cs k':=by
      unfold gQ at eo;rw [Bool.or_eq_false_iff] at eo;exact of_decide_eq_false eo.1
     have ft:H tt=none:=s1.free tf
     have dn3:GP cs (jh gs k'):=by
      refine ⟨by unfold jh;rw [List.length_set];exact lg,fun x x0 x1=> ?_⟩;have:=r.dn.2 x x0 x1;have e:=RX (cs:=gs) (h:=(k':Int)) (k:=x) (v:=gI gs k'+1) (by lia) (by lia) x0;rw [Int.toNat_natCast] at e;unfold jh;rw [e];split
      ·rename_i z
       subst z;lia
      ·exact this
     refine ⟨_,rfl,k1 k' t' r' tt _ rfl nl eo he e2 wt' er' tr' ft ?_ ?_ ⟨H2,st1,st3⟩⟩
     ·exact st3.tup _ _ tk
     ·have ns':Same (pW τ H) (pW τ (upd H2 R.pr (.lst ((jh gs k').map V.int)))):=(jg st1 r.w.i0).trans (jg st3 r.n0)
      refine ⟨w2.mv (Mv.m_ st3 r.ne r.n0) (st3.un w2.un), ?_,r.to,ak,r.tp,r.ne,r.n0,r.Yy.same ns',r.ZQ.same ns',r.ok,by rw [Cy];exact r.lc,dn3,r.gd.turn k',by rw [Uk];exact r.ml⟩;rw [aD (dX ho2 hpr (by intro z;cases z))];exact ho2
  ·rw [decide_eq_false hh]
   refine gJ ?_;exact ⟨(by show 1<=sizeLine;decide),k2 hh⟩
def Em (CR CW CH CN:Addr) (K:PySem.W.Frag):Sp:=fun vs H Q E=>∃(i i' ii:Nat) (τ:Tg) (o dx t c a:Addr) (W:Pb) (S:nP) (cs:List Int) (ns:List Nt),vs=[.ref o,.ref W.o,.ref t]/\H o=some (.ins CR dx [])/\τ o=[]/\xX CW CH i τ H W S/\xP S/\S.m<=100/\RecAt H t c a cs ns/\Jm cs ns/\i'≠0/\ii≠0/\ii≠i'/\ii≠i /\
 (cs.length=S.hs.length -> ∀(τ':Tg) (R:Jv) (ns':List Nt) (H':Hp),R.o=o->ns'.Perm ns->GC ns'->mF CR CW CH i' ii τ' H' R S cs ns' (List.replicate cs.length 0)->(∀x u,H x=some u->x≠o->τ' x=τ x)->Kp o H H'->Q .non H') /\
 (cs.length≠S.hs.length -> ∀H',Same H H'->E (.ref CN) none H')
theorem Q0 {aB aq ao:Addr} {f:Addr} {fd:FuncData} (F:kO K "__init__" "Replay.__init__" dB f fd) {aV:Addr} (dM:Xr K mg aV "NoHand") (aL:eF K aB) (aU:ig K aq) (Cr:FnAt P w K mg base 4 "check_notes" ["record"] (zM K)) (Bx:MethAt P w K mg base 1 aq "counts" ["self"] (zL aq ao K)) (Jr:FnAt P w K mg base 1 "firsts_of" ["record"] (zK K)) (GD:MethAt P w K mg base 9 aq "twin" ["self"] (JD aq ao K)) (Bt:um mg):bZ P w K mg base (vI P w) 10 f fd ["self","works","record"] (Em aB aq ao aV K):=by
 refine F.W2 zQ (fun vs H Q E h=> ?_) (fun cdv A outer s H vs Q E hr h hR=> ?_)
 ·obtain ⟨i,i',ii,τ,o,dx,t,c,a,W,S,cs,ns,rfl,_⟩:=h
  rfl
 ·obtain ⟨i,i',ii,τ,o,dx,t,c,a,W,S,cs,ns,rfl,ho,to,w,gd,ml,R,ok,i0,O_,iin,iio,k1,k2⟩:=h
  refine ⟨_,(aF (fO (cA Cr (hr.mono (by decide)) (by rfl) (aj (pv 2) aC)))
   (aF (cU (bM rT (aQ (bw (K:=K) rfl) (by rfl) Bt.gK dR (aj (aW (aZ (K:=K) rfl) (pv 2) aG (fun _ _=>rfl)) aC)) (aQ (bw (K:=K) rfl) (by rfl) Bt.gK dR (aj (fP Bx aU.cls (hr.mono (by decide)) (pv 1)) aC)) (bJ _)) (aK (lR PySem.F.excBase_ValueError dM.ex dM.bd (by rfl) rfl rfl hR (aj cV aC))) bQ)
   (aF (cY (K:=K) rfl (pv 0) (jF (aj (eV (dH (K:=K) rfl) (by rfl) Bt.jL iB (aj (aW (aZ (K:=K) rfl) (pv 2) aG (fun _ _=>rfl)) aC)) (aj (aQ (xM (K:=K) rfl) (by rfl) Bt.Jg DP (aj (aW (aZ (K:=K) rfl) (pv 2) aG (fun _ _=>rfl)) aC)) aC))) rfl)
   (aF (cY (K:=K) rfl (pv 0) (cA Jr (hr.mono (by decide)) (by rfl) (aj (bB (K:=K) rfl (pv 0) rfl) aC)) rfl)
   (aF (cY (K:=K) rfl (pv 0) (fP GD aU.cls (hr.mono (by decide)) (pv 1)) rfl)
   (aK (cY (K:=K) rfl (pv 0) (gA rfl (N:=["count"]) (own:=["count"]) (caps:=[]) (bC.of (by kernel_rfl)) (dW (K:=K) rfl (aW (aZ (K:=K) rfl) (bB (K:=K) rfl (pv 0) rfl) aG (fun _ _=>rfl))) (fun _ _ _ _=>(bW (i:=0) (show List.Nodup (["count"]:List Str) by decide +kernel) rfl (Or.inl rfl))) (fun _ _ _ _=>fM) (fun _ _ _ _=>aG)) rfl))))))), ?_⟩
  refine ⟨_,rfl,t,c,a,cs,ns,rfl,R,ok,fun H1 s1=> ?_⟩;have R1:=R.same s1;have w1:=w.same s1;refine ⟨_,rfl,_,_,_,_,rfl,rfl,cN.of R1.1,rfl,c,_,rfl,.inl (bN.of R1.2.1),_,rfl,W.o,W.dx,_,rfl,w1.o,rfl,i,τ,W,S,rfl,w1,fun l H2 fl el s2=>⟨l,_,rfl,.inl (bN.of el),rfl,_,rfl, ?_⟩⟩;have s12:=s1.trans s2;have cl:(V_ S).length=S.hs.length:=by unfold V_;simp
  rw [List.length_map,List.length_map,cl]
  by_cases hl:cs.length=S.hs.length
  ·refine dO (fun q=>absurd q (by rw [hl,decide_eq_true rfl];decide)) (fun _=> ?_)
   have ho2:=s12 _ _ ho;have w2':=w.same s12;have R2:=R.same s12;have B2:Bs H τ o (aO τ o [ii,7]) H2:=⟨fun x e=>by rw [aP (au ho2 e).symm];exact w2'.un x e,Kp.of_same s12,fun x u e n=>aP n⟩
   have w2:xX aq ao i (aO τ o [ii,7]) H2 W S:=w2'.mv ⟨fun x u e t=>⟨e,aP (fun z=>by
    rw [z,to] at t;rcases t with t|t<;>cases t)⟩,fun x xs e=>e⟩ B2.un
   have to2:aO τ o [ii,7] o=[ii,7]:=bI;generalize aO τ o [ii,7]=τ2 at B2 w2 to2;clear w2' R1 w1;refine ⟨_,rfl,_,_,_,_,rfl,rfl,cN.of R2.1,rfl,c,_,rfl,.inl (bN.of R2.2.1),fun c3 hc3=> ?_⟩;have s3:=aH (o:=HO.lst (cs.map V.int)) hc3;have ec3:(upd H2 c3 (.lst (cs.map V.int))) c3=some (.lst (cs.map V.int)):=ak;have R3:=R2.same s3;have B3:=B2.claim (t:=[0]) s3 hc3 ⟨_,ec3⟩;have w3:=w2.mv (Mv.claim (p:=c3) (t:=[0]) s3 hc3) B3.un;have ZF:=s3 _ _ ho2;have to3:aO τ2 c3 [0] o=[ii,7]:=by rw [aP (au ho2 hc3)];exact to2
   have tc3:aO τ2 c3 [0] c3=[0]:=bI;generalize (upd H2 c3 (.lst (cs.map V.int)))=H3 at s3 ec3 R3 B3 w3 ZF ⊢;generalize aO τ2 c3 [0]=τ3 at B3 w3 to3 tc3;refine ⟨_,rfl,_,_,_,_,rfl,rfl,cN.of R3.1,rfl, ?_⟩;dsimp only [Qk];refine Hh (K:=K) R3.2.2 fun a4 ns' H4 fa4 N4 pm srt s4=> ?_
   have hp4:∃u,H4 a4=some u:=by
    obtain ⟨vs,e,_⟩:=N4;exact ⟨_,e⟩
   have B4:=B3.claim (t:=[0]) s4 fa4 hp4;have w4:=w3.mv (Mv.claim (p:=a4) (t:=[0]) s4 fa4) B4.un;have ho4:=s4 _ _ ZF;have ec4:=s4 _ _ ec3;have to4:aO τ3 a4 [0] o=[ii,7]:=by rw [aP (au ZF fa4)];exact to3
   have tc4:aO τ3 a4 [0] c3=[0]:=by rw [aP (au ec3 fa4)];exact tc3
   have ta4:aO τ3 a4 [0] a4=[0]:=bI;generalize aO τ3 a4 [0]=τ4 at B4 w4 to4 tc4 ta4;refine ⟨(by show 2<=sizeLine;decide),fun t5 ht5=> ?_⟩;have s5:=aH (o:=HO.tup [V.ref c3,V.ref a4]) ht5;have R5:RecAt (upd H4 t5 (.tup [V.ref c3,V.ref a4])) t5 c3 a4 cs ns':=⟨ak,s5 _ _ ec4,N4.same s5⟩;have B5:=B4.same s5;have w5:=w4.same s5;have Ua:=s5 _ _ ho4;generalize (upd H4 t5 (.tup [V.ref c3,V.ref a4]))=H5 at s5 R5 B5 w5 Ua ⊢;have ok':Jm cs ns':=⟨ok.1,by rw [pm.length_eq];exact ok.2.1,fun x hx=>ok.2.2 x (pm.mem_iff.mp hx)⟩;refine ⟨_,rfl,o,aB,dx,_,rfl,Ua,aL.cls,aL.nY,(by decide), ?_⟩
   have afg:∀(τ:Tg) (H:Hp) (v:HO),vH τ H->vH τ (upd H o v):=fun τ H v u=>u.dom fun y e=>by
    by_cases z:y=o
    ·rw [z,ak] at e;cases e
    ·rw [aD z] at e;exact e
   have ho6:(upd H5 o (.ins aB dx (cH "record" (.ref t5) []))) o=some (.ins aB dx [("record",.ref t5)]):=ak;have st6:p8 ii τ4 H5 (upd H5 o (.ins aB dx (cH "record" (.ref t5) []))):=p8.set (by rw [to4];rfl) Ua (by intro xs z;cases z);have B6:Bs H τ o τ4 (upd H5 o (.ins aB dx (cH "record" (.ref t5) []))):=B5.set (.inl rfl);have w6:=w5.mv (Mv.m_ st6 iio O_) B6.un
   have r5:RecAt (pW τ4 H5) t5 c3 a4 cs ns':=by
    obtain ⟨vs,e1,e2⟩:=R5.2.2;exact ⟨qm R5.1,uz tc4 R5.2.1,vs,uz ta4 e1,aR.keep (fun a xs e=>qm e) _ (cg _ jH _) e2⟩
   have r6:=r5.same (jg st6 O_);generalize (upd H5 o (.ins aB dx (cH "record" (.ref t5) [])))=H6 at ho6 st6 B6 w6 r6 ⊢;refine ⟨_,rfl,o,aB,dx,_,_,rfl,ho6,aL.cls,aL.nY,rfl,t5,c3,a4,cs,ns',rfl,r6.same (q_ _ _),ok',fun f H7 hf F7 s7=> ?_⟩;have un7:=X5 s7 B6.un;have tg7:∀x u,H6 x=some u->O9 τ4 H6 H7 x=τ4 x:=fun x u e=>Uo e;have B7:Bs H τ o (O9 τ4 H6 H7) H7:=⟨un7,B6.kp.trans (Kp.of_same s7),fun x u e n=>(tg7 x u (B6.kp _ _ e n)).trans (B6.tg x u e n)⟩;have w7:=w6.mv (Mv.tags s7 tg7) un7;have r7:=r6.same (pq (i:=0) (Mv.tags s7 tg7));have f7:mj (pW (O9 τ4 H6 H7) H7) f ns':=F7.same Zc;have ho7:=s7 _ _ ho6;have to7:O9 τ4 H6 H7 o=[ii,7]:=(tg7 _ _ ho6).trans to4;generalize O9 τ4 H6 H7=τ7 at un7 tg7 B7 w7 r7 f7 to7;refine ⟨_,rfl,o,aB,dx,_,rfl,ho7,aL.cls,aL.HD,(by show 1<1000;decide), ?_⟩;have VP:(upd H7 o (.ins aB dx (cH "firsts" (.ref f) [("record",.ref t5)]))) o=some (.ins aB dx [("record",.ref t5),("firsts",.ref f)]):=ak;have st8:p8 ii τ7 H7 (upd H7 o (.ins aB dx (cH "firsts" (.ref f) [("record",.ref t5)]))):=p8.set (by rw [to7];rfl) ho7 (by intro xs z;cases z);have B8:Bs H τ o τ7 (upd H7 o (.ins aB dx (cH "firsts" (.ref f) [("record",.ref t5)]))):=B7.set (.inl rfl);have w8:=w7.mv (Mv.m_ st8 iio O_) B8.un;have r8:=r7.same (jg st8 O_);have f8:=f7.same (jg st8 O_);generalize (upd H7 o (.ins aB dx (cH "firsts" (.ref f) [("record",.ref t5)])))=H8 at VP st8 B8 w8 r8 f8 ⊢;refine ⟨_,rfl,W.o,W.dx,_,rfl,w8.o,rfl,i,i',τ7,W,S,rfl,w8,gd,ml,i0,fun τ9 W' H9 w9 tg9 s9=> ?_⟩;have B9:Bs H τ o τ9 H9:=⟨w9.un,B8.kp.trans (Kp.of_same s9),fun x u e n=>(tg9 x u (B8.kp _ _ e n)).trans (B8.tg x u e n)⟩;have r9:=r8.same (pq (i:=0) (Mv.tags s9 tg9));have f9:=f8.same (pq (i:=0) (Mv.tags s9 tg9));have ho9:=s9 _ _ VP;have to9:τ9 o=[ii,7]:=(tg9 _ _ VP).trans to7;refine ⟨_,rfl,o,aB,dx,_,rfl,ho9,aL.cls,aL.Ft,(by show 2<1000;decide), ?_⟩;have hoa:(upd H9 o (.ins aB dx (cH "stage" (.ref W'.o) [("record",.ref t5),("firsts",.ref f)]))) o=some (.ins aB dx [("record",.ref t5),("firsts",.ref f),("stage",.ref W'.o)]):=ak;have Yl:p8 ii τ9 H9 (upd H9 o (.ins aB dx (cH "stage" (.ref W'.o) [("record",.ref t5),("firsts",.ref f)]))):=p8.set (by rw [to9];rfl) ho9 (by intro xs z;cases z);have Ba:Bs H τ o τ9 (upd H9 o (.ins aB dx (cH "stage" (.ref W'.o) [("record",.ref t5),("firsts",.ref f)]))):=B9.set (.inl rfl);have wa:=w9.mv (Mv.m_ Yl iin O_) Ba.un;have ra:=r9.same (jg Yl O_);have fa:=f9.same (jg Yl O_);generalize (upd H9 o (.ins aB dx (cH "stage" (.ref W'.o) [("record",.ref t5),("firsts",.ref f)])))=Ha at hoa Yl Ba wa ra fa ⊢;have raH:=ra.same (q_ _ _);refine ⟨_,rfl,o,aB,dx,_,_,rfl,hoa,aL.cls,aL.nY,rfl,_,_,_,_,rfl,rfl,cN.of raH.1,rfl,c3,rfl,⟨_,bN.of raH.2.1⟩,fun D hD=> ?_⟩;refine oA (K:=K) (fun _=>some (.int 0)) hD (bN.of raH.2.1) (by rw [List.length_map];have:=ok.1.1;lia) (fun j v H3 G F hi s3 kG kF=>kF _ H3 (Same.refl _) rfl) (fun Hb sb eb=> ?_);rw [FZ,List.length_map] at eb;have Bb:=Ba.claim (t:=[ii,8]) sb hD ⟨_,eb⟩;have qb:∀m,Mv m τ9 Ha (aO τ9 D [ii,8]) Hb:=fun m=>Mv.claim sb hD;have wb:=wa.mv (qb i') Bb.un;have rb:=ra.same (pq (qb 0));have fb:=fa.same (pq (qb 0));have hob:=sb _ _ hoa;have tob:aO τ9 D [ii,8] o=[ii,7]:=by rw [aP (au hoa hD)];exact to9
   have tDb:aO τ9 D [ii,8] D=[ii,8]:=bI;generalize aO τ9 D [ii,8]=τb at Bb qb wb rb fb tob tDb;refine ⟨_,rfl,o,aB,dx,_,rfl,hob,aL.cls,aL.fH,(by show 3<1000;decide), ?_⟩;have stc:p8 ii τb Hb (upd Hb o (.ins aB dx (cH "progress" (.ref D) [("record",.ref t5),("firsts",.ref f),("stage",.ref W'.o)]))):=p8.set (by rw [tob];rfl) hob (by intro xs z;cases z);have Bc:Bs H τ o τb (upd Hb o (.ins aB dx (cH "progress" (.ref D) [("record",.ref t5),("firsts",.ref f),("stage",.ref W'.o)]))):=Bb.set (.inl rfl);refine k1 hl τb ⟨o,dx,t5,c3,a4,f,D,W'⟩ ns' _ rfl pm srt ⟨wb.mv (Mv.m_ stc iin O_) Bc.un,ak,tob, ?_,tDb,iin,O_,rb.same (jg stc O_),fb.same (jg stc O_),ok',hl, ?_,gd,ml⟩ Bc.tg Bc.kp
   ·rw [aD (au hoa hD).symm]
    exact eb
   ·refine ⟨by simp,fun x x0 x1=> ?_⟩
    have e:gI (List.replicate cs.length 0) x=0:=by
     unfold gI;rw [List.getElem?_replicate];split<;>rfl
    rw [e];exact ⟨Int.le_refl _,(ok.1.gI x).1⟩
  ·refine dO (fun _=> ?_) (fun q=>absurd ?_ q)
   ·exact ⟨(by show 1<=sizeLine;decide),k2 hl H2 s12⟩
   ·have:¬V.int (cs.length:Int)=V.int (S.hs.length:Int):=fun z=>hl (by have:=V.int.inj z;lia)
    rw [decide_eq_false this];rfl
theorem RT.set {τ:Tg} {H:Hp} {r x:Addr} {o u:HO} (h:RT τ H r) (e:H x=some o) (t:τ x≠[]):RT τ (upd H x u) r:=by
 obtain ⟨n,f⟩:=h.off x o e t;refine ⟨h.R.set n f,fun y v ey ty=> ?_,fun y ey=> ?_⟩
 ·by_cases z:y=x
  ·subst z
   exact ⟨n,f.set n⟩
  ·rw [aD z] at ey
   obtain ⟨n',f'⟩:=h.off y v ey ty;exact ⟨n',f'.set n⟩
 ·by_cases z:y=x
  ·rw [z,ak] at ey;cases ey
  ·rw [aD z] at ey;exact h.un y ey
structure Dr (τ:Tg) (r:Addr) (H H':Hp):Prop where
 k:∀x o,H x=some o->τ x≠[]->H' x=some o
 t:∀x xs,H x=some (.tup xs)->H' x=some (.tup xs)
 p:Kp r H H'
theorem Dr.of_same {τ:Tg} {r:Addr} {H H':Hp} (s:Same H H'):Dr τ r H H':=⟨fun x o e _=>s _ _ e,s.tups,Kp.of_same s⟩
theorem Dr.trans {τ:Tg} {r:Addr} {H H1 H2:Hp} (a:Dr τ r H H1) (b:Dr τ r H1 H2):Dr τ r H H2:=⟨fun x o e n=>b.k _ _ (a.k _ _ e n) n,fun x xs e=>b.t _ _ (a.t _ _ e),a.p.trans b.p⟩
theorem Dr.draw {τ:Tg} {r:Addr} {H H':Hp} (T:RT τ H r) (k:KR r H H'):Dr τ r H H':=⟨fun x o e n=>T.keep k e n,fun x xs e=>k.tups T.R _ _ e,k.1⟩
theorem RT.Z6 {K:PySem.W.Frag} {τ:Tg} {H:Hp} {r D a:Addr} {xs:List V} {m:Int} {val:Int->V} {te:TE} {Q:VK} {rest:St} (T:RT τ H r) (hD:H D=none) (ha:H a=some (.lst xs)) (ta:τ a≠[]) (hn:xs.length<=10000)
 (hte:∀(v:Option V) (Hd:Hp) (τd:Tg) (F:VK),RT τd Hd r->(∀(y:Int) (H':Hp),0<=y->y<m->RT τd H' r->Dr τd r Hd H'->F (val y) H')->te (v::rest) Hd F)
 (k:∀(ys:List Int) (H':Hp),ys.length=xs.length->(∀y∈ys,0<=y/\y<m)->H' D=some (.lst (ys.map val))->RT (aO τ D [0]) H' r->Dr τ r H H'->Q (.ref D) H'):mz (Wj K a) (gR 0) BP te Q D (none::rest) H:=by
 have sD:=aH (o:=HO.lst []) hD;have TD:=T.claim (t:=[0]) sD hD ⟨_,ak⟩;have tD:aO τ D [0] D=[0]:=bI;have tg:∀x u,H x=some u->aO τ D [0] x=τ x:=fun x u e=>aP (au e hD);generalize aO τ D [0]=τd at TD tD tg k;refine jJ (K:=K) (xs:=xs) (fun i σ Hd=>∃(v:Option V) (ys:List Int),σ=v::rest/\RT τd Hd r/\Hd D=some (.lst (ys.map val))/\ys.length=i/\(∀y∈ys,0<=y/\y<m)/\Dr τ r H Hd) ?_ ?_ ?_ ?_
 ·exact ⟨none,[],rfl,TD,ak,rfl,by simp,.of_same sD⟩
 ·rintro i σ Hd _ ⟨v,ys,rfl,Td,RM,ld,od,dr⟩
  exact bN.of (dr.k _ _ ha ta)
 ·rintro i x σ Hd hi ⟨v,ys,rfl,Td,RM,ld,od,dr⟩
  have il:=(List.getElem?_eq_some_iff.mp hi).1;dsimp only [gR,BP];rw [if_pos rfl];refine hte _ Hd τd _ Td (fun y H3 y0 y1 T3 d3=> ?_);have hD3:=d3.k _ _ RM (by rw [tD];simp);refine ⟨_,hD3,(by rw [List.length_map,sizeLine_eq];lia),_,ys++[y],rfl,T3.set hD3 (by rw [tD];simp),by rw [ak,List.map_append];rfl,by simp [ld], ?_,⟨fun x o e t=> ?_,fun x zs e=> ?_,fun x o e n'=> ?_⟩⟩
  ·intro c hc
   rcases List.mem_append.mp hc with hc|hc
   ·exact od c hc
   ·rw [List.mem_singleton.mp hc];exact ⟨y0,y1⟩
  ·rw [aD (au e hD)]
   exact d3.k _ _ (dr.k x o e t) (by rw [tg x o e];exact t)
  ·rw [aD (au e hD)]
   exact d3.t _ _ (dr.t x zs e)
  ·rw [aD (au e hD)]
   exact d3.p _ _ (dr.p x o e n') n'
 ·rintro σ Hd ⟨v,ys,rfl,Td,RM,ld,od,dr⟩
  exact k ys Hd ld od RM Td dr
section
variable {H:Hp} {p:Addr} {x y:V} {b c n:Nat} {e f:K8}
theorem Sx (h:H p=some (.tup [.str "load",.str (O1 b),.int c])):Dat H (.ref p) (CJ (.load b c)):=by
 simp only [CJ,Dat];exact ⟨p,_,rfl,h,by simp only [aR,Dat,and_true]⟩
theorem Z7 (h:H p=some (.tup [.str "go",.int n])):Dat H (.ref p) (CJ (.go n)):=by
 simp only [CJ,Dat];exact ⟨p,_,rfl,h,by simp only [aR,Dat,and_true]⟩
end
theorem Du {α β:Type} (f:α->β):∀(l:List α) (z:Nat),(l.map f).eraseIdx z=(l.eraseIdx z).map f
 | [],_=>rfl
 | _::_,0=>rfl
 | a::l,z+1=>by
   show f a::(l.map f).eraseIdx z=f a::(l.eraseIdx z).map f;rw [Du f l z]
theorem Zg {l:List Nat} {z y f g:Nat} (h:l.Nodup) (e1:l[z]? = some f) (e2:(l.eraseIdx z)[y]? = some g):f≠g:=by
 intro e;subst e;have zl:=(List.getElem?_eq_some_iff.mp e1).1;rw [List.getElem?_eraseIdx] at e2;split at e2
 ·have:=(List.getElem?_inj zl h).mp (e1.trans e2.symm)
  lia
 ·have:=(List.getElem?_inj zl h).mp (e1.trans e2.symm)
  lia
theorem RT.drop {τ:Tg} {H:Hp} {r D:Addr} {t:List Nat} (h:RT (aO τ D t) H r) (e:τ D=[]):RT τ H r:=by
 refine ⟨h.R,fun x o ex tx=> ?_,fun x ex=> ?_⟩
 ·have n:x≠D:=fun z=>tx (by rw [z];exact e)
  exact h.off x o ex (by rw [aP n];exact tx)
 ·by_cases n:x=D
  ·rw [n];exact e
  ·have:=h.un x ex
   rw [aP n] at this;exact this
def zG (K:PySem.W.Frag):Sp:=fun vs H Q _=>∃(r c:Addr) (τ:Tg) (cs:List Int),vs=[.ref r,.ref c]/\RT τ H r/\H c=some (.lst (cs.map V.int))/\τ c=[0]/\Js cs /\
 (∀H',RT τ H' r->Dr τ r H H'->Q .non H') /\
 (∀(x:Nt) (p:Addr) (H':Hp),Gz cs x->H' p=some (.tup (nV x))->RT τ H' r->Dr τ r H H'->Q (.ref p) H')
theorem Ny {f:Addr} {fd:FuncData} (F:kO K "_law_note" "_law_note" lC f fd) (gG:FnAt P w K mg base 1 "_law_draw" ["reel","many"] (uI K)) (Bt:um mg):bZ P w K mg base kY 2 f fd ["reel","counts"] (zG K):=by
 refine F.ok uO (fun vs H Q E h=> ?_) (fun cdv A outer s H vs Q E hr h=> ?_)
 ·obtain ⟨r,c,τ,cs,rfl,_⟩:=h
  rfl
 ·obtain ⟨r,c,τ,cs,rfl,T,hc,tc,ok,k1,k2⟩:=h
  refine ⟨_,(aF (pC (i:=2) rfl uO.nd rfl (Or.inl rfl) (N:=["k","counts"]) (own:=["k"]) (caps:=[1]) (bC.of (by kernel_rfl)) (jc (by rfl) Bt.lF (aj (aQ (bw (K:=K) rfl) (by rfl) Bt.gK dR (aj (pv 1) aC)) aC)) (fun _ _ _ _=>(bW (i:=0) (show List.Nodup (["k","counts"]:List Str) by decide +kernel) rfl (Or.inl rfl))) (fun _ _ _ _=>(rC (bM abD (aW (bh (K:=K) rfl) (pv 1) (pv 0) (fun _ _=>rfl)) aG (bJ _)))) (fun _ _ _ _=>(pv 0)))
   (aF (cU (bM Ac (aQ (bw (K:=K) rfl) (by rfl) Bt.gK dR (aj (pv 2) aC)) aG (bJ _)) (aK (bK iZ)) bQ)
   (aF (bU (i:=3) uO.nd rfl (Or.inl rfl) (Aa (K:=K) rfl PySem.F.plainAttrs_list PySem.F.slot_list_pop PySem.F.type_list_pop Rj (pv 2) (aj (cA gG (hr.mono (by decide)) (by rfl) (aj (pv 0) (aj (aQ (bw (K:=K) rfl) (by rfl) Bt.gK dR (aj (pv 2) aC)) aC))) aC)))
   (aF (bU (i:=4) uO.nd rfl (Or.inl rfl) (aW (bh (K:=K) rfl) (pv 2) (cA gG (hr.mono (by decide)) (by rfl) (aj (pv 0) (aj (aQ (bw (K:=K) rfl) (by rfl) Bt.gK dR (aj (pv 2) aC)) aC))) (fun _ _=>rfl)))
   (aK (bK (jF (aj (pv 3) (aj (cA gG (hr.mono (by decide)) (by rfl) (aj (pv 0) (aj (aW (bh (K:=K) rfl) (pv 1) (pv 3) (fun _ _=>rfl)) aC))) (aj (pv 4) (aj (cA gG (hr.mono (by decide)) (by rfl) (aj (pv 0) (aj (aW (bh (K:=K) rfl) (pv 1) (pv 4) (fun _ _=>rfl)) aC))) aC))))))))))), ?_⟩
  have c8:=ok.1;refine ⟨_,rfl,c,_,rfl,.inl (bN.of hc),_,rfl,by rw [List.length_map];lia,by rw [List.length_map];lia,fun D hD=> ?_⟩;rw [List.length_map,Int.toNat_natCast];refine ou (fun j:Nat=>if decide (gI cs j>0) then some (.int (j:Nat)) else none) hD (by lia) (fun j H1 G F hj s1 kG kF=> ?_) (fun H1 s1 e1=> ?_)
  ·refine ⟨_,rfl,_,rfl,_,_,_,_,rfl,rfl,bN.of (s1 _ _ hc),by rw [Int.zero_add];exact gF (by lia) (by lia),_,_,rfl,rfl,_,rfl, ?_⟩
   refine dO (fun q1=> ?_) (fun q1=> ?_)
   ·exact ⟨_,rfl,kF _ H1 (Same.refl _) (by rw [Int.zero_add];exact if_pos q1)⟩
   ·exact kG H1 (Same.refl _) (if_neg q1)
  rw [Ks (fun j:Nat=>decide (gI cs j>0)) (fun j:Nat=>V.int j)] at e1;have ndA:((List.range cs.length).filter fun j:Nat=>decide (gI cs j>0)).Nodup:=List.Pairwise.filter _ List.nodup_range
  have mA:∀x∈(List.range cs.length).filter fun j:Nat=>decide (gI cs j>0),x<cs.length/\0<gI cs x:=fun x hx=>by
   obtain ⟨h1,h2⟩:=List.mem_filter.mp hx;exact ⟨List.mem_range.mp h1,of_decide_eq_true h2⟩
  have lA:((List.range cs.length).filter fun j:Nat=>decide (gI cs j>0)).length<=cs.length:=by
   have:=List.length_filter_le (fun j:Nat=>decide (gI cs j>0)) (List.range cs.length);rw [List.length_range] at this;exact this
  generalize ((List.range cs.length).filter fun j:Nat=>decide (gI cs j>0))=A at e1 ndA mA lA;have tD0:τ D=[]:=T.un D hD;have T1:=T.claim (t:=[0]) s1 hD ⟨_,e1⟩;have tD:aO τ D [0] D=[0]:=bI;refine ⟨_,rfl,D,_,rfl,.inl (bN.of e1),_,_,rfl,rfl,_,rfl, ?_⟩;rw [List.length_map];refine dO (fun q=> ?_) (fun q=> ?_)
  ·exact k1 H1 (T1.drop tD0) (Dr.of_same s1)
  have q:¬((A.length:Nat):Int)<2:=fun z=>q (decide_eq_true z);dsimp only;refine ⟨_,rfl,.inl ⟨rfl,_,bN.of e1⟩,_,rfl,_,rfl,D,_,rfl,.inl (bN.of e1), ?_⟩;rw [List.length_map];refine ⟨r,_,rfl,T1.R,by lia,by lia,fun z H2 z0 z1 R2 k2'=> ?_⟩;obtain ⟨z,rfl⟩:=Int.eq_ofNat_of_zero_le z0;have T2:=T1.draw k2' R2;have e2:=T1.keep k2' e1 (by rw [tD];simp);have d2:Dr (aO τ D [0]) r H1 H2:= .draw T1 k2';have zl:z<A.length:=by lia
  obtain ⟨f,ef⟩:∃f,A[z]? = some f:=⟨_,List.getElem?_eq_getElem zl⟩;refine ⟨D,_,z,z,.int f,rfl,rfl,e2,by lia,by lia,by rw [List.length_map,PySem.StrLaws.seqIndex_nonneg (by lia) (by lia),Int.toNat_natCast],by rw [List.getElem?_map,ef];rfl, ?_⟩;have T3:RT (aO τ D [0]) (upd H2 D (.lst ((A.map fun k:Nat=>V.int k).eraseIdx z))) r:=T2.set e2 (by rw [tD];simp);have e3:(upd H2 D (.lst ((A.map fun k:Nat=>V.int k).eraseIdx z))) D=some (.lst ((A.eraseIdx z).map fun k:Nat=>V.int k)):=by rw [ak,Du]
  have d3:Dr τ r H (upd H2 D (.lst ((A.map fun k:Nat=>V.int k).eraseIdx z))):=by
   refine ⟨fun x o e t=> ?_,fun x xs e=> ?_,fun x o e n=> ?_⟩
   ·rw [aD (au e hD)];exact d2.p _ _ (s1 _ _ e) (T.off x o e t).1
   ·rw [aD (au e hD)];exact d2.t _ _ (s1 _ _ e)
   ·rw [aD (au e hD)];exact d2.p _ _ (s1 _ _ e) n
  generalize (upd H2 D (.lst ((A.map fun k:Nat=>V.int k).eraseIdx z)))=H3 at T3 e3 d3 ⊢;have el:(A.eraseIdx z).length=A.length - 1:=List.length_eraseIdx_of_lt zl;refine ⟨_,rfl,_,rfl,_,rfl,D,_,rfl,.inl (bN.of e3), ?_⟩;rw [List.length_map];refine ⟨r,_,rfl,T3.R,by lia,by lia,fun y H4 y0 y1 R4 k4=> ?_⟩;obtain ⟨y,rfl⟩:=Int.eq_ofNat_of_zero_le y0;have T4:=T3.draw k4 R4;have e4:=T3.keep k4 e3 (by rw [tD];simp);have d4:Dr τ r H3 H4:= .draw (T3.drop tD0) k4;have yl:y<(A.eraseIdx z).length:=by lia
  obtain ⟨g,eg⟩:∃g,(A.eraseIdx z)[y]? = some g:=⟨_,List.getElem?_eq_getElem yl⟩;have nfg:=Zg ndA ef eg;have mf:=mA f (List.mem_of_getElem? ef);have mg':=mA g (List.mem_of_mem_eraseIdx (List.mem_of_getElem? eg));have bf:=ok.gI f;have bg:=ok.gI g;refine ⟨_,_,_,_,rfl,rfl,bN.of e4,gD (by rw [List.getElem?_map,eg];rfl), ?_⟩;have T4':=T4.drop tD0;have hc4:=(d3.trans d4).k _ _ hc (by rw [tc];simp);refine ⟨_,rfl,_,rfl,_,rfl,_,rfl,_,_,_,_,rfl,rfl,bN.of hc4,gF (by lia) (by lia),r,_,rfl,T4'.R,by lia,by lia,fun u H5 u0 u1 R5 k5=> ?_⟩;have T5:=T4'.draw k5 R5;have d5:Dr τ r H4 H5:= .draw T4' k5;have hc5:=d5.k _ _ hc4 (by rw [tc];simp);refine ⟨_,rfl,_,rfl,_,rfl,_,rfl,_,_,_,_,rfl,rfl,bN.of hc5,gF (by lia) (by lia),r,_,rfl,T5.R,by lia,by lia,fun v H6 v0 v1 R6 k6=> ?_⟩;have T6:=T5.draw k6 R6;have d6:Dr τ r H5 H6:= .draw T5 k6;refine ⟨(by show 4<=sizeLine;decide),fun p hp=> ?_⟩;have sp:=aH (o:=HO.tup [V.int f,V.int u,V.int g,V.int v]) hp;exact k2 (f,u,g,v) p _ ⟨⟨Int.natCast_nonneg f,Int.ofNat_lt.mpr mf.1⟩,⟨u0,u1⟩,⟨Int.natCast_nonneg g,Int.ofNat_lt.mpr mg'.1⟩,⟨v0,v1⟩,by show (f:Int)≠g;lia⟩ ak (T6.same sp) ((((d3.trans d4).trans d5).trans d6).trans (Dr.of_same sp))
def vW (K:PySem.W.Frag):Sp:=fun vs H Q _=>∃(r c:Addr) (τ:Tg) (cs:List Int),vs=[.ref r,.ref c]/\RT τ H r/\H c=some (.lst (cs.map V.int))/\τ c=[0]/\Js cs /\
 ∀(a:Addr) (ns:List Nt) (H':Hp),H a=none->lY H' a ns->ns.length<=80->(∀x∈ns,Gz cs x)->RT (aO τ a [0]) H' r->Dr τ r H H'->Q (.ref a) H'
theorem J8 {f:Addr} {fd:FuncData} (F:kO K "_law_notes" "_law_notes" jj f fd) (gG:FnAt P w K mg base 1 "_law_draw" ["reel","many"] (uI K)) (Wo:FnAt P w K mg base 2 "_law_note" ["reel","counts"] (zG K)) (Bt:um mg):bZ P w K mg base kY 3 f fd ["reel","counts"] (vW K):=by
 refine F.ok rB (fun vs H Q E h=> ?_) (fun cdv A outer s H vs Q E hr h=> ?_)
 ·obtain ⟨r,c,τ,cs,rfl,_⟩:=h
  rfl
 ·obtain ⟨r,c,τ,cs,rfl,T,hc,tc,ok,k⟩:=h
  refine ⟨_,(aF (bU (i:=2) rB.nd rfl (Or.inl rfl) (eO aC))
   (aF (tU PassesOwn.never rfl (jc (by rfl) Bt.lF (aj (cA gG (hr.mono (by decide)) (by rfl) (aj (pv 0) (aj (aW (bh (K:=K) rfl) (eO (aj aG (aj aG (aj aG aC)))) (cA gG (hr.mono (by decide)) (by rfl) (aj (pv 0) (aj aG aC))) (fun _ _=>rfl)) aC))) aC)) (bW (i:=3) rB.nd rfl (Or.inl rfl))
   (aF (bU (i:=4) rB.nd rfl (Or.inl rfl) (cA Wo (hr.mono (by decide)) (by rfl) (aj (pv 0) (aj (pv 1) aC))))
   (aK (cU (bM Fe (pv 4) iZ (bJ _)) (aF (fO (jG (K:=K) rfl (pv 2) (aj (pv 4) aC)))
   (aK (cU (bM h_ (cA gG (hr.mono (by decide)) (by rfl) (aj (pv 0) (aj aG aC))) aG (bJ _)) (aK (fO (jG (K:=K) rfl (pv 2) (aj (pv 4) aC)))) bQ))) bQ))))
   (aK (bK (pv 2))))), ?_⟩
  refine ⟨(by show 0<=sizeLine;decide),fun a ha=> ?_⟩;have sa:=aH (o:=HO.lst []) ha;have T1:=T.claim (t:=[0]) sa ha ⟨_,ak⟩;have ea:(upd H a (.lst [])) a=some (.lst []):=ak;have ta:aO τ a [0] a=[0]:=bI;have TY:∀x u,H x=some u->aO τ a [0] x=τ x:=fun x u e=>aP (au e ha);have d1:Dr τ r H (upd H a (.lst [])):=Dr.of_same sa;generalize (upd H a (.lst []))=H1 at sa T1 ea d1 ⊢;generalize eτ:aO τ a [0]=τ1 at T1 ta TY;have tc1:τ1 c=[0]:=(TY _ _ hc).trans tc;refine ⟨_,rfl,(by show 3<=sizeLine;decide),fun q hq=> ?_⟩;have sq:=aH (o:=HO.lst [V.int 4,V.int 12,V.int 41]) hq;have T1':=T1.same sq;refine ⟨_,rfl,r,3,rfl,T1'.R,by decide,by decide,fun z H2 z0 z1 R2 k2=> ?_⟩;have T2:=T1'.draw k2 R2;have nqr:q≠r:=T1.R.ne hq;have eq2:=k2.1 _ _ (ak (H:=H1) (a:=q) (o:=HO.lst [V.int 4,V.int 12,V.int 41])) nqr
  obtain ⟨m,em,m0,m41⟩:∃m:Int,KZ [V.int 4,V.int 12,V.int 41] z=some (.int m)/\0<m/\m<=41:=by
   rcases (show z=0\/z=1\/z=2 by lia) with rfl|rfl|rfl
   ·exact ⟨4,rfl,by decide,by decide⟩
   ·exact ⟨12,rfl,by decide,by decide⟩
   ·exact ⟨41,rfl,by decide,by decide⟩
  refine ⟨_,_,_,_,rfl,rfl,bN.of eq2,em,r,m,rfl,T2.R,m0,by lia,fun n H3 n0 n1 R3 k3=>⟨_,rfl,by lia,by lia, ?_⟩⟩;have T3:=T2.draw k3 R3;have Sy:Dr τ1 r H1 H3:=((Dr.of_same sq).trans (.draw T1' k2)).trans (.draw T2 k3);have d3:Dr τ r H H3:=⟨fun x o e t=>Sy.k _ _ (sa _ _ e) (by rw [TY x o e];exact t),fun x xs e=>Sy.t _ _ (sa _ _ e),d1.p.trans Sy.p⟩;have ea3:=Sy.k _ _ ea (by rw [ta];simp)
  refine Dq (lo:=0) (n:=n.toNat) (fun j σ Hc=>∃(v w':Option V) (ns:List Nt),σ=[some (.ref r),some (.ref c),some (.ref a),v,w']/\lY Hc a ns/\ns.length<=2*j/\(∀x∈ns,Gz cs x)/\RT τ1 Hc r/\Dr τ r H Hc)
   ⟨none,none,[],rfl,⟨[],ea3,by simp [aR]⟩,Nat.le_refl _,by simp,T3,d3⟩ ?_ ?_
  ·rintro j σ Hc hj ⟨v,w',ns,rfl,⟨vs,eA,dv⟩,nl,HB,Tc,dc⟩
   have hcc:=dc.k _ _ hc (by rw [tc];simp);have vl:vs.length=ns.length:=by rw [dv.length,List.length_map]
   have add:∀(Hx:Hp) (vs:List V) (ns:List Nt) (p:Addr) (x:Nt),Hx a=some (.lst vs)->aR Hx vs (ns.map nD)->Hx p=some (.tup (nV x))->RT τ1 Hx r->Dr τ r H Hx ->
    lY (upd Hx a (.lst (vs++[.ref p]))) a (ns++[x])/\RT τ1 (upd Hx a (.lst (vs++[.ref p]))) r/\Dr τ r H (upd Hx a (.lst (vs++[.ref p])))/\(upd Hx a (.lst (vs++[.ref p]))) p=some (.tup (nV x)):=fun Hx vs ns p x e1 e2 e3 T' d'=>by
    have tup:∀y ys,Hx y=some (.tup ys)->(upd Hx a (.lst (vs++[V.ref p]))) y=some (.tup ys):=fun y ys e=>by rw [aD (dX e e1 (by intro z;cases z))];exact e
    refine ⟨⟨_,ak, ?_⟩,T'.set e1 (by rw [ta];simp),⟨fun x o e t=> ?_,fun x xs e=> ?_,fun x o e n=> ?_⟩,tup _ _ e3⟩
    ·rw [List.map_append]
     exact aR.append (aR.keep tup _ (cg _ jH _) e2) (Mw (ud (tup _ _ e3)))
    ·rw [aD (au e ha)];exact d'.k x o e t
    ·rw [aD (au e ha)];exact d'.t x xs e
    ·rw [aD (au e ha)];exact d'.p x o e n
   refine ⟨_,rfl,_,rfl,r,c,τ1,cs,rfl,Tc,hcc,tc1,ok,fun H4 T4 d4=> ?_,fun x p H4 xok ep T4 d4=> ?_⟩
   ·refine ⟨_,rfl,rfl,_,rfl,dG ?_⟩
    have eA4:=d4.k _ _ eA (by rw [ta];simp);exact ⟨_,_,ns,rfl,⟨vs,eA4,aR.keep d4.t _ (cg _ jH _) dv⟩,by lia,HB,T4,⟨fun x o e t=>d4.k _ _ (dc.k x o e t) (by rw [TY x o e];exact t),fun x xs e=>d4.t _ _ (dc.t x xs e),dc.p.trans d4.p⟩⟩
   ·refine ⟨_,rfl,rfl,_,rfl,gJ ?_⟩
    have eA4:=d4.k _ _ eA (by rw [ta];simp);have dv4:aR H4 vs (ns.map nD):=aR.keep d4.t _ (cg _ jH _) dv;have dc4:Dr τ r H H4:=⟨fun x o e t=>d4.k _ _ (dc.k x o e t) (by rw [TY x o e];exact t),fun x xs e=>d4.t _ _ (dc.t x xs e),dc.p.trans d4.p⟩;obtain ⟨⟨vs5,eA5,dv5⟩,T5,dc5,ep5⟩:=add H4 vs ns p x eA4 dv4 ep T4 dc4
    have abM:∀y∈ns++[x],Gz cs y:=fun y hy=>by
     rcases List.mem_append.mp hy with hy|hy
     ·exact HB y hy
     ·rw [List.mem_singleton.mp hy];exact xok
    refine ⟨_,rfl,.inl ⟨rfl,_,bN.of eA4⟩,_,rfl,a,vs,_,rfl,rfl,eA4,(by rw [sizeLine_eq];lia), ?_⟩;generalize (upd H4 a (.lst (vs++[V.ref p])))=H5 at eA5 dv5 T5 dc5 ep5 ⊢;refine ⟨_,rfl,r,8,rfl,T5.R,by decide,by decide,fun u H6 u0 u1 R6 k6=>⟨rfl,_,rfl, ?_⟩⟩;have T6:=T5.draw k6 R6;have d6:Dr τ1 r H5 H6:= .draw T5 k6;have eA6:=d6.k _ _ eA5 (by rw [ta];simp);have dv6:aR H6 vs5 ((ns++[x]).map nD):=aR.keep d6.t _ (cg _ jH _) dv5;have dc6:Dr τ r H H6:=⟨fun x o e t=>d6.k _ _ (dc5.k x o e t) (by rw [TY x o e];exact t),fun x xs e=>d6.t _ _ (dc5.t x xs e),dc5.p.trans d6.p⟩;have vl5:vs5.length=ns.length+1:=by rw [dv5.length,List.length_map,List.length_append];rfl
    refine dO (fun _=> ?_) (fun _=> ?_)
    ·obtain ⟨N7,T7,dc7,_⟩:=add H6 vs5 (ns++[x]) p x eA6 dv6 (d6.t _ _ ep5) T6 dc6
     refine ⟨_,rfl,.inl ⟨rfl,_,bN.of eA6⟩,_,rfl,a,vs5,_,rfl,rfl,eA6,(by rw [sizeLine_eq];lia), ?_⟩
     exact ⟨_,_,ns++[x]++[x],rfl,N7,by simp;lia,fun y hy=>by
      rcases List.mem_append.mp hy with hy|hy
      ·exact abM y hy
      ·rw [List.mem_singleton.mp hy];exact xok,T7,dc7⟩
    ·exact ⟨_,_,ns++[x],rfl,⟨vs5,eA6,dv6⟩,by simp;lia,abM,T6,dc6⟩
  ·rintro σ Hc ⟨v,w',ns,rfl,N,nl,HB,Tc,dc⟩
   exact ⟨_,rfl,k a ns Hc ha N (by lia) HB (by rw [eτ];exact Tc) dc⟩
def fK (row:List Nat) (lost:Bool):List Rw:=row.map (fun c=>Rw.load 0 c)++(if lost then [Rw.go row.length] else [])
structure LdS (ns:List Int) (row:List Nat) (lost:Bool) (g:Nat) (s:bO):Prop where
 rws:s.rws=fK row lost
 pos:s.pos=g
 bs:s.bs=(if g=0 then 0 else (((row[g - 1]?).bind fun c=>ns[c]?).getD 0))::List.replicate 7 0
 sy:s.sy=[]
 le:g<=row.length
 st:s.st = "waits" ↔ g<row.length
theorem Ru {row:List Nat} {lost:Bool} {g c:Nat} (h:row[g]? = some c):(fK row lost)[g]? = some (.load 0 c):=by
 have l:=(List.getElem?_eq_some_iff.mp h).1;unfold fK;rw [List.getElem?_append_left (by rw [List.length_map];exact l),List.getElem?_map,h];rfl
theorem Zn (row:List Nat):(fK row false)[row.length]? = none:=by
 unfold fK;simp
theorem W7 (row:List Nat):(fK row true)[row.length]? = some (.go row.length):=by
 unfold fK;rw [List.getElem?_append_right (by rw [List.length_map];exact Nat.le_refl _)];simp
theorem Rr {row:List Nat}:∀(n:Nat) (s:bO),s.rws=fK row true->s.pos=row.length->led n s={s with st:= "lost" }
 | 0,s,h1,h2=>by
   unfold led;rw [h1,h2,W7];rfl
 | n+1,s,h1,h2=>by
   unfold led;rw [h1,h2,W7];show led n (rY s (.go row.length))=_;rw [Rr n (rY s (.go row.length)) h1 rfl];show ({s with pos:=row.length,st:=_}:bO)=_;rw [←h2,h1]
theorem Mi {ns:List Int} {row:List Nat} {lost:Bool} {g:Nat} {s:bO} (h1:s.rws=fK row lost) (h2:s.pos=g) (h3:s.bs=(if g=0 then 0 else (((row[g - 1]?).bind fun c=>ns[c]?).getD 0))::List.replicate 7 0) (h4:s.sy=[]) (le:g<=row.length):LdS ns row lost g (lead s):=by
 unfold lead
 by_cases lt:g<row.length
 ·obtain ⟨c,hc⟩:∃c,row[g]? = some c:=⟨_,List.getElem?_eq_getElem lt⟩
  have e:led 60 s={s with st:= "waits" }:=by
   unfold led;rw [h1,h2,Ru hc];rfl
  rw [e];exact ⟨h1,h2,h3,h4,le,⟨fun _=>lt,fun _=>rfl⟩⟩
 ·have ge:g=row.length:=by lia
  subst ge;cases lost with
  | false=>
    have e:led 60 s={s with st:= "ends" }:=by
     unfold led;rw [h1,h2,Zn]
    rw [e];exact ⟨h1,h2,h3,h4,le,⟨fun z=>absurd z Gd,fun z=>absurd z lt⟩⟩
  | true=>
    rw [Rr 60 s h1 h2];exact ⟨h1,h2,h3,h4,le,⟨fun z=>absurd z Ma,fun z=>absurd z lt⟩⟩
theorem Zm (ns:List Int) (row:List Nat) (lost:Bool):LdS ns row lost 0 (lead (new (fK row lost))):=Mi rfl rfl rfl rfl (Nat.zero_le _)
theorem Vv {ns:List Int} {row:List Nat} {lost:Bool} {g c:Nat} {s:bO} (h:LdS ns row lost g s) (hc:row[g]? = some c):LdS ns row lost (g+1) (nZ ns s (.load 0 c)):=by
 have lt:=(List.getElem?_eq_some_iff.mp hc).1;unfold nZ;refine Mi h.rws (by show s.pos+1=g+1;rw [h.pos]) ?_ h.sy lt;show s.bs.set 0 ((ns[c]?).getD 0)=_;rw [h.bs,if_neg (show ¬g+1=0 by lia),Nat.add_sub_cancel,hc];rfl
structure K7 (S:nP) (ns:List Int) (loads:List (List Nat)) (lost:List Bool) (gs:List Int):Prop where
 len:S.hs.length=loads.length
 ll:lost.length=loads.length
 nums:S.ns=ns
 gl:gs.length=loads.length
 hd:∀(k:Nat) (s:bO) (row:List Nat) (b:Bool),S.hs[k]? = some s->loads[k]? = some row->lost[k]? = some b -> ∃g:Nat,gI gs k=g/\LdS ns row b g s
 ct:∀k:Nat,k<loads.length->(S.ts.count (k:Int):Int)=gI gs k
 mem:∀row∈loads,∀c∈row,c<ns.length
theorem K7.over {S:nP} {ns:List Int} {loads:List (List Nat)} {lost:List Bool} {cs gs:List Int} {k:Nat} {row:List Nat} (G:K7 S ns loads lost gs) (h:loads[k]? = some row):gQ S cs gs k=(decide (gI gs k=gI cs k) || !decide (gI gs k<row.length)):=by
 have kl:=(List.getElem?_eq_some_iff.mp h).1;have ks:k<S.hs.length:=by rw [G.len];exact kl
 have kb:k<lost.length:=by rw [G.ll];exact kl
 have es:S.hs[k]? = some S.hs[k]:=List.getElem?_eq_getElem ks;have eb:lost[k]? = some lost[k]:=List.getElem?_eq_getElem kb;obtain ⟨g,eg,L⟩:=G.hd k _ _ _ es h eb;unfold gQ La;rw [es,eg];show (_ || !decide (S.hs[k].st = "waits"))=_;congr 2
 by_cases q:g<row.length
 ·rw [decide_eq_true (L.st.mpr q),decide_eq_true (by lia)]
 ·rw [decide_eq_false (fun z=>q (L.st.mp z)),decide_eq_false (by lia)]
theorem K7.turn {S:nP} {ns:List Int} {loads:List (List Nat)} {lost:List Bool} {gs:List Int} {k c:Nat} {row:List Nat} (G:K7 S ns loads lost gs) (h:loads[k]? = some row) (hc:row[(gI gs k).toNat]? = some c):
 (∃s,S.hs[k]? = some s/\s.rws[s.pos]? = some (.load 0 c))/\K7 (kW S k) ns loads lost (jh gs k):=by
 have kl:=(List.getElem?_eq_some_iff.mp h).1;have ks:k<S.hs.length:=by rw [G.len];exact kl
 have kb:k<lost.length:=by rw [G.ll];exact kl
 have es:S.hs[k]? = some S.hs[k]:=List.getElem?_eq_getElem ks;have eb:lost[k]? = some lost[k]:=List.getElem?_eq_getElem kb;obtain ⟨g,eg,L⟩:=G.hd k _ _ _ es h eb;rw [eg,Int.toNat_natCast] at hc;have er:S.hs[k].rws[S.hs[k].pos]? = some (.load 0 c):=by rw [L.rws,L.pos];exact Ru hc
 refine ⟨⟨_,es,er⟩, ?_⟩;have gk:k<gs.length:=by rw [G.gl];exact kl
 have ZL:∀x:Nat,gI (jh gs k) x=if x=k then gI gs k+1 else gI gs x:=fun x=>by
  have e:=RX (cs:=gs) (h:=(k:Int)) (k:=(x:Int)) (v:=gI gs k+1) (by lia) (by lia) (by lia);rw [Int.toNat_natCast] at e;unfold jh;rw [e]
  by_cases z:x=k
  ·rw [if_pos (by lia),if_pos z]
  ·rw [if_neg (by lia),if_neg z]
 have et:=G_ es er;refine ⟨by rw [Cy];exact G.len,G.ll,by rw [et];exact G.nums,by unfold jh;rw [List.length_set];exact G.gl, ?_, ?_,G.mem⟩
 ·intro x s' agv b' h1 h2 h3
  rw [et] at h1;have h1:(S.hs.set k (nZ S.ns S.hs[k] (.load 0 c)))[x]? = some s':=h1;rw [List.getElem?_set] at h1
  by_cases z:k=x
  ·subst z
   rw [if_pos rfl,if_pos ks] at h1;cases h1;rw [h] at h2;cases h2;rw [eb] at h3;cases h3;refine ⟨g+1,by rw [ZL,if_pos rfl,eg];lia, ?_⟩;rw [G.nums];exact Vv L hc
  ·rw [if_neg z] at h1
   obtain ⟨g',e',L'⟩:=G.hd x s' agv b' h1 h2 h3;exact ⟨g',by rw [ZL,if_neg (fun q=>z q.symm)];exact e',L'⟩
 ·intro x hx
  rw [et,ZL];show ((S.ts++[(k:Int)]).count (x:Int):Int)=_;rw [List.count_append]
  by_cases z:x=k
  ·subst z
   rw [if_pos rfl,List.count_singleton_self,←G.ct x hx];lia
  ·rw [if_neg z,List.count_singleton,if_neg (by simp;lia),←G.ct x hx]
   lia
structure F51 (i ii:Nat) (τ:Tg) (H H':Hp):Prop where
 rt:∀r,RT τ H r->RT τ H' r
 mv:∀m,m≠i->m≠ii->m≠9->Mv m τ H τ H'
theorem F51.of_same {i ii:Nat} {τ:Tg} {H H':Hp} (k:Same H H'):F51 i ii τ H H':=⟨fun r T=>T.same k,fun m _ _ _=>Mv.of_same k⟩
theorem F51.trans {i ii:Nat} {τ:Tg} {H H1 H2:Hp} (a:F51 i ii τ H H1) (b:F51 i ii τ H1 H2):F51 i ii τ H H2:=⟨fun r T=>b.rt r (a.rt r T),fun m h1 h2 h3=>(a.mv m h1 h2 h3).trans (b.mv m h1 h2 h3)⟩
theorem F51.stp {i ii j:Nat} {τ:Tg} {H H':Hp} (k:p8 j τ H H') (h:j=i\/j=ii\/j=9) (j0:j≠0):F51 i ii τ H H':=⟨fun r T=>T.stp k,fun m h1 h2 h3=>Mv.m_ k (by rcases h with rfl|rfl|rfl<;>lia) j0⟩
theorem vm {H:Hp} {l x y:Addr} {xs ys:List Int} (h:H l=some (.lst [.ref x,.ref y])) (hx:H x=some (.lst (xs.map V.int))) (hy:H y=some (.lst (ys.map V.int))):Dat H (.ref l) (.list [Mp xs,Mp ys]):=oh h (by simp only [aR,and_true];exact ⟨jW hx,jW hy⟩)
theorem QD {n:Nat} {xs ys:List Int} (h1:xs.length<=20000) (h2:ys.length<=20000):Tt (n+3) (.list [Mp xs,Mp ys]):=by
 refine ⟨by show 2<=20000;decide,fun d hd=> ?_⟩;simp only [List.mem_cons,List.not_mem_nil,or_false] at hd;rcases hd with rfl|rfl
 ·exact Tt.ints h1
 ·exact Tt.ints h2
theorem Rq {cs gs:List Int} (ok:Js cs) (dn:GP cs gs):∀n,n<=cs.length->(mL cs gs n).length<=n*300:=fun n=>by
 induction n with
 | zero=>intro _;simp [mL]
 | succ n ih=>
   intro h;have:=ih (by lia);have cb':=ok.gI n;have gb':=dn.2 n (by lia) (by lia);rw [pI,List.length_append];unfold Qu;rw [List.length_map,List.length_range];lia
def jw (gs:List Int) (k:Int) (x:Nt):Bool:=decide (x.2.2.1=k)&&(decide (x.2.2.2=gI gs k)&&decide (gI gs x.1<=x.2.1))
theorem Am (gs:List Int) (k:Nat):∀ns:List Nt,jd ns gs k=ns.filter (jw gs k)
 | []=>rfl
 | (a,b,c,d)::r=>by
   have ih:=Am gs k r;unfold jd cW at ih ⊢;rw [List.filter_cons,List.filter_cons];unfold jw at ih ⊢;dsimp only
   by_cases q1:c=(k:Int)
   ·by_cases q2:d=gI gs k
    ·subst q1 q2
     rw [decide_eq_true rfl,decide_eq_true rfl];simp only [Bool.and_self,Bool.true_and,if_true,List.map_cons,List.filter_cons]
     by_cases q3:b<gI gs a
     ·rw [decide_eq_false (show ¬gI gs a<=b by lia)]
      rw [if_neg (show ¬(!decide ((ft (a,b,(k:Int),gI gs k)).2<gI gs (ft (a,b,(k:Int),gI gs k)).1))=true by show ¬(!decide (b<gI gs a))=true;rw [decide_eq_true q3];decide),if_neg Bool.false_ne_true];exact ih
     ·rw [decide_eq_true (show gI gs a<=b by lia)]
      rw [if_pos (show (!decide ((ft (a,b,(k:Int),gI gs k)).2<gI gs (ft (a,b,(k:Int),gI gs k)).1))=true by show (!decide (b<gI gs a))=true;rw [decide_eq_false q3];rfl),if_pos rfl];exact congrArg ((a,b,(k:Int),gI gs k) :: ·) ih
    ·rw [decide_eq_false q2]
     simp only [Bool.and_false,Bool.false_and];exact ih
   ·rw [decide_eq_false q1]
    simp only [Bool.false_and];exact ih
theorem Ij {ns pY hs:List Nt} {gs:List Int} {k:Nat} (pm:ns.Perm pY) (sr:GC ns) (ph:hs.Perm (pY.filter (jw gs k))) (sh:GC hs):hs=jd ns gs k:=by
 rw [Am];exact CT (ph.trans (pm.filter _).symm) sh (List.Pairwise.filter _ sr)
def uG (K:PySem.W.Frag):Sp:=fun vs H Q _=>∃(sm g:Addr) (ns:List Nt) (cs gs:List Int) (k:Nat),vs=[.ref sm,.ref g,.int k]/\lY H sm ns/\ns.length<=100/\(∀x∈ns,Gz cs x)/\H g=some (.lst (gs.map V.int))/\gs.length=cs.length/\k<cs.length /\
 ∀l hs H',H l=none->lY H' l hs->hs.Perm (ns.filter (jw gs k))->GC hs->Same H H'->Q (.ref l) H'
theorem Ka {f:Addr} {fd:FuncData} (F:kO K "_law_held_by" "_law_held_by" gq f fd) (Bt:um mg):bZ P w K mg base kY 1 f fd ["some","gone","hand"] (uG K):=by
 refine F.ok qw (fun vs H Q E h=> ?_) (fun cdv A outer s H vs Q E hr h=> ?_)
 ·obtain ⟨sm,g,ns,cs,gs,n,rfl,_⟩:=h
  rfl
 ·obtain ⟨sm,g,ns,cs,gs,n,rfl,N,nl,HB,hg,lg,nc,k⟩:=h
  refine ⟨_,(aF (bU (i:=3) qw.nd rfl (Or.inl rfl) (eO aC))
   (aF (tU PassesOwn.never rfl (dW (K:=K) rfl (pv 0)) (bW (i:=4) qw.nd rfl (Or.inl rfl))
   (aK (cU (PW.pt (zV (bM h_ (aW (aZ (K:=K) rfl) (pv 4) aG (fun _ _=>rfl)) (pv 2) (bJ _)) (zV (bM h_ (aW (aZ (K:=K) rfl) (pv 4) aG (fun _ _=>rfl)) (aW (bh (K:=K) rfl) (pv 1) (pv 2) (fun _ _=>rfl)) (bJ _)) (yq (bM WY (aW (bh (K:=K) rfl) (pv 1) (aW (aZ (K:=K) rfl) (pv 4) aG (fun _ _=>rfl)) (fun _ _=>rfl)) (aW (aZ (K:=K) rfl) (pv 4) aG (fun _ _=>rfl)) (bJ _)))))) (aK (fO (jG (K:=K) rfl (pv 3) (aj (pv 4) aC)))) bQ)))
   (aK (bK (aQ (xM (K:=K) rfl) (by rfl) Bt.Jg DP (aj (pv 3) aC)))))), ?_⟩
  obtain ⟨vs,hs,dv⟩:=id N;have vl:vs.length=ns.length:=by rw [dv.length,List.length_map]
  refine ⟨(by show 0<=sizeLine;decide),fun a ha=> ?_⟩;have sa:=aH (o:=HO.lst []) ha;refine ⟨_,rfl,sm,rfl,⟨_,bN.of (sa _ _ hs)⟩, ?_⟩
  refine vg (K:=K) (a:=sm) (xs:=vs) (fun i σ H2=>∃(x:Option V),σ=[some (.ref sm),some (.ref g),some (.int n),some (.ref a),x]/\Same H H2/\lY H2 a ((ns.take i).filter (jw gs n)))
   ⟨none,rfl,sa,[],ak,by simp [aR]⟩ (fun i σ H2 _ ⟨_,_,s2,_⟩=>bN.of (s2 _ _ hs)) ?_ ?_
  ·rintro i v σ H2 hi ⟨x0,rfl,s2,ws,eA,dw⟩
   obtain ⟨x,t,ex,rfl,hx⟩:=uV dv hi;have hx2:=s2 _ _ hx;have hg2:=s2 _ _ hg;have tk:ns.take (i+1)=ns.take i++[x]:=by rw [List.take_add_one,ex];rfl
   obtain ⟨⟨h0,h1⟩,⟨k0,k1⟩,⟨o0,o1⟩,⟨m0,m1⟩,hne⟩:=HB x (List.mem_of_getElem? ex);have il:i<ns.length:=(List.getElem?_eq_some_iff.mp ex).1
   have wl:ws.length<=i:=by
    rw [dw.length,List.length_map];have:=List.length_filter_le (jw gs n) (ns.take i);rw [List.length_take] at this;lia
   have no:jw gs n x=false->(ns.take (i+1)).filter (jw gs n)=(ns.take i).filter (jw gs n):=fun e=>by rw [tk,List.filter_append,List.filter_cons,e];simp
   have yes:jw gs n x=true->(ns.take (i+1)).filter (jw gs n)=(ns.take i).filter (jw gs n)++[x]:=fun e=>by rw [tk,List.filter_append,List.filter_cons,e];simp
   dsimp only [gR];refine ⟨_,rfl,_,_,_,_,rfl,rfl,cN.of hx2,rfl,_,rfl,rfl,_,rfl, ?_⟩
   by_cases q1:x.2.2.1=(n:Int)
   ·rw [decide_eq_true (by rw [q1])]
    refine gJ ?_;refine ⟨_,rfl,_,_,_,_,rfl,rfl,cN.of hx2,rfl,_,rfl,_,rfl,_,_,_,_,rfl,rfl,bN.of hg2,gF (by lia) (by lia),rfl,_,rfl, ?_⟩
    by_cases q2:x.2.2.2=gI gs n
    ·rw [decide_eq_true (by rw [q2])]
     refine gJ ?_;refine ⟨_,rfl,_,rfl,_,_,_,_,rfl,rfl,cN.of hx2,rfl,_,_,_,_,rfl,rfl,bN.of hg2,gF (by lia) (by lia),_,rfl,_,_,_,_,rfl,rfl,cN.of hx2,rfl,_,_,rfl,rfl,_,rfl, ?_⟩;refine dO (fun q3=> ?_) (fun q3=> ?_)
     ·refine ⟨_,rfl,.inl ⟨rfl,_,bN.of eA⟩,_,rfl,a,ws,_,rfl,rfl,eA,(by rw [sizeLine_eq];lia), ?_⟩
      have tup:∀y ys,H2 y=some (.tup ys)->(upd H2 a (.lst (ws++[V.ref t]))) y=some (.tup ys):=fun y ys e=>by rw [aD (dX e eA (by intro z;cases z))];exact e
      refine ⟨_,rfl,fun y o e=>by rw [aD (au e ha)];exact s2 _ _ e,_,ak, ?_⟩;rw [yes (by unfold jw;rw [decide_eq_true q1,decide_eq_true q2];exact q3),List.map_append];exact aR.append (aR.keep tup _ (cg _ jH _) dw) (Mw (ud (tup _ _ hx2)))
     ·refine ⟨_,rfl,s2,ws,eA, ?_⟩
      rw [no (by unfold jw;rw [decide_eq_true q1,decide_eq_true q2];exact Bool.eq_false_iff.mpr q3)];exact dw
    ·rw [decide_eq_false (fun z=>q2 (V.int.inj z))]
     refine dG ?_;refine ⟨_,rfl,s2,ws,eA, ?_⟩;rw [no (by unfold jw;rw [decide_eq_false q2];simp)];exact dw
   ·rw [decide_eq_false (fun z=>q1 (V.int.inj z))]
    refine dG ?_;refine ⟨_,rfl,s2,ws,eA, ?_⟩;rw [no (by unfold jw;rw [decide_eq_false q1];simp)];exact dw
  ·rintro σ H2 ⟨x0,rfl,s2,N2⟩
   rw [vl,List.take_length] at N2;refine ⟨_,rfl, ?_⟩;dsimp only [Qk];exact Hh (K:=K) N2 fun l hs' H3 fl N3 p3 sr3 s3=>k l hs' H3 (s2.free fl) N3 p3 sr3 (s2.trans s3)
def zJ (K:PySem.W.Frag):Sp:=fun vs H Q _=>∃(L c sm g:Addr) (cP:List Nat) (ns:List Nt) (cs gs:List Int),vs=[.ref L,.ref c,.ref sm,.ref g]/\H L=some (.lst (cP.map fun n:Nat=>V.int n))/\H c=some (.lst (cs.map V.int))/\lY H sm ns/\ns.length<=100/\(∀x∈ns,Gz cs x)/\H g=some (.lst (gs.map V.int))/\cs.length=cP.length/\gs.length=cP.length/\cP.length<=8 /\
 ∀l H',H l=none->H' l=some (.lst (((List.range cP.length).filter fun k:Nat=>(decide (gI gs k<gI cs k)&&decide (gI gs k<((cP[k]?).getD 0:Nat)))&&(ns.filter (jw gs k)).isEmpty).map fun k:Nat=>V.int k))->Same H H'->Q (.ref l) H'
theorem NP {f:Addr} {fd:FuncData} (F:kO K "_law_free" "_law_free" lD f fd) (uh:FnAt P w K mg base 1 "_law_held_by" ["some","gone","hand"] (uG K)) (Bt:um mg):bZ P w K mg base kY 2 f fd ["loads","counts","some","gone"] (zJ K):=by
 refine F.ok Hl (fun vs H Q E h=> ?_) (fun cdv A outer s H vs Q E hr h=> ?_)
 ·obtain ⟨L,c,sm,g,cP,ns,cs,gs,rfl,_⟩:=h
  rfl
 ·obtain ⟨L,c,sm,g,cP,ns,cs,gs,rfl,hL,hc,N,nl,HB,hg,lc,lg,l8,k⟩:=h
  have xT:=hr.units
  refine ⟨_,(aF (pC (i:=4) rfl Hl.nd rfl (Or.inl rfl) (N:=["k","gone","counts","loads"]) (own:=["k"]) (caps:=[3,1,0]) (bC.of (by kernel_rfl)) (jc (by rfl) Bt.lF (aj (aQ (bw (K:=K) rfl) (by rfl) Bt.gK dR (aj (pv 0) aC)) aC)) (fun _ _ _ _=>(bW (i:=0) (show List.Nodup (["k","gone","counts","loads"]:List Str) by decide +kernel) rfl (Or.inl rfl))) (fun _ _ _ _=>(rC (bM Ac (aW (bh (K:=K) rfl) (pv 1) (pv 0) (fun _ _=>rfl)) (aQ (DN rfl) (by rfl) Bt.Xq S_ (aj (aW (bh (K:=K) rfl) (pv 2) (pv 0) (fun _ _=>rfl)) (aj (aW (bh (K:=K) rfl) (pv 3) (pv 0) (fun _ _=>rfl)) aC))) (bJ _)))) (fun _ _ _ _=>(pv 0)))
   (aK (bK (gA rfl (N:=["k","some","gone"]) (own:=["k"]) (caps:=[2,3]) (bC.of (by kernel_rfl)) (dW (K:=K) rfl (pv 4)) (fun _ _ _ _=>(bW (i:=0) (show List.Nodup (["k","some","gone"]:List Str) by decide +kernel) rfl (Or.inl rfl))) (fun _ _ _ _=>(rC (bM (Fj (K:=K) rfl xT) (cA uh (hr.mono (by decide)) (by rfl) (aj (pv 1) (aj (pv 2) (aj (pv 0) aC)))) (eO aC) (bJ _)))) (fun _ _ _ _=>(pv 0)))))), ?_⟩
  refine ⟨_,rfl,L,_,rfl,.inl (bN.of hL),_,rfl,by rw [List.length_map];lia,by rw [List.length_map];lia,fun D hD=> ?_⟩;rw [List.length_map,Int.toNat_natCast];refine ou (fun j:Nat=>if decide (gI gs j<gI cs j)&&decide (gI gs j<((cP[j]?).getD 0:Nat)) then some (.int (j:Nat)) else none) hD (by lia) (fun j H1 G F hj s1 kG kF=> ?_) (fun H1 s1 e1=> ?_)
  ·have el:cP[j]? = some cP[j]:=List.getElem?_eq_getElem hj
   rw [el] at kG kF;refine ⟨_,rfl,_,rfl,_,_,_,_,rfl,rfl,bN.of (s1 _ _ hg),by rw [Int.zero_add];exact gF (by lia) (by lia), ?_⟩;refine ⟨_,rfl,_,rfl,_,_,_,_,rfl,rfl,bN.of (s1 _ _ hc),by rw [Int.zero_add];exact gF (by lia) (by lia),_,rfl,_,rfl,_,_,_,_,rfl,rfl,bN.of (s1 _ _ hL),by rw [Int.zero_add];exact gD (by rw [List.getElem?_map,el];rfl),_,_,rfl,_,_,rfl,rfl,_,rfl, ?_⟩
   have em:decide (gI gs j<(if ((cP[j]:Nat):Int)<gI cs j then ((cP[j]:Nat):Int) else gI cs j))=(decide (gI gs j<gI cs j)&&decide (gI gs j<((cP[j]:Nat):Int))):=by
    rw [Bool.eq_iff_iff,Bool.and_eq_true,decide_eq_true_iff,decide_eq_true_iff,decide_eq_true_iff];split<;>lia
   rw [em];refine dO (fun q1=> ?_) (fun q1=> ?_)
   ·exact ⟨_,rfl,kF _ H1 (Same.refl _) (by rw [Int.zero_add];exact if_pos q1)⟩
   ·exact kG H1 (Same.refl _) (if_neg q1)
  rw [Ks (fun j:Nat=>decide (gI gs j<gI cs j)&&decide (gI gs j<((cP[j]?).getD 0:Nat))) (fun j:Nat=>V.int j)] at e1;have mW:∀x∈(List.range cP.length).filter fun j:Nat=>decide (gI gs j<gI cs j)&&decide (gI gs j<((cP[j]?).getD 0:Nat)),x<cP.length:=fun x hx=>List.mem_range.mp (List.mem_filter.mp hx).1
  have lW:((List.range cP.length).filter fun j:Nat=>decide (gI gs j<gI cs j)&&decide (gI gs j<((cP[j]?).getD 0:Nat))).length<=cP.length:=by
   have:=List.length_filter_le (fun j:Nat=>decide (gI gs j<gI cs j)&&decide (gI gs j<((cP[j]?).getD 0:Nat))) (List.range cP.length);rw [List.length_range] at this;exact this
  have eW:((List.range cP.length).filter fun k:Nat=>(decide (gI gs k<gI cs k)&&decide (gI gs k<((cP[k]?).getD 0:Nat)))&&(ns.filter (jw gs k)).isEmpty)=((List.range cP.length).filter fun j:Nat=>decide (gI gs j<gI cs j)&&decide (gI gs j<((cP[j]?).getD 0:Nat))).filter fun k:Nat=>(ns.filter (jw gs k)).isEmpty:=by
   rw [List.filter_filter];refine List.filter_congr fun x _=> ?_;rw [Bool.and_comm]
  rw [eW] at k;clear eW;generalize ((List.range cP.length).filter fun j:Nat=>decide (gI gs j<gI cs j)&&decide (gI gs j<((cP[j]?).getD 0:Nat)))=W at e1 mW lW k;refine ⟨_,rfl,D,rfl,⟨_,bN.of e1⟩,fun D2 hD2=> ?_⟩;refine oA (K:=K) (fun i=>(W[i]?).bind fun q:Nat=>if (ns.filter (jw gs q)).isEmpty then some (V.int q) else none) hD2 (bN.of e1) (by rw [List.length_map];lia) (fun i v H3 G F hi s3 kG kF=> ?_) (fun H3 s3 e3=> ?_)
  ·rw [List.getElem?_map] at hi
   obtain ⟨q,eq,rfl⟩:∃q:Nat,W[i]? = some q/\v = .int q:=by
    cases e:W[i]? with
    | none=>rw [e] at hi;cases hi
    | some q=>rw [e] at hi;exact ⟨q,rfl,(Option.some.inj hi).symm⟩
   have ql:=mW q (List.mem_of_getElem? eq);rw [eq,Option.bind_some] at kG kF;have S3:=s1.trans s3;refine ⟨_,rfl,_,rfl,_,rfl,sm,g,ns,cs,gs,q,rfl,N.same S3,nl,HB,S3 _ _ hg,by lia,by lia,fun l hs H4 fl N4 p4 sr4 s4=> ?_⟩;refine ⟨(by show 0<=sizeLine;decide),fun em hem=> ?_⟩;have sem:=aH (o:=HO.lst []) hem;obtain ⟨ws,el,dw⟩:=N4.same sem;refine ⟨_,_,oh el dw,oh ak (ds:=([]:List Nt).map nD) (by simp [aR]),pA _,pA _,_,rfl, ?_⟩;rw [if_neg Bool.false_ne_true,qJ nD Sg]
   have eb:(ns.filter (jw gs q)).isEmpty=decide (hs=[]):=by
    have:=p4.length_eq;cases hs with
    | nil=>rw [decide_eq_true rfl,List.eq_nil_of_length_eq_zero this.symm];rfl
    | cons a b=>
      rw [decide_eq_false (by simp)];cases e:ns.filter (jw gs q) with
      | nil=>rw [e] at this;simp at this
      | cons=>rfl
   rw [eb] at kG kF;refine dO (fun z=> ?_) (fun z=> ?_)
   ·exact ⟨_,rfl,kF _ _ (s4.trans sem) (if_pos z)⟩
   ·exact kG _ (s4.trans sem) (if_neg z)
  rw [List.length_map,yu (fun q:Nat=>(ns.filter (jw gs q)).isEmpty) (fun q:Nat=>V.int q)] at e3;exact k D2 H3 (s1.free hD2) e3 (s1.trans s3)
def mG (CR CW CH CO CE:Addr) (K:PySem.W.Frag):Sp:=fun vs H Q _=>∃(i ii:Nat) (τ:Tg) (R:Jv) (S:nP) (cs gs:List Int) (ns:List Nt) (k:Nat),vs=[.ref R.o,.int k]/\mF CR CW CH i ii τ H R S cs ns gs/\S.ts.length<=9000/\k<cs.length /\
 ((gQ S cs gs k=true /\ ∀e H',H' e=some (XO CO none e)->Same H H'->Q (.ref e) H') \/
  (∃x,gQ S cs gs k=false/\(jd ns gs k)[0]? = some x /\ ∀e d p H',H' e=some (XO CE (some d) e)->H' d=some (.xd [("note",.ref p)])->Dat H' (.ref p) (nD x)->Same H H'->Q (.ref e) H'))
theorem Fl {aB aq ao:Addr} {f:Addr} {fd:FuncData} (F:kO K "_law_refusal" "_law_refusal" gj f fd) {aY aV bD aX bL cG:Addr} (dM:Xr K mg aV "NoHand") (fQ:Xr K mg bD "Over") (d_:Xf K mg aX "Held" "note") (fV:Xo K mg aY bL "NoteError" true) (qP:Xo K mg aY cG "NoNote" false) (nF:jm K bD aV false) (qM:jm K bD aX false) (jN:jm K bD bL true) (nA:jm K bD cG false) (nH:jm K aX aV false) (qN:jm K aX bD false) (eE:jm K aX bL true) (nG:jm K aX cG false) (aL:eF K aB) (nJ:jq P w K mg base 8 aB "turn" ["self","hand"] (yd aB aq ao aV bD aX K)) (Bt:um mg):bZ P w K mg base kY 9 f fd ["one","hand"] (mG aB aq ao bD aX K):=by
 refine F.ok mJ (fun vs H Q E h=> ?_) (fun cdv A outer s H vs Q E hr h=> ?_)
 ·obtain ⟨i,ii,τ,R,S,cs,gs,ns,kk,rfl,_⟩:=h
  rfl
 ·obtain ⟨i,ii,τ,R,S,cs,gs,ns,kk,rfl,r,tl,kl,cases'⟩:=h
  refine ⟨_,(aF (bU (i:=2) mJ.nd rfl (Or.inl rfl) iZ)
   (aF (YJ (i:=3) rfl rfl rfl rfl mJ.nd rfl rfl (by rfl) fV.bd fV.hd (fun _ _ _ _ hR=>(aK (fO (uU nJ aL.cls rfl hR (hr.mono (by decide)) (pv 0) (aj (pv 1) aC))))) (fun _=>(aK (bU (i:=2) mJ.nd rfl (Or.inl rfl) (pv 3)))))
   (aF (cU (PW.pt (pP (gw (dI (aQ (oE (K:=K) (c:= .type "ValueError") (cv:= .ty "ValueError") rfl (fun _ h=>h)) (by rfl) Bt.bH bx (aj (pv 2) (aj (fD (v:= .ty "ValueError") (by rfl) Bt.Gw Cg rfl) aC))))) (lQ (dI (aQ (OJ (K:=K) rfl) (by rfl) Bt.bH bx (aj (pv 2) (aj (jF (aj (gP (v:= .ref aV) (by rfl) dM.bd rfl) (aj (gP (v:= .ref cG) (by rfl) qP.bd rfl) aC))) aC))))))) (aK (bK iZ)) bQ)
   (aF (cU (PW.pt (zV (dI (aQ (oE (K:=K) (c:= .ref aX) (cv:= .ref aX) rfl (fun _ h=>h)) (by rfl) Bt.bH bx (aj (pv 2) (aj (gP (v:= .ref aX) (by rfl) d_.bd rfl) aC)))) (yq (dI (aQ (oE (K:=K) (c:= .ref bD) (cv:= .ref bD) rfl (fun _ h=>h)) (by rfl) Bt.bH bx (aj (pv 2) (aj (gP (v:= .ref bD) (by rfl) fQ.bd rfl) aC))))))) (aK (bK iZ)) bQ)
   (aK (bK (pv 2))))))), ?_⟩
  have inn:xH (kk:Int) cs.length:=⟨by lia,by lia⟩;have one:∀k':Nat,(kk:Int)=k'->k'=kk:=fun k' e=>by lia
  rcases cases' with ⟨eo,k⟩|⟨x,eo,ex,k⟩
  ·refine ⟨_,rfl,R.o,R.dx,_,rfl,r.o,rfl,_,rfl,i,ii,τ,R,S,cs,gs,ns,kk,rfl,r,tl,fun k' x p d H' e1 e2 e3=>absurd e3 (by rw [one k' e1,eo];decide),fun k' s' r' t' H' e1 e2 e3=>absurd e3 (by rw [one k' e1,eo];decide),fun z=>absurd inn z,fun k' e1 e2 e3=>⟨_,rfl,jN.sub,fun e he=> ?_⟩⟩
   have se:=aH (o:=XO bD none e) he;refine ⟨_,rfl, ?_⟩;refine ⟨_,rfl,e,_,[],true,rfl,.inl ⟨ak,rfl⟩,fQ.xc,Dh fQ.ve,_,rfl,dG ?_⟩;refine ⟨_,rfl,(by show 2<=sizeLine;decide),fun t ht=> ?_⟩;have st:=aH (o:=HO.tup [V.ref aV,V.ref cG]) ht;have ee:=st _ _ (ak (H:=H) (a:=e) (o:=XO bD none e))
   refine ⟨e,t,_,[],[aV,cG],false,rfl,.inl ⟨ee,rfl⟩,fQ.xc,ak,qG (by
    intro D hD;simp only [List.mem_cons,List.not_mem_nil,or_false] at hD;rcases hD with rfl|rfl
    ·exact pJ dM.hd nF
    ·exact pJ qP.hd nA),_,rfl,dG ?_⟩
   refine ⟨_,rfl,e,_,[],false,rfl,.inl ⟨ee,rfl⟩,fQ.xc,pJ d_.hd qM,_,rfl,dG ?_⟩;exact ⟨_,rfl,k e _ ee (se.trans st)⟩
  ·refine ⟨_,rfl,R.o,R.dx,_,rfl,r.o,rfl,_,rfl,i,ii,τ,R,S,cs,gs,ns,kk,rfl,r,tl,fun k' x' p d H' e1 e2 e3 e4 hd0 hd dp s'=>⟨_,rfl,eE.sub,fun e he=> ?_⟩,fun k' s' r' t' H' e1 e2 e3 e4=>absurd ex (by rw [←one k' e1,e4];simp),fun z=>absurd inn z,fun k' e1 e2 e3=>absurd e3 (by rw [one k' e1,eo];decide)⟩
   obtain rfl:=one k' e1;rw [ex] at e4;cases e4;have se:=aH (o:=XO aX (some d) e) he;refine ⟨_,rfl, ?_⟩;have hd1:=se _ _ hd;refine ⟨_,rfl,e,_,_,true,rfl,.inr ⟨d,ak,hd1⟩,d_.xc,Dh d_.ve,_,rfl,dG ?_⟩;refine ⟨_,rfl,(by show 2<=sizeLine;decide),fun t ht=> ?_⟩;have st:=aH (o:=HO.tup [V.ref aV,V.ref cG]) ht;have ee:=st _ _ (ak (H:=H') (a:=e) (o:=XO aX (some d) e));have hd2:=st _ _ hd1
   refine ⟨e,t,_,_,[aV,cG],false,rfl,.inr ⟨d,ee,hd2⟩,d_.xc,ak,qG (by
    intro D hD;simp only [List.mem_cons,List.not_mem_nil,or_false] at hD;rcases hD with rfl|rfl
    ·exact pJ dM.hd nH
    ·exact pJ qP.hd nG),_,rfl,dG ?_⟩
   refine ⟨_,rfl,e,_,_,true,rfl,.inr ⟨d,ee,hd2⟩,d_.xc,Aj,_,rfl,gJ ?_⟩;refine ⟨_,rfl,e,_,_,false,rfl,.inr ⟨d,ee,hd2⟩,d_.xc,pJ fQ.hd qN,_,rfl,dG ?_⟩;exact ⟨_,rfl,k e d p _ ee hd2 ((dp.same se _).same st _) ((s'.trans se).trans st)⟩
def yj (cP:List Nat):List (List Nat):=cP.map fun n=>List.replicate n 0
structure C52 (CR CW CH:Addr) (i ii:Nat) (τ:Tg) (H:Hp) (R:Jv) (S:nP) (cs gs:List Int) (cP:List Nat) (lost:List Bool) (ns pY:List Nt) (L cl sm g:Addr):Prop where
 r:mF CR CW CH i ii τ H R S cs ns gs
 G:K7 S [0] (yj cP) lost gs
 hL:H L=some (.lst (cP.map fun n:Nat=>V.int n))
 tL:τ L=[0]
 n8:cP.length<=8
 hcl:H cl=some (.lst (cs.map V.int))
 tc:τ cl=[0]
 hs:lY H sm pY
 ts:τ sm=[0]
 hg:H g=some (.lst (gs.map V.int))
 tg:τ g=[9]
 lc:cs.length=cP.length
 i9:i≠9
 ii9:ii≠9
 pm:ns.Perm pY
 sr:GC ns
section
variable {CR CW CH:Addr} {i ii:Nat} {τ τ':Tg} {H H':Hp} {R:Jv} {S:nP} {cs gs:List Int} {cP:List Nat} {lost:List Bool} {ns pY:List Nt} {L cl sm g:Addr}
theorem C52.mv (c:C52 CR CW CH i ii τ H R S cs gs cP lost ns pY L cl sm g) (q:∀m,m=i\/m=ii\/m=9->Mv m τ H τ' H') (u:vH τ' H'):C52 CR CW CH i ii τ' H' R S cs gs cP lost ns pY L cl sm g:=by
 have q9:=q 9 (.inr (.inr rfl));have e1:=q9.keep _ _ c.hL (.inl c.tL);have e2:=q9.keep _ _ c.hcl (.inl c.tc);have e3:=q9.keep _ _ c.hg (.inr (by rw [c.tg];rfl));obtain ⟨vs,hv,dv⟩:=c.hs;have e4:=q9.keep _ _ hv (.inl c.ts);exact ⟨c.r.mv (q i (.inl rfl)) (q ii (.inr (.inl rfl))) u,c.G,e1.1,e1.2.trans c.tL,c.n8,e2.1,e2.2.trans c.tc,⟨vs,e4.1,aR.keep q9.tup _ (cg _ jH _) dv⟩,e4.2.trans c.ts,e3.1,e3.2.trans c.tg,c.lc,c.i9,c.ii9,c.pm,c.sr⟩
theorem C52.same (c:C52 CR CW CH i ii τ H R S cs gs cP lost ns pY L cl sm g) (k:Same H H'):C52 CR CW CH i ii τ H' R S cs gs cP lost ns pY L cl sm g:=c.mv (fun _ _=>Mv.of_same k) (c.r.w.un.same k)
theorem C52.lr (c:C52 CR CW CH i ii τ H R S cs gs cP lost ns pY L cl sm g):(yj cP).length=cP.length:=by unfold yj;rw [List.length_map]
theorem C52.HB (c:C52 CR CW CH i ii τ H R S cs gs cP lost ns pY L cl sm g):pY.length<=100 /\ ∀x∈pY,Gz cs x:=⟨by rw [←c.pm.length_eq];exact c.r.ok.2.1,fun x hx=>c.r.ok.2.2 x (c.pm.mem_iff.mpr hx)⟩
theorem C52.gl (c:C52 CR CW CH i ii τ H R S cs gs cP lost ns pY L cl sm g):gs.length=cP.length:=by rw [c.G.gl,c.lr]
theorem Qt {n:Nat} (h:n<cP.length):(yj cP)[n]? = some (List.replicate cP[n] 0):=by
 unfold yj;rw [List.getElem?_map,List.getElem?_eq_getElem h];rfl
theorem C52.over (c:C52 CR CW CH i ii τ H R S cs gs cP lost ns pY L cl sm g) {n:Nat} (h:n<cP.length):gQ S cs gs n=(decide (gI gs n=gI cs n)||decide (gI gs n=(cP[n]:Nat)))/\gI gs n<=(cP[n]:Nat)/\0<=gI gs n/\gI gs n<=gI cs n:=by
 have er:=Qt h;have hs:n<S.hs.length:=by rw [c.G.len,c.lr];exact h
 have hb:n<lost.length:=by rw [c.G.ll,c.lr];exact h
 obtain ⟨gn,eg,LD⟩:=c.G.hd n _ _ _ (List.getElem?_eq_getElem hs) er (List.getElem?_eq_getElem hb);have le:=LD.le;rw [List.length_replicate] at le;have gb:=c.r.dn.2 n (by lia) (by rw [c.lc];lia);refine ⟨?_,by lia,gb.1,gb.2⟩;rw [c.G.over er,List.length_replicate];congr 1
 by_cases q:gI gs n=((cP[n]:Nat):Int)
 ·rw [decide_eq_true q,decide_eq_false (by lia)];rfl
 ·rw [decide_eq_false q,decide_eq_true (by lia)];rfl
end
theorem WW {n:Nat} (x:Nt):Tt (n+2) (nD x):=by
 refine ⟨by show 4<=20000;decide,fun d hd=> ?_⟩;simp only [List.mem_cons,List.not_mem_nil,or_false] at hd;rcases hd with rfl|rfl|rfl|rfl<;>trivial
def zF (CR CW CH:Addr) (K:PySem.W.Frag):Sp:=fun vs H Q _=>∃(i ii:Nat) (τ:Tg) (R:Jv) (S:nP) (cs gs:List Int) (cP:List Nat) (lost:List Bool) (ns pY:List Nt) (L cl sm g:Addr) (n:Nat),vs=[.ref R.o,.int n,.ref L,.ref cl,.ref sm,.ref g]/\C52 CR CW CH i ii τ H R S cs gs cP lost ns pY L cl sm g/\S.ts.length<=8000/\n<cP.length /\
 ∀(S':nP) (gs':List Int) (H':Hp),C52 CR CW CH i ii τ H' R S' cs gs' cP lost ns pY L cl sm g->S'.ts.length<=S.ts.length+1->F51 i ii τ H H'->Q (.bl true) H'
theorem Nv {aB aq ao:Addr} {f:Addr} {fd:FuncData} (F:kO K "_law_step" "_law_step" k_ f fd) {aY aV bD aX bL:Addr} (fQ:Xr K mg bD "Over") (d_:Xf K mg aX "Held" "note") (fV:Xo K mg aY bL "NoteError" true) (eE:jm K aX bL true) (aL:eF K aB) (BK:FnAt P w K mg base 9 "_law_refusal" ["one","hand"] (mG aB aq ao bD aX K)) (uh:FnAt P w K mg base 1 "_law_held_by" ["some","gone","hand"] (uG K)) (K6:DY P w K mg base 1 aX "Held" ["self","note"] (yg aX K)) (nJ:MethAt P w K mg base 8 aB "turn" ["self","hand"] (fun vs H Q _=>yd aB aq ao aV bD aX K vs H Q fun _ _ _=>False)) (jt:FnAt P w K mg base 5 "_law_alike" ["found","due"] (jR 4 K)) (Bt:um mg):bZ P w K mg base kY 10 f fd ["one","hand","loads","counts","some","gone"] (zF aB aq ao K):=by
 refine F.ok qt (fun vs H Q E h=> ?_) (fun cdv A outer s H vs Q E hr h=> ?_)
 ·obtain ⟨i,ii,τ,R,S,cs,gs,cP,lost,ns,pY,L,cl,sm,g,n,rfl,_⟩:=h
  rfl
 ·obtain ⟨i,ii,τ,R,S,cs,gs,cP,lost,ns,pY,L,cl,sm,g,n,rfl,c,tl,nl,k⟩:=h
  have xT:=hr.units
  refine ⟨_,(aF (cU (PW.pt (pP (bM h_ (aW (bh (K:=K) rfl) (pv 5) (pv 1) (fun _ _=>rfl)) (aW (bh (K:=K) rfl) (pv 3) (pv 1) (fun _ _=>rfl)) (bJ _)) (lQ (bM h_ (aW (bh (K:=K) rfl) (pv 5) (pv 1) (fun _ _=>rfl)) (aW (bh (K:=K) rfl) (pv 2) (pv 1) (fun _ _=>rfl)) (bJ _))))) (aK (bK (aQ (oE (K:=K) (c:= .ref bD) (cv:= .ref bD) rfl (fun _ h=>h)) (by rfl) Bt.bH bx (aj (cA BK (hr.mono (by decide)) (by rfl) (aj (pv 0) (aj (pv 1) aC))) (aj (gP (v:= .ref bD) (by rfl) fQ.bd rfl) aC))))) bQ)
   (aF (bU (i:=6) qt.nd rfl (Or.inl rfl) (cA uh (hr.mono (by decide)) (by rfl) (aj (pv 4) (aj (pv 5) (aj (pv 1) aC)))))
   (aF (cU (bM (LC (K:=K) rfl xT) (pv 6) (eO aC) (bJ _)) (aF (bU (i:=7) qt.nd rfl (Or.inl rfl) (cA BK (hr.mono (by decide)) (by rfl) (aj (pv 0) (aj (pv 1) aC))))
   (aF (bU (i:=8) qt.nd rfl (Or.inl rfl) (QL K6 rfl (hr.mono (by decide)) (by rfl) (aj (aW (bh (K:=K) rfl) (pv 6) (Lx Eh aG) (fun _ _=>rfl)) aC)))
   (aF (cU (PW.pt (pP (gw (dI (cA jt (hr.mono (by decide)) (by rfl) (aj (Lw (K:=K) rfl (pv 8) rfl) (aj (aW (bh (K:=K) rfl) (pv 6) (Lx Eh aG) (fun _ _=>rfl)) aC))))) (lQ (gw (dI (aQ (oE (K:=K) (c:= .ref bL) (cv:= .ref bL) rfl (fun _ h=>h)) (by rfl) Bt.bH bx (aj (pv 8) (aj (gP (v:= .ref bL) (by rfl) fV.bd rfl) aC)))))))) (aK (bK wZ)) bQ)
   (aK (bK (qC (aQ (oE (K:=K) (c:= .ref aX) (cv:= .ref aX) rfl (fun _ h=>h)) (by rfl) Bt.bH bx (aj (pv 7) (aj (gP (v:= .ref aX) (by rfl) d_.bd rfl) aC))) (qy (cA jt (hr.mono (by decide)) (by rfl) (aj (Lw (K:=K) rfl (pv 7) rfl) (aj (aW (bh (K:=K) rfl) (pv 6) aG (fun _ _=>rfl)) aC)))))))))) bQ)
   (aF (bU (i:=9) qt.nd rfl (Or.inl rfl) (cZ nJ aL.cls (hr.mono (by decide)) (pv 0) (aj (pv 1) aC)))
   (aF (wj (bY lU (aW (bh (K:=K) rfl) (pv 5) (pv 1) (fun _ _=>rfl)) aG) (wk (pv 5) (pv 1) set_list))
   (aK (bK (cA jt (hr.mono (by decide)) (by rfl) (aj (pv 9) (aj (jF (aj cV (aj aG (aj aG (aj iZ aC))))) aC)))))))))), ?_⟩
  have lg:=c.gl;have lcs:=c.lc;obtain ⟨eov,gle,g0,gc⟩:=c.over nl;have same:∀H',Same H H'->Q (.bl true) H':=fun H' s'=>k S gs H' (c.same s') (by lia) (F51.of_same s');have eld:cP[n]? = some cP[n]:=List.getElem?_eq_getElem nl;refine ⟨_,rfl,_,rfl,_,_,_,_,rfl,rfl,bN.of c.hg,gF (by lia) (by lia),_,rfl,_,rfl,_,_,_,_,rfl,rfl,bN.of c.hcl,gF (by lia) (by lia),rfl,_,rfl, ?_⟩
  have Yx:gQ S cs gs n=true->mG aB aq ao bD aX K [.ref R.o,.int n] H (fun v H'=>∃(e C:Addr) (fs:List (Str×V)) (b:Bool),[v,.ref bD]=[.ref e,.ref bD]/\XAt H' e C fs/\PySem.W.K3 K C/\PySem.W.kitOne K (.ref C) (.ref bD)=some b/\Q (.bl b) H') E0:=fun eo=>
   ⟨i,ii,τ,R,S,cs,gs,ns,n,rfl,c.r,by lia,by lia,.inl ⟨eo,fun e H' ee s'=>⟨e,_,[],true,rfl,.inl ⟨ee,rfl⟩,fQ.xc,Aj,same H' s'⟩⟩⟩
  by_cases q1:gI gs n=gI cs n
  ·rw [decide_eq_true (by rw [q1])]
   refine gJ (gJ ?_);exact ⟨_,rfl,_,rfl,Yx (by rw [eov,decide_eq_true q1];rfl)⟩
  rw [decide_eq_false (fun z=>q1 (V.int.inj z))];refine dG ?_;refine ⟨_,rfl,_,rfl,_,_,_,_,rfl,rfl,bN.of c.hg,gF (by lia) (by lia),_,rfl,_,rfl,_,_,_,_,rfl,rfl,bN.of c.hL,gD (by rw [List.getElem?_map,eld];rfl),rfl,_,rfl, ?_⟩
  by_cases q2:gI gs n=((cP[n]:Nat):Int)
  ·rw [decide_eq_true (by rw [q2])]
   refine gJ ?_;exact ⟨_,rfl,_,rfl,Yx (by rw [eov,decide_eq_true q2,Bool.or_true])⟩
  rw [decide_eq_false (fun z=>q2 (V.int.inj z))];refine dG ?_;unfold Ql;dsimp only;have eo:gQ S cs gs n=false:=by rw [eov,decide_eq_false q1,decide_eq_false q2];rfl
  clear Yx;refine ⟨_,rfl,_,rfl,_,rfl,sm,g,pY,cs,gs,n,rfl,c.hs,c.HB.1,c.HB.2,c.hg,by lia,by lia,fun l hs H1 fl N1 p1 sr1 s1=> ?_⟩;have eh:=Ij c.pm c.sr p1 sr1;clear p1 sr1;refine ⟨_,rfl,(by show 0<=sizeLine;decide),fun em hem=> ?_⟩;have sem:=aH (o:=HO.lst []) hem;have s2:=s1.trans sem;have eem:(upd H1 em (.lst [])) em=some (.lst []):=ak;have N2:=N1.same sem;generalize (upd H1 em (.lst []))=H2 at sem s2 eem N2 ⊢;obtain ⟨ws,el,dw⟩:=id N2;have c2:=c.same s2;refine ⟨_,_,oh el dw,oh eem (ds:=([]:List Nt).map nD) (by simp [aR]),pA _,pA _,_,rfl, ?_⟩;rw [if_pos rfl,qJ nD Sg];have wl:ws.length=hs.length:=by rw [dw.length,List.length_map]
  cases hs with
  | cons x0 xr=>
    rw [decide_eq_false (by simp)];refine gJ ?_;refine ⟨_,rfl,_,rfl,i,ii,τ,R,S,cs,gs,ns,n,rfl,c2.r,by lia,by lia,.inr ⟨x0,eo,by rw [←eh];rfl,fun e d p H3 ee hd dp s3=> ?_⟩⟩
    obtain ⟨ws',v,rfl⟩:∃ws' v,ws=ws'++[v]:=by
     have hn:ws≠[]:=fun z=>by rw [z] at wl;simp at wl
     exact ⟨ws.dropLast,ws.getLast hn,(List.dropLast_concat_getLast hn).symm⟩
    obtain ⟨t,xl,rfl,_,ht⟩:=Fp dw (v:=v) (by simp);obtain ⟨y0,t0,ey,ev0,ht0⟩:=uV dw (i:=0) (v:=(ws'++[V.ref t])[0]'(by simp)) (by rw [List.getElem?_eq_getElem]);obtain rfl:x0=y0:=by simpa using ey
    have aj6:(ws'++[V.ref t])[0]? = some (.ref t0):=by rw [←ev0,List.getElem?_eq_getElem]
    have el3:=s3 _ _ el;refine ⟨_,rfl,_,rfl,_,_,_,_,rfl,rfl,bN.of el3,Jk _ _,(by show 1<=sizeLine;decide),fun e4 he4=>⟨e4,.ref t,rfl,ak,fun d4 hd4=>⟨rfl,d4,_,Dm ?_, ?_⟩⟩⟩
    ·intro z
     rw [z,ak] at hd4;cases hd4
    have nd:d4≠e4:=fun z=>by rw [z,ak] at hd4;cases hd4
    rw [aD nd] at hd4;have sd:=aH (o:=HO.xd [("note",V.ref t)]) hd4;have ajU:(upd H3 d4 (.xd [("note",V.ref t)])) e4=none:=by rw [aD nd.symm];exact he4
    have se:=aH (o:=XO aX (some d4) e4) ajU;have s34:=sd.trans se;have ee4:(upd (upd H3 d4 (.xd [("note",V.ref t)])) e4 (XO aX (some d4) e4)) e4=some (XO aX (some d4) e4):=ak;have ed4:=se _ _ (ak (H:=H3) (a:=d4) (o:=HO.xd [("note",V.ref t)]));generalize (upd (upd H3 d4 (.xd [("note",V.ref t)])) e4 (XO aX (some d4) e4))=H4 at s34 ee4 ed4 ⊢;have s24:=s3.trans s34;have el4:=s24 _ _ el;have ht4:=s24 _ _ ht;refine ⟨_,rfl,e4,aX,d4,_,_,rfl,ee4,ed4,d_.xc,d_.dc,d_.na,rfl,_,rfl,_,rfl,_,_,_,_,rfl,rfl,bN.of el4,Jk _ _,_,_,_,rfl,ud ht4,ud ht4,WW xl,fun H5 s5=> ?_⟩;have Yu:=s24.trans s5;refine ⟨_,rfl,dG ?_⟩;refine ⟨_,rfl,e4,_,_,true,rfl,.inr ⟨d4,s5 _ _ ee4,s5 _ _ ed4⟩,d_.xc,pJ fV.hd eE,_,rfl,dG ?_⟩;dsimp only;have s35:=s34.trans s5;have ee5:=s35 _ _ ee;have hd5:=s35 _ _ hd;refine ⟨_,rfl,e,_,_,true,rfl,.inr ⟨d,ee5,hd5⟩,d_.xc,Aj,_,rfl,gJ ?_⟩;exact ⟨_,rfl,e,aX,d,_,_,rfl,ee5,hd5,d_.xc,d_.dc,d_.na,rfl,_,rfl,_,_,_,_,rfl,rfl,bN.of (Yu _ _ el),gD (j:=0) aj6,_,_,_,rfl,dp.same s35 _,ud (Yu _ _ ht0),WW x0,fun H6 s6=>same H6 ((s2.trans Yu).trans s6)⟩
  | nil=>
    rw [decide_eq_true rfl];refine dG ?_;dsimp only;have er:(yj cP)[n]? = some (List.replicate cP[n] 0):=Qt nl;obtain ⟨gn,egn⟩:=Int.eq_ofNat_of_zero_le g0
    have hc':(List.replicate cP[n] 0)[(gI gs n).toNat]? = some 0:=by
     rw [List.getElem?_replicate,if_pos (by lia)]
    obtain ⟨⟨s0,es0,er0⟩,G'⟩:=c.G.turn er hc';have inn:xH (n:Int) cs.length:=⟨by lia,by lia⟩;have one:∀k':Nat,(n:Int)=k'->k'=n:=fun k' e=>by lia
    refine ⟨_,rfl,R.o,R.dx,_,rfl,c2.r.o,rfl,_,rfl,i,ii,τ,R,S,cs,gs,ns,n,rfl,c2.r,by lia,fun k' x p d H' e1 e2 e3 e4=>absurd e4 (by rw [one k' e1,←eh];simp),fun k' s' r' t' H3 e1 e2 e3 e3' e4 wt e5 tr tf tk r3 st3=> ?_,fun z=>absurd inn z,fun k' e1 e2 e3=>absurd e3 (by rw [one k' e1,eo];decide)⟩;obtain rfl:=one k' e1;rw [es0] at e4;cases e4;rw [er0] at e5;cases e5;obtain ⟨Hm,Yl,stb⟩:=st3;have mv3:∀m,m≠i->m≠ii->Mv m τ H2 τ H3:=fun m h1 h2=>(Mv.m_ Yl (fun z=>h1 z.symm) c.r.w.i0).trans (Mv.m_ stb (fun z=>h2 z.symm) c.r.n0);have z1:(0:Nat)≠i:=fun z=>c.r.w.i0 z.symm;have z2:(0:Nat)≠ii:=fun z=>c.r.n0 z.symm;have L3:=((mv3 0 z1 z2).keep _ _ c2.hL (.inl c.tL)).1;have cl3:=((mv3 0 z1 z2).keep _ _ c2.hcl (.inl c.tc)).1;obtain ⟨vs0,hv0,dv0⟩:=c2.hs;have sm3:=((mv3 0 z1 z2).keep _ _ hv0 (.inl c.ts)).1;have dv3:aR H3 vs0 (pY.map nD):=aR.keep (mv3 0 z1 z2).tup _ (cg _ jH _) dv0;have g3:=((mv3 9 (fun z=>c.i9 z.symm) (fun z=>c.ii9 z.symm)).keep _ _ c2.hg (.inr (by rw [c.tg];rfl))).1;refine ⟨_,rfl,_,rfl,_,_,_,_,rfl,rfl,bN.of g3,gF (by lia) (by lia),_,_,rfl,rfl,_,rfl,_,rfl,g,_,_,_,rfl,rfl,g3,Ml (by lia) (by rw [List.length_map];lia), ?_⟩
    have em':(gs.map V.int).set ((k':Int)).toNat (.int (gI gs k'+1))=(jh gs k').map V.int:=by
     unfold jh;rw [List.map_set,Int.toNat_natCast]
    rw [em'];have st9:p8 9 τ H3 (upd H3 g (.lst ((jh gs k').map V.int))):=p8.set (by rw [c.tg];rfl) g3 (by intro xs z;cases z);have hg4:(upd H3 g (.lst ((jh gs k').map V.int))) g=some (.lst ((jh gs k').map V.int)):=ak;generalize (upd H3 g (.lst ((jh gs k').map V.int)))=H4 at st9 hg4 ⊢;have un4:=st9.un r3.w.un;have mv4:∀m,m≠9->Mv m τ H3 τ H4:=fun m hm=>Mv.m_ st9 (fun z=>hm z.symm) (by decide);have c4:C52 aB aq ao i ii τ H4 R (kW S k') cs (jh gs k') cP lost ns pY L cl sm g:=⟨r3.mv (mv4 i c.i9) (mv4 ii c.ii9) un4,G',((mv4 0 (by decide)).keep _ _ L3 (.inl c.tL)).1,c.tL,c.n8,((mv4 0 (by decide)).keep _ _ cl3 (.inl c.tc)).1,c.tc,⟨vs0,((mv4 0 (by decide)).keep _ _ sm3 (.inl c.ts)).1,aR.keep (mv4 0 (by decide)).tup _ (cg _ jH _) dv3⟩,c.ts,hg4,c.tg,c.lc,c.i9,c.ii9,c.pm,c.sr⟩;have tS:(kW S k').ts.length<=S.ts.length+1:=by rw [G_ es0 er0];simp
    refine ⟨_,rfl,(by show 4<=sizeLine;decide),fun p hp=> ?_⟩;have sp:=aH (o:=HO.tup [V.str "load",V.int 0,V.int 0,V.non]) hp
    have dp:Dat (upd H4 p (.tup [V.str "load",V.int 0,V.int 0,V.non])) (.ref p) (Ei S.ns s0.bs (.load 0 0)):=by
     refine Dy ?_;rw [ak];show _=some (HO.tup [V.str "load",V.int ((0:Nat):Int),oV (S.ns[0]?),V.non]);rw [c.G.nums];rfl
    refine ⟨_,_,_,rfl,Dy (sp _ _ ((mv4 0 (by decide)).tup _ _ tk)),dp,QF _ _ _,fun H5 s5=> ?_⟩;have F:F51 i ii τ H H5:=((((F51.of_same s2).trans (F51.stp Yl (.inl rfl) c.r.w.i0)).trans (F51.stp stb (.inr (.inl rfl)) c.r.n0)).trans (F51.stp st9 (.inr (.inr rfl)) (by decide))).trans (F51.of_same (sp.trans s5));exact k _ _ H5 (c4.same (sp.trans s5)) tS F
theorem RT.drawn {τ:Tg} {H:Hp} {r D:Addr} {n:Nat} {m:Int} {te:TE} {Q:VK} {rest:St} (T:RT τ H r) (hD:H D=none) (hn:n<=10000)
 (hte:∀(v:Option V) (Hd:Hp) (F:VK),je Hd r->(∀(y:Int) (H':Hp),0<=y->y<m->je H' r->KR r Hd H'->F (.int y) H')->te (v::rest) Hd F)
 (k:∀(xs:List Nat) (H':Hp),xs.length=n->(∀c∈xs,(c:Int)<m)->H' D=some (.lst (xs.map fun c:Nat=>V.int c))->RT (aO τ D [0]) H' r->(∀x o,H x=some o->τ x≠[]->H' x=some o)->(∀x xs,H x=some (.tup xs)->H' x=some (.tup xs))->Kp r H H'->Q (.ref D) H'):mz (Uc 0 n) (gR 0) BP te Q D (none::rest) H:=by
 have sD:=aH (o:=HO.lst []) hD;have nDr:D≠r:=T.R.ne hD;have TD:=T.claim (t:=[0]) sD hD ⟨_,ak⟩;have tD:aO τ D [0] D=[0]:=bI;have tg:∀x u,H x=some u->aO τ D [0] x=τ x:=fun x u e=>aP (au e hD);generalize aO τ D [0]=τd at TD tD tg k;refine uf (lo:=0) (n:=n) (fun i σ Hd=>∃(v:Option V) (xs:List Nat),σ=v::rest/\RT τd Hd r/\Hd D=some (.lst (xs.map fun c:Nat=>V.int c))/\xs.length=i/\(∀c∈xs,(c:Int)<m)/\(∀x o,H x=some o->τ x≠[]->Hd x=some o)/\(∀x xs,H x=some (.tup xs)->Hd x=some (.tup xs))/\Kp r H Hd) ?_ ?_ ?_
 ·exact ⟨none,[],rfl,TD,ak,rfl,by simp,fun x o e _=>sD _ _ e,sD.tups,Kp.of_same sD⟩
 ·rintro i σ Hd hi ⟨v,xs,rfl,Td,RM,ld,od,kd,td,kpd⟩
  dsimp only [gR,BP];rw [if_pos rfl];refine hte _ Hd _ Td.R (fun y H3 y0 y1 R3 k3=> ?_);have T3:=Td.draw k3 R3;have hD3:=Td.keep k3 RM (by rw [tD];simp);obtain ⟨y,rfl⟩:=Int.eq_ofNat_of_zero_le y0;refine ⟨_,hD3,(by rw [List.length_map,sizeLine_eq];lia),_,xs++[y],rfl,T3.set hD3 (by rw [tD];simp),by rw [ak,List.map_append];rfl,by simp [ld], ?_,fun x o e t=> ?_,fun x ys e=> ?_,fun x o e n'=> ?_⟩
  ·intro c hc
   rcases List.mem_append.mp hc with hc|hc
   ·exact od c hc
   ·rw [List.mem_singleton.mp hc];exact y1
  ·rw [aD (au e hD)]
   exact Td.keep k3 (kd x o e t) (by rw [tg x o e];exact t)
  ·rw [aD (au e hD)]
   exact k3.tups Td.R _ _ (td x ys e)
  ·rw [aD (au e hD)]
   exact k3.1 _ _ (kpd x o e n') n'
 ·rintro σ Hd ⟨v,xs,rfl,Td,RM,ld,od,kd,td,kpd⟩
  exact k xs Hd ld od RM Td kd td kpd
theorem Hg {K:PySem.W.Frag} {H H':Hp} {a:Addr} {xs:List V} (h:bN K H a xs) (k:∀o,H a=some o->H' a=some o):bN K H' a xs:=by
 rcases h with (h|⟨o,h⟩)|h
 ·exact .inl (.inl (k _ h))
 ·exact .inl (.inr ⟨o,k _ h⟩)
 ·exact .inr h
theorem rep1 (v:V):∀n:Nat,(List.replicate n [v]).flatten=List.replicate n v
 | 0=>rfl
 | n+1=>by rw [List.replicate_succ,List.flatten_cons,rep1 v n,List.replicate_succ];rfl
theorem IK {H:Hp} {v:V} {d:PyData} (h:Dat H v d):∀n:Nat,aR H (List.replicate n v) (List.replicate n d)
 | 0=>by simp [aR]
 | n+1=>by
   rw [List.replicate_succ,List.replicate_succ];simp only [aR];exact ⟨h,IK h n⟩
theorem Yw {H:Hp} {q p1 p3:Addr} {n:Nat} {b:Bool} (h:H q=some (.lst (List.replicate n (.ref p1)++if b then [.ref p3] else []))) (h1:H p1=some (.tup [.str "load",.str (O1 0),.int (0:Nat)])) (h3:H p3=some (.tup [.str "go",.int n])) (hn:n<=31):fU H q 1 (fK (List.replicate n 0) b):=by
 refine ⟨_,h, ?_, ?_, ?_⟩
 ·unfold fK
  rw [List.map_append,List.map_map,List.map_replicate];refine aR.append (IK (Sx h1) n) ?_;cases b with
  | false=>exact trivial
  | true=>
    rw [List.length_replicate];exact Mw (Z7 h3)
 ·intro x hx
  unfold fK at hx;rcases List.mem_append.mp hx with hx|hx
  ·obtain ⟨c,hc,rfl⟩:=List.mem_map.mp hx
   rw [(List.mem_replicate.mp hc).2];exact ⟨by decide,by decide⟩
  ·cases b with
   | false=>simp at hx
   | true=>
     rw [if_pos rfl] at hx;rw [List.mem_singleton.mp hx];trivial
 ·unfold fK
  rw [List.length_append,List.length_map,List.length_replicate];split<;>simp<;>lia
theorem Dp {CR CW CH:Addr} {i ii:Nat} {τ:Tg} {H:Hp} {R:Jv} {S:nP} {cs gs:List Int} {cP:List Nat} {lost:List Bool} {ns pY:List Nt} {L cl sm g:Addr} (c:C52 CR CW CH i ii τ H R S cs gs cP lost ns pY L cl sm g):n_ S cs ns gs=(List.range cP.length).filter fun k:Nat=>(decide (gI gs k<gI cs k)&&decide (gI gs k<((cP[k]?).getD 0:Nat)))&&(pY.filter (jw gs k)).isEmpty:=by
 unfold n_;rw [c.lc];refine List.filter_congr fun k hk=> ?_;have kl:=List.mem_range.mp hk;obtain ⟨e1,e2,e3,e4⟩:=c.over kl;have el:cP[k]? = some cP[k]:=List.getElem?_eq_getElem kl
 have eh:(jd ns gs k).isEmpty=(pY.filter (jw gs k)).isEmpty:=by
  rw [Am];have:=(c.pm.filter (jw gs k)).length_eq;cases h1:ns.filter (jw gs k)<;>cases h2:pY.filter (jw gs k)<;>rw [h1,h2] at this<;>first |rfl|(simp at this)
 rw [e1,eh,el];congr 1;show (!(decide (gI gs k=gI cs k)||decide (gI gs k=((cP[k]:Nat):Int))))=(decide (gI gs k<gI cs k)&&decide (gI gs k<((cP[k]:Nat):Int)))
 by_cases q1:gI gs k=gI cs k
 ·rw [decide_eq_true q1,decide_eq_false (show ¬gI gs k<gI cs k by lia)];rfl
 ·rw [decide_eq_false q1,decide_eq_true (show gI gs k<gI cs k by lia)]
  by_cases q2:gI gs k=((cP[k]:Nat):Int)
  ·rw [decide_eq_true q2,decide_eq_false (by lia)];rfl
  ·rw [decide_eq_false q2,decide_eq_true (by lia)];rfl
theorem RQ {cP:List Nat} {lost:List Bool} (hl:lost.length=cP.length):K7 (Gu 1 [0] (List.zipWith fK (yj cP) lost)) [0] (yj cP) lost (List.replicate cP.length 0):=by
 have gz:∀k:Int,gI (List.replicate cP.length 0) k=0:=fun k=>by
  unfold gI;rw [List.getElem?_replicate];split<;>rfl
 have lr:(yj cP).length=cP.length:=by unfold yj;rw [List.length_map]
 refine ⟨by show ((List.zipWith fK (yj cP) lost).map _).length=_;rw [List.length_map,List.length_zipWith];lia,by lia,rfl,by simp [lr],fun kk s' row b h1 h2 h3=>⟨0,gz _, ?_⟩,fun kk _=>by rw [gz];rfl,fun row hr c hc=> ?_⟩
 ·have e1:(Gu 1 [0] (List.zipWith fK (yj cP) lost)).hs[kk]? = some (lead (new (fK row b))):=by
   show ((List.zipWith fK (yj cP) lost).map fun rs=>lead (new rs))[kk]? = _;rw [List.getElem?_map,List.getElem?_zipWith,h2,h3];rfl
  rw [e1] at h1;cases h1;exact Zm _ _ _
 ·unfold yj at hr
  obtain ⟨n,_,rfl⟩:=List.mem_map.mp hr;rw [(List.mem_replicate.mp hc).2];decide
def Lg (K:PySem.W.Frag):Sp:=fun vs H Q _=>∃(a:Addr) (ns:List Int),vs=[.ref a]/\bN K H a (ns.map V.int)/\ns.length<=63 /\ ∀H',Q (.bl true) H'
theorem Y8 {aB aq ao aV aY:Addr} {f:Addr} {fd:FuncData} (F:kO K "law" "law" uQ f fd) (aL:eF K aB) (Wn:FnAt P w K mg base 1 "_law_reel" ["script"] (El K)) (gG:FnAt P w K mg base 1 "_law_draw" ["reel","many"] (uI K)) (TJ:FnAt P w K mg base 3 "_law_notes" ["reel","counts"] (vW K)) (Tv:qR P w K mg base 7 aq "Works" ["self","program","cells"] [.non] (fun vs H Q _=>rm aq ao aY K vs H Q fun _ _ _=>False)) (Tz:qR P w K mg base 10 aB "Replay" ["self","works","record"] [] (fun vs H Q _=>Em aB aq ao aV K vs H Q fun _ _ _=>False)) (M7:FnAt P w K mg base 2 "_law_free" ["loads","counts","some","gone"] (zJ K)) (su:MethAt P w K mg base 6 aB "free" ["self"] (En aB aq ao K)) (pR:MethAt P w K mg base 1 aB "counts" ["self"] (vV aB aq ao K)) (Cq:MethAt P w K mg base 1 aB "done" ["self"] (Eo aB aq ao K)) (wU:MethAt P w K mg base 2 aB "__len__" ["self"] (JG aB aq ao K)) (jt:FnAt P w K mg base 5 "_law_alike" ["found","due"] (jR 4 K)) (Wm:FnAt P w K mg base 10 "_law_step" ["one","hand","loads","counts","some","gone"] (zF aB aq ao K)) (Bt:um mg):bZ P w K mg base kY 12 f fd ["script"] (Lg K):=by
 refine F.ok lM (fun vs H Q E h=> ?_) (fun cdv A outer s H vs Q E hr h=> ?_)
 ·obtain ⟨a,ns,rfl,_⟩:=h
  rfl
 ·obtain ⟨sc,pY,rfl,hs0,hlen,k⟩:=h
  have xT:=hr.units
  refine ⟨_,(aF (bU (i:=1) lM.nd rfl (Or.inr rfl) (cA Wn (hr.mono (by decide)) (by rfl) (aj (pv 0) aC)))
   (aF (bU (i:=2) lM.nd rfl (Or.inr rfl) (aW (bh (K:=K) rfl) (eO (aj aG (aj aG aC))) (eV wL (by rfl) Bt.Jh Bf (aj (gB h_ (cA gG (hr.mono (by decide)) (by rfl) (aj (pv 1) (aj aG aC))) aG (bJ _)) aC)) (fun _ _=>rfl)))
   (aF (pC (i:=3) rfl lM.nd rfl (Or.inl rfl) (N:=["k","reel","most"]) (own:=["k"]) (caps:=[1,2]) (bC.of (by kernel_rfl)) (jc (by rfl) Bt.lF (aj (bY lU aG (cA gG (hr.mono (by decide)) (by rfl) (aj (pv 1) (aj aG aC)))) aC)) (fun _ _ _ _=>(bW (i:=0) (show List.Nodup (["k","reel","most"]:List Str) by decide +kernel) rfl (Or.inl rfl))) (fun _ _ _ _=>fM) (fun _ _ _ _=>(cA gG (hr.mono (by decide)) (by rfl) (aj (pv 1) (aj (pv 2) aC)))))
   (aF (pC (i:=4) rfl lM.nd rfl (Or.inl rfl) (N:=["load","reel","most"]) (own:=["load"]) (caps:=[1,2]) (bC.of (by kernel_rfl)) (dW (K:=K) rfl (pv 3)) (fun _ _ _ _=>(bW (i:=0) (show List.Nodup (["load","reel","most"]:List Str) by decide +kernel) rfl (Or.inl rfl))) (fun _ _ _ _=>fM) (fun _ _ _ _=>(cA gG (hr.mono (by decide)) (by rfl) (aj (pv 1) (aj (bY lU (pv 2) aG) aC)))))
   (aF (bU (i:=5) lM.nd rfl (Or.inl rfl) (cA TJ (hr.mono (by decide)) (by rfl) (aj (pv 1) (aj (pv 4) aC))))
   (aF (bU (i:=6) lM.nd rfl (Or.inl rfl) (jF (aj (eV (dH (K:=K) rfl) (by rfl) Bt.jL iB (aj (pv 4) aC)) (aj (eV (dH (K:=K) rfl) (by rfl) Bt.jL iB (aj (pv 5) aC)) aC))))
   (aF (pC (i:=7) rfl lM.nd rfl (Or.inl rfl) (N:=["load","reel"]) (own:=["load"]) (caps:=[1]) (bC.of (by kernel_rfl)) (dW (K:=K) rfl (pv 3)) (fun _ _ _ _=>(bW (i:=0) (show List.Nodup (["load","reel"]:List Str) by decide +kernel) rfl (Or.inl rfl))) (fun _ _ _ _=>fM) (fun _ _ _ _=>(bY J0 (bY Fd (eO (aj (jF (aj cV (aj cV (aj aG aC)))) aC)) (pv 0)) (bY Fd (eO (aj (jF (aj cV (aj (pv 0) aC))) aC)) (eV wL (by rfl) Bt.Jh Bf (aj (gB h_ (cA gG (hr.mono (by decide)) (by rfl) (aj (pv 1) (aj aG aC))) aG (bJ _)) aC))))))
   (aF (bU (i:=8) lM.nd rfl (Or.inl rfl) (qz Tz (hr.mono (by decide)) (by rfl) (aj (qz Tv (hr.mono (by decide)) (by rfl) (aj (jF (aj aG (aj (pv 7) aC))) aC)) (aj (pv 6) aC))))
   (aF (fO (Vi (K:=K) rfl PySem.F.plainAttrs_list PySem.F.slot_list_clear PySem.F.type_list_clear Rm (aW (aZ (K:=K) rfl) (pv 6) aG (fun _ _=>rfl))))
   (aF (bU (i:=9) lM.nd rfl (Or.inl rfl) (bY Fd (eO (aj aG aC)) (aQ (bw (K:=K) rfl) (by rfl) Bt.gK dR (aj (pv 3) aC))))
   (aF (tU PassesOwn.never rfl (jc (by rfl) Bt.lF (aj (bY lU aG (aQ (DN rfl) (by rfl) Bt.Xq S_ (aj (aQ (bw (K:=K) rfl) (by rfl) Bt.gK dR (aj (pv 0) aC)) (aj aG aC)))) aC)) (bW (i:=10) lM.nd rfl (Or.inl rfl))
   (aF (cU (gw (dI (cA jt (hr.mono (by decide)) (by rfl) (aj (eO (aj (fP su aL.cls (hr.mono (by decide)) (pv 8)) (aj (fP pR aL.cls (hr.mono (by decide)) (pv 8)) aC))) (aj (eO (aj (cA M7 (hr.mono (by decide)) (by rfl) (aj (pv 3) (aj (pv 4) (aj (pv 5) (aj (pv 9) aC))))) (aj (pv 9) aC))) aC))))) (aK (bK wZ)) bQ)
   (aF (cU (PW.pt (pP (bM rT (aQ (OD wU (hr.mono (by decide))) (by rfl) Bt.gK dR (aj (pv 8) aC)) (bY Ab (aQ (DK (K:=K) rfl rfl) (by rfl) Bt.Xp S8 (aj (pv 4) aC)) (aQ (DK (K:=K) rfl rfl) (by rfl) Bt.Xp S8 (aj (pv 9) aC))) (bJ _)) (lQ (gw (dI (cA jt (hr.mono (by decide)) (by rfl) (aj (fP Cq aL.cls (hr.mono (by decide)) (pv 8)) (aj (gB (Fj (K:=K) rfl xT) (pv 9) (pv 4) (bJ _)) aC)))))))) (aK (bK wZ)) bQ)
   (aK (cU (gw (dI (cA Wm (hr.mono (by decide)) (by rfl) (aj (pv 8) (aj (cA gG (hr.mono (by decide)) (by rfl) (aj (pv 1) (aj (aQ (bw (K:=K) rfl) (by rfl) Bt.gK dR (aj (pv 3) aC)) aC))) (aj (pv 3) (aj (pv 4) (aj (pv 5) (aj (pv 9) aC))))))))) (aK (bK wZ)) bQ)))))
   (aK (bK (cA jt (hr.mono (by decide)) (by rfl) (aj (eO (aj (fP su aL.cls (hr.mono (by decide)) (pv 8)) (aj (fP pR aL.cls (hr.mono (by decide)) (pv 8)) aC))) (aj (eO (aj (cA M7 (hr.mono (by decide)) (by rfl) (aj (pv 3) (aj (pv 4) (aj (pv 5) (aj (pv 9) aC))))) (aj (pv 9) aC))) aC)))))))))))))))), ?_⟩
  refine ⟨_,rfl,sc,pY,rfl,hs0,hlen,fun r H1 hr0 R1 s1=> ?_⟩;have T1:RT (fun _=>[]) H1 r:=⟨R1,fun x o e t=>absurd rfl t,fun _ _=>rfl⟩;refine ⟨(by show 2<=sizeLine;decide),fun q hq=> ?_⟩;have sq:=aH (o:=HO.lst [V.int 7,V.int 31]) hq;have T1':=T1.same sq;refine ⟨_,rfl,r,6,rfl,T1'.R,by decide,by decide,fun z H2 z0 z1 R2 k2=>⟨rfl,.inr ⟨_,rfl, ?_⟩⟩⟩;have T2:=T1'.draw k2 R2;have nqr:q≠r:=T1.R.ne hq;have eq2:=k2.1 _ _ (ak (H:=H1) (a:=q) (o:=HO.lst [V.int 7,V.int 31])) nqr
  obtain ⟨mo,emo,mo0,apT⟩:∃mo:Nat,KZ [V.int 7,V.int 31] (if decide (V.int z=V.int 0)=true then (1:Int) else 0)=some (.int mo)/\0<mo/\mo<=31:=by
   split
   ·exact ⟨31,rfl,by decide,by decide⟩
   ·exact ⟨7,rfl,by decide,by decide⟩
  refine ⟨_,_,_,_,rfl,rfl,bN.of eq2,emo, ?_⟩;have kp2:Kp r H1 H2:=(Kp.of_same sq).trans k2.1;refine ⟨_,rfl,r,7,rfl,T2.R,by decide,by decide,fun y H3 y0 y1 R3 k3=>⟨_,_,rfl,rfl,_,rfl,by lia,by lia,fun L hL=> ?_⟩⟩;have T3:=T2.draw k3 R3;refine T3.drawn (n:=(2+y).toNat) (m:=mo) hL (by lia) (fun v Hd F Rd kF=>⟨_,rfl,_,rfl,r,mo,rfl,Rd,by lia,by lia,fun y H' y0 y1 R' k'=>kF y H' y0 y1 R' k'⟩) (fun cP H4 ll ol eL T4 kd4 td4 yr=> ?_);have lp:0<cP.length:=by lia
  have l8:cP.length<=8:=by lia
  have tL:aO (fun _=>[]) L [0] L=[0]:=bI;have ai_:Kp r H1 H4:=(kp2.trans k3.1).trans yr;clear ll kd4 td4;generalize aO (fun _=>[]) L [0]=τ4 at T4 tL;refine ⟨_,rfl,L,rfl,⟨_,bN.of eL⟩,fun cl hcl=> ?_⟩;refine T4.Z6 (K:=K) (m:=(mo:Int)+2) (val:=V.int) hcl eL (by rw [tL];simp) (by rw [List.length_map];lia) (fun v Hd τd F Td kF=>⟨_,rfl,_,rfl,_,_,rfl,rfl,r,(mo:Int)+2,rfl,Td.R,by lia,by lia,fun y H' y0 y1 R' k'=>kF y H' y0 y1 (Td.draw k' R') (.draw Td k')⟩) (fun cs H5 lcs ocs ecl T5 d5=> ?_);rw [List.length_map] at lcs;have eL5:=d5.k _ _ eL (by rw [tL];simp);have tL5:aO τ4 cl [0] L=[0]:=by rw [aP (au eL hcl)];exact tL
  have tcl:aO τ4 cl [0] cl=[0]:=bI;have ai9:=ai_.trans d5.p;clear d5;generalize aO τ4 cl [0]=τ5 at T5 tL5 tcl;have acX:Js cs:=⟨by lia,fun c hc=>by have:=ocs c hc;lia⟩;refine ⟨_,rfl,_,rfl,r,cl,τ5,cs,rfl,T5,ecl,tcl,acX,fun sm ns H6 fsm N6 nl HB T6 d6=> ?_⟩;have eL6:=d6.k _ _ eL5 (by rw [tL5];simp);have Z4:=d6.k _ _ ecl (by rw [tcl];simp);have tL6:aO τ5 sm [0] L=[0]:=by rw [aP (au eL5 fsm)];exact tL5
  have aa5:aO τ5 sm [0] cl=[0]:=by rw [aP (au ecl fsm)];exact tcl
  have XS:aO τ5 sm [0] sm=[0]:=bI;have abW:=ai9.trans d6.p;clear d6;generalize aO τ5 sm [0]=τ6 at T6 tL6 aa5 XS;obtain ⟨vs,esm,dsm⟩:=N6;have vl:vs.length=ns.length:=by rw [dsm.length,List.length_map]
  refine ⟨_,rfl,cl,_,rfl,.inl (bN.of Z4),fun c2 hc2=> ?_⟩;have sc2:=aH (o:=HO.lst (cs.map V.int)) hc2;refine ⟨_,rfl,sm,_,rfl,.inl (bN.of (sc2 _ _ esm)),fun e2 he2=>⟨(by show 2<=sizeLine;decide),fun t ht=> ?_⟩⟩;have se2:=aH (o:=HO.lst vs) he2;have st:=aH (o:=HO.tup [V.ref c2,V.ref e2]) ht;have Sc:Same H6 (upd (upd (upd H6 c2 (.lst (cs.map V.int))) e2 (.lst vs)) t (.tup [V.ref c2,V.ref e2])):=(sc2.trans se2).trans st;have ec2:=st _ _ (se2 _ _ (ak (H:=H6) (a:=c2) (o:=HO.lst (cs.map V.int))));have ee2:=st _ _ (ak (H:=upd H6 c2 (.lst (cs.map V.int))) (a:=e2) (o:=HO.lst vs));have et:(upd (upd (upd H6 c2 (.lst (cs.map V.int))) e2 (.lst vs)) t (.tup [V.ref c2,V.ref e2])) t=some (.tup [V.ref c2,V.ref e2]):=ak;have fe2:H6 e2=none:=sc2.free he2;have nce:c2≠e2:=au (ak (H:=H6) (a:=c2) (o:=HO.lst (cs.map V.int))) he2;generalize (upd (upd (upd H6 c2 (.lst (cs.map V.int))) e2 (.lst vs)) t (.tup [V.ref c2,V.ref e2]))=H7 at Sc ec2 ee2 et ⊢;have T7:=T6.claim (t:=[12]) Sc fe2 ⟨_,ee2⟩;have te2:aO τ6 e2 [12] e2=[12]:=bI;have tL7:aO τ6 e2 [12] L=[0]:=by rw [aP (au eL6 fe2)];exact tL6
  have X6:aO τ6 e2 [12] cl=[0]:=by rw [aP (au Z4 fe2)];exact aa5
  have XR:aO τ6 e2 [12] sm=[0]:=by rw [aP (au esm fe2)];exact XS
  have aiu:c2≠r:=T6.R.ne hc2;have apz:sm≠r:=(T6.off _ _ esm (by rw [XS];simp)).1;have aqk:τ6 c2=[]:=T6.un c2 hc2;generalize aO τ6 e2 [12]=τ7 at T7 te2 tL7 X6 XR;have eL7:=Sc _ _ eL6;have akh:=Sc _ _ Z4;have aj8:=Sc _ _ esm;have ako:aR H7 vs (ns.map nD):=dsm.same Sc _;have ai8:Kp r H1 H7:=abW.trans (Kp.of_same Sc);clear sc2 se2 st;refine ⟨_,rfl,L,rfl,⟨_,bN.of eL7⟩,fun D hD=> ?_⟩;have sD:=aH (o:=HO.lst []) hD;have TD:=T7.claim (t:=[0]) sD hD ⟨_,ak⟩;have tD:aO τ7 D [0] D=[0]:=bI;have tgD:∀x u,H7 x=some u->aO τ7 D [0] x=τ7 x:=fun x u e=>aP (au e hD);have nDr:D≠r:=T7.R.ne hD;generalize aO τ7 D [0]=τ8 at TD tD tgD;refine jJ (K:=K) (xs:=cP.map fun n:Nat=>V.int n) (fun j σ Hc=>∃(v:Option V) (qs:List Addr) (lost:List Bool),σ=[v,some (.ref r)]/\qs.length=j/\lost.length=j/\RT τ8 Hc r/\Kp r H7 Hc/\Hc D=some (.lst (qs.map V.ref)) /\ ∀(kk:Nat) (q:Addr) (n:Nat) (b:Bool),qs[kk]? = some q->cP[kk]? = some n->lost[kk]? = some b->q≠D/\q≠r/\fU Hc q 1 (fK (List.replicate n 0) b)) ?_ ?_ ?_ ?_
  ·exact ⟨none,[],[],rfl,rfl,rfl,TD,Kp.of_same sD,ak,fun kk q n b e=>by simp at e⟩
  ·rintro i σ Hc _ ⟨v,qs,lost,rfl,lq,lb,Tc,kpc,eDc,hq⟩
   exact bN.of (kpc _ _ eL7 (T7.off _ _ eL7 (by rw [tL7];simp)).1)
  ·rintro i x σ Hc hi ⟨v,qs,lost,rfl,lq,lb,Tc,kpc,eDc,hq⟩
   rw [List.getElem?_map] at hi
   obtain ⟨n,en,rfl⟩:∃n:Nat,cP[i]? = some n/\x = .int n:=by
    cases e:cP[i]? with
    | none=>rw [e] at hi;cases hi
    | some q=>rw [e] at hi;exact ⟨q,rfl,(Option.some.inj hi).symm⟩
   have n31:n<31:=by have:=ol n (List.mem_of_getElem? en);lia
   have il:=(List.getElem?_eq_some_iff.mp en).1;dsimp only [gR,BP];rw [if_pos rfl];refine ⟨(by show 3<=sizeLine;decide),fun p1 hp1=>⟨(by show 1<=sizeLine;decide),fun q1 hq1=>⟨_,rfl, ?_⟩⟩⟩;have Yo:=aH (o:=HO.tup [V.str "load",V.str "a",V.int 0]) hp1;have sq1:=aH (o:=HO.lst [V.ref p1]) hq1;refine ⟨q1,_,_,rfl,rfl,ak,by lia,by lia,by rw [sizeLine_eq];simp;lia,fun q2 hq2=> ?_⟩;rw [Int.toNat_natCast,rep1];have sq2:=aH (o:=HO.lst (List.replicate n (V.ref p1))) hq2;have ep1:=sq2 _ _ (sq1 _ _ (ak (H:=Hc) (a:=p1) (o:=HO.tup [V.str "load",V.str "a",V.int 0])));have acJ:(upd (upd (upd Hc p1 (.tup [V.str "load",V.str "a",V.int 0])) q1 (.lst [V.ref p1])) q2 (.lst (List.replicate n (V.ref p1)))) q2=some (.lst (List.replicate n (V.ref p1))):=ak;have Sa:=(Yo.trans sq1).trans sq2;generalize (upd (upd (upd Hc p1 (.tup [V.str "load",V.str "a",V.int 0])) q1 (.lst [V.ref p1])) q2 (.lst (List.replicate n (V.ref p1))))=Ha at ep1 acJ Sa ⊢;have fq2:Hc q2=none:=Yo.free (sq1.free hq2);clear Yo sq1 sq2 hq2;refine ⟨_,rfl,(by show 2<=sizeLine;decide),fun p3 hp3=>⟨(by show 1<=sizeLine;decide),fun q3 ZD=> ?_⟩⟩;have sp3:=aH (o:=HO.tup [V.str "go",V.int n]) hp3;have sq3:=aH (o:=HO.lst [V.ref p3]) ZD;have ep3:=sq3 _ _ (ak (H:=Ha) (a:=p3) (o:=HO.tup [V.str "go",V.int n]));have eq3:(upd (upd Ha p3 (.tup [V.str "go",V.int n])) q3 (.lst [V.ref p3])) q3=some (.lst [V.ref p3]):=ak;have Sb:=sp3.trans sq3;have fq3:Ha q3=none:=sp3.free ZD;generalize (upd (upd Ha p3 (.tup [V.str "go",V.int n])) q3 (.lst [V.ref p3]))=Hb at ep3 eq3 Sb ⊢;have Sab:=Sa.trans Sb;have Tb:=Tc.same Sab;clear sp3 sq3;refine ⟨_,rfl,r,3,rfl,Tb.R,by decide,by decide,fun u Hd u0 u1 Rd kd=>⟨rfl,.inr ⟨_,rfl, ?_⟩⟩⟩;have Td:=Tb.draw kd Rd;have nq2:q2≠r:=Tc.R.ne fq2;have nq3:q3≠r:=(Tc.same Sa).R.ne fq3;have aj_:=kd.1 _ _ (Sb _ _ acJ) nq2;have aj9:=kd.1 _ _ eq3 nq3;have akb:=kd.tups Tb.R _ _ (Sb _ _ ep1);have aj':=kd.tups Tb.R _ _ ep3;have eDd:=Tb.keep kd (Sab _ _ eDc) (by rw [tD];simp);generalize hbu:decide (V.int u=V.int 0)=bu;refine ⟨q3,_,_,rfl,rfl,aj9,by split<;>decide,by split<;>decide,by rw [sizeLine_eq];split<;>simp,fun q4 hq4=> ?_⟩;have e4:(List.replicate (if bu=true then (1:Int) else 0).toNat [V.ref p3]).flatten=if bu then [V.ref p3] else []:=by cases bu<;>rfl
   rw [e4] at *;have sq4:=aH (o:=HO.lst (if bu then [V.ref p3] else [])) hq4;refine ⟨q2,q4,_,_,rfl,rfl,sq4 _ _ aj_,ak,by rw [List.length_replicate,sizeLine_eq];split<;>simp<;>lia,fun q5 ZC=> ?_⟩;have sq5:=aH (o:=HO.lst (List.replicate n (V.ref p1)++if bu then [V.ref p3] else [])) ZC;have eq5:(upd (upd Hd q4 (.lst (if bu then [V.ref p3] else []))) q5 (.lst (List.replicate n (V.ref p1)++if bu then [V.ref p3] else []))) q5=some (.lst (List.replicate n (V.ref p1)++if bu then [V.ref p3] else [])):=ak;have Se:=sq4.trans sq5;have nq5:q5≠r:=(Td.same sq4).R.ne ZC;have abK:q5≠D:=(au (sq4 _ _ eDd) ZC).symm;generalize (upd (upd Hd q4 (.lst (if bu then [V.ref p3] else []))) q5 (.lst (List.replicate n (V.ref p1)++if bu then [V.ref p3] else [])))=He at eq5 Se ⊢;have eDe:=Se _ _ eDd;have RH:fU He q5 1 (fK (List.replicate n 0) bu):=Yw eq5 (Se _ _ akb) (Se _ _ aj') (by lia);have tup:∀y ys,He y=some (.tup ys)->(upd He D (.lst (qs.map V.ref++[V.ref q5]))) y=some (.tup ys):=fun y ys e=>by rw [aD (dX e eDe (by intro z;cases z))];exact e
   refine ⟨_,eDe,(by rw [List.length_map,sizeLine_eq];lia),_,qs++[q5],lost++[bu],rfl,by simp [lq],by simp [lb],(Td.same Se).set eDe (by rw [tD];simp),fun x o e nx=> ?_,by rw [ak,List.map_append];rfl,fun kk q' m b h1 h2 h3=> ?_⟩
   ·rw [aD (au e hD)]
    exact Se _ _ (kd.1 _ _ (Sab _ _ (kpc _ _ e nx)) nx)
   ·rcases u_ h1 with h1|⟨e1,rfl⟩
    ·have h3':lost[kk]? = some b:=by
      have kl:=(List.getElem?_eq_some_iff.mp h1).1;rw [List.getElem?_append_left (by lia)] at h3;exact h3
     obtain ⟨n1,n2,R'⟩:=hq kk q' m b h1 h2 h3';refine ⟨n1,n2,R'.keep (fun o e=> ?_) (fun y ys e=>tup _ _ (Se _ _ (kd.tups Tb.R _ _ (Sab _ _ e))))⟩;rw [aD n1];exact Se _ _ (kd.1 _ _ (Sab _ _ e) n2)
    ·rw [e1,lq,en] at h2
     cases h2;rw [e1,lq,←lb,List.getElem?_append_right (Nat.le_refl _)] at h3;simp at h3;subst h3;exact ⟨abK,nq5,RH.keep (fun o e=>by rw [aD abK];exact e) tup⟩
  rintro σ H8 ⟨v,qs,lost,rfl,lq,lb,T8,Rx,eD8,hq⟩;rw [List.length_map] at lq lb;have Rf:∀x u,H7 x=some u->τ7 x≠[]->H8 x=some u/\τ8 x=τ7 x:=fun x u e tx=>⟨Rx _ _ e (T7.off x u e tx).1,tgD x u e⟩;obtain ⟨eL8,tL8⟩:=Rf _ _ eL7 (by rw [tL7];simp);obtain ⟨acN,aa4⟩:=Rf _ _ akh (by rw [X6];simp);obtain ⟨acG,aaU⟩:=Rf _ _ aj8 (by rw [XR];simp);obtain ⟨Z1,aa2⟩:=Rf _ _ ee2 (by rw [te2];simp);rw [tL7] at tL8;rw [X6] at aa4;rw [XR] at aaU;rw [te2] at aa2;have akj:=Rx _ _ ec2 aiu;have Qg:∀y ys,H7 y=some (.tup ys)->H8 y=some (.tup ys):=T7.R.tups Rx;have et8:=Qg _ _ et;have acS:aR H8 vs (ns.map nD):=aR.keep Qg _ (cg _ jH _) ako;have ai7:Kp r H1 H8:=ai8.trans Rx;clear Rx Qg Rf;refine ⟨_,rfl,(by show 2<=sizeLine;decide),fun p hp=> ?_⟩;have sp:=aH (o:=HO.tup [V.int 1,V.ref D]) hp;have ep9:(upd H8 p (.tup [V.int 1,V.ref D])) p=some (.tup [V.int ((1:Nat):Int),V.ref D]):=ak;have eD9:=sp _ _ eD8
  have hq9:∀(kk:Nat) (q:Addr) (x:List Rw),qs[kk]? = some q->(List.zipWith fK (yj cP) lost)[kk]? = some x->fU (upd H8 p (.tup [V.int 1,V.ref D])) q 1 x:=fun kk q x h1 h2=>by
   rw [List.getElem?_zipWith] at h2;cases e1:(yj cP)[kk]? with
   | none=>rw [e1] at h2;cases h2
   | some y=>
     cases e2:lost[kk]? with
     | none=>rw [e1,e2] at h2;cases h2
     | some b=>
       rw [e1,e2] at h2;cases h2;unfold yj at e1;rw [List.getElem?_map] at e1;cases e3:cP[kk]? with
       | none=>rw [e3] at e1;cases e1
       | some n=>
         rw [e3] at e1;cases e1;exact (hq kk q n b h1 e3 e2).2.2.same sp
  have T9:=T8.same sp;generalize (upd H8 p (.tup [V.int 1,V.ref D]))=H9 at sp ep9 eD9 hq9 T9 ⊢;have lz:(List.zipWith fK (yj cP) lost).length=cP.length:=by unfold yj;rw [List.length_zipWith,List.length_map];lia
  refine fun o dx ho hdx ndx=> ?_;have ho':(upd H9 dx (.own o)) o=none:=by rw [aD ndx.symm];exact ho
  have Yp:Same H9 (upd (upd H9 dx (.own o)) o (.ins aq dx [])):=(aH hdx).trans (aH ho');have abI:wu 1 [0]:=⟨rfl,fun x hx=>by rw [List.mem_singleton.mp hx];exact ⟨by decide,by decide⟩⟩;refine ⟨1,τ8,o,dx,p,D,qs,1,.non,[0],List.zipWith fK (yj cP) lost,rfl,ak,Yp _ _ ep9,Yp _ _ eD9,by lia,fun kk q' x h1 h2=>(hq9 kk q' x h1 h2).same Yp,by lia,by decide,T9.un.same Yp,by decide,by decide,.inl ⟨rfl,rfl⟩,fun _ τa W Ha eo wa tg kp=>⟨rfl, ?_⟩,fun bad=>absurd abI bad⟩;have s9a:Same H9 Ha:=fun x u e=>kp _ _ (Yp _ _ e) (au e ho);have S8a:Same H8 Ha:=sp.trans s9a;have tga:∀x u,H8 x=some u->τa x=τ8 x:=fun x u e=>tg x u (Yp _ _ (sp _ _ e)) (au (sp _ _ e) ho);have Ta:RT τa Ha r:=T8.made S8a tga wa.un;have gda:xP (Gu 1 [0] (List.zipWith fK (yj cP) lost)):=Oo abI.2;have eo':V.ref o=V.ref W.o:=by rw [eo]
  rw [eo'];have Ga:=RQ (cP:=cP) (lost:=lost) lb
  have lS:cs.length=(Gu 1 [0] (List.zipWith fK (yj cP) lost)).hs.length:=by
   show _=((List.zipWith fK (yj cP) lost).map _).length;rw [List.length_map,lz];lia
  clear kp tg Yp ho' eo' hq9 hq s9a;refine ⟨_,rfl,fun o2 dx2 ho2 ajV ais=> ?_⟩;have ace:(upd Ha dx2 (.own o2)) o2=none:=by rw [aD ais.symm];exact ho2
  have WK:Same Ha (upd (upd Ha dx2 (.own o2)) o2 (.ins aB dx2 [])):=(aH ajV).trans (aH ace);refine ⟨1,2,3,τa,o2,dx2,t,c2,e2,W,_,cs,ns,rfl,ak,Ta.un _ ho2,wa.same WK,gda,by show 1<=100;decide,⟨WK _ _ (S8a _ _ et8),WK _ _ (S8a _ _ akj),vs,WK _ _ (S8a _ _ Z1),(acS.same S8a _).same WK _⟩,⟨acX,by lia,HB⟩,by decide,by decide,by decide,by decide,fun _ τd R ns' Hd eR pm srt rp tgd kpd=>⟨rfl, ?_⟩,fun bad=>absurd lS bad⟩;have Sad:Same Ha Hd:=fun x u e=>kpd _ _ (WK _ _ e) (au e ho2);have aa0:∀x u,Ha x=some u->τd x=τa x:=fun x u e=>tgd x u (WK _ _ e) (au e ho2);have Td:=Ta.made Sad aa0 rp.w.un;have S8d:=S8a.trans Sad;have Ur:∀x u,H8 x=some u->τd x=τ8 x:=fun x u e=>(aa0 x u (S8a _ _ e)).trans (tga x u e);have eLd:=S8d _ _ eL8;have tLd:=(Ur _ _ eL8).trans tL8;have akg:=S8d _ _ acN;have aa3:=(Ur _ _ acN).trans aa4;have aj7:=S8d _ _ acG;have aaT:=(Ur _ _ acG).trans aaU;have Z0:=S8d _ _ Z1;have afs:=(Ur _ _ Z1).trans aa2;have eR':V.ref o2=V.ref R.o:=by rw [eR]
  rw [eR'];clear kpd tgd WK ace eR';refine ⟨_,rfl,_,_,_,_,rfl,rfl,cN.of (S8d _ _ et8),rfl,.inl ⟨rfl,_,bN.of Z0⟩,e2,_,rfl,rfl,Z0, ?_⟩;have Uw:p8 12 τd Hd (upd Hd e2 (.lst [])):=p8.set (by rw [afs];rfl) Z0 (by intro xs z;cases z);have Te:=Td.stp Uw;have Oa:∀j,j≠12->Mv j τd Hd τd (upd Hd e2 (.lst [])):=fun j hj=>Mv.m_ Uw (fun z=>hj z.symm) (by decide);have rpe:=rp.mv (Oa 2 (by decide)) (Oa 3 (by decide)) Te.un;have eLe:=((Oa 0 (by decide)).keep _ _ eLd (.inl tLd)).1;have Z2:=((Oa 0 (by decide)).keep _ _ akg (.inl aa3)).1;have ZW:=((Oa 0 (by decide)).keep _ _ aj7 (.inl aaT)).1;have acR:aR (upd Hd e2 (.lst [])) vs (ns.map nD):=aR.keep Uw.tup _ (cg _ jH _) (acS.same S8d _)
  have sce:bN K (upd Hd e2 (.lst [])) sc (pY.map V.int):=Hg hs0 fun o e=>by
   have nr:sc≠r:=au e hr0;have x1:=s1 _ _ e;rw [aD (au (abW _ _ x1 nr) fe2)];exact S8d _ _ (ai7 _ _ x1 nr)
  generalize (upd Hd e2 (.lst []))=He at Uw Te Oa rpe eLe Z2 ZW acR sce ⊢;refine ⟨(by show 1<=sizeLine;decide),fun q hq=>⟨_,rfl,L,_,rfl,.inl (bN.of ((aH (o:=HO.lst [V.int 0]) hq) _ _ eLe)), ?_⟩⟩;rw [List.length_map];refine ⟨q,_,_,rfl,rfl,ak,by lia,by lia,by rw [sizeLine_eq];simp;lia,fun g hg=> ?_⟩;rw [Int.toNat_natCast,rep1];have sq:=aH (o:=HO.lst [V.int 0]) hq;have sg:=aH (o:=HO.lst (List.replicate cP.length (V.int 0))) hg;have Sf:Same He (upd (upd He q (.lst [V.int 0])) g (.lst (List.replicate cP.length (V.int 0)))):=sq.trans sg;have fg:He g=none:=sq.free hg;have eg:(upd (upd He q (.lst [V.int 0])) g (.lst (List.replicate cP.length (V.int 0)))) g=some (.lst ((List.replicate cP.length (0:Int)).map V.int)):=by rw [ak,List.map_replicate]
  generalize (upd (upd He q (.lst [V.int 0])) g (.lst (List.replicate cP.length (V.int 0))))=Hf at Sf eg ⊢;have Tf:=Te.claim (t:=[9]) Sf fg ⟨_,eg⟩;have abR:∀j,Mv j τd He (aO τd g [9]) Hf:=fun j=>Mv.claim Sf fg;have tgg:aO τd g [9] g=[9]:=bI;have tLf:aO τd g [9] L=[0]:=by rw [aP (au eLe fg)];exact tLd
  have afv:aO τd g [9] cl=[0]:=by rw [aP (au Z2 fg)];exact aa3
  have afk:aO τd g [9] sm=[0]:=by rw [aP (au ZW fg)];exact aaT
  have agw:List.replicate cs.length (0:Int)=List.replicate cP.length 0:=by congr 1
  rw [agw] at rpe;have cf:C52 aB aq ao 2 3 (aO τd g [9]) Hf R (Gu 1 [0] (List.zipWith fK (yj cP) lost)) cs (List.replicate cP.length 0) cP lost ns' ns L cl sm g:=⟨rpe.mv (abR 2) (abR 3) Tf.un,Ga,Sf _ _ eLe,tLf,l8,Sf _ _ Z2,afv,⟨vs,Sf _ _ ZW,acR.same Sf _⟩,afk,eg,tgg,lcs,by decide,by decide,pm,srt⟩;have scf:bN K Hf sc (pY.map V.int):=Hg sce fun o e=>Sf _ _ e;generalize aO τd g [9]=τf at Tf cf;dsimp only [gR];refine Li (fun σ Hc=>∃(x10:Option V) (S:nP) (gs:List Int),σ=[some (.ref sc),some (.ref r),some (.int mo),some (.ref L),some (.ref cl),some (.ref sm),some (.ref t),some (.ref D),some (.ref R.o),some (.ref g),x10]/\C52 aB aq ao 2 3 τf Hc R S cs gs cP lost ns' ns L cl sm g) (fun D' hD' _=> ?_) ?_
  ·refine ⟨_,rfl,sc,_,rfl,.inl scf,_,_,rfl,_,_,rfl,rfl,_,rfl, ?_, ?_, ?_⟩
   ·rw [List.length_map];split<;>lia
   ·rw [List.length_map];split<;>lia
   have stl:((12:Int)+(if 63<((pY.map V.int).length:Int) then 63 else ((pY.map V.int).length:Int))).toNat<=75:=by
    rw [List.length_map];split<;>lia
   generalize ((12:Int)+(if 63<((pY.map V.int).length:Int) then 63 else ((pY.map V.int).length:Int))).toNat=stp at stl ⊢
   refine Dq (lo:=0) (n:=stp) (fun j σ Hc=>∃(x10:Option V) (S:nP) (gs:List Int),σ=[some (.ref sc),some (.ref r),some (.int mo),some (.ref L),some (.ref cl),some (.ref sm),some (.ref t),some (.ref D),some (.ref R.o),some (.ref g),x10]/\C52 aB aq ao 2 3 τf Hc R S cs gs cP lost ns' ns L cl sm g/\S.ts.length<=j/\RT τf Hc r)
    ⟨none,_,_,rfl,cf,Nat.zero_le _,Tf⟩ ?_ (fun σ Hc ⟨x10,S,gs,e,c,tl,T⟩=>hD' _ _ ⟨x10,S,gs,e,c⟩)
   rintro j σ Hc hj ⟨x10,S,gs,rfl,c,tl,T⟩;refine ⟨_,rfl,R.o,R.dx,_,rfl,c.r.o,rfl,2,3,τf,R,S,cs,gs,ns',rfl,c.r,fun l1 H2 f1 e1 s2=> ?_⟩;have c2:=c.same s2;refine ⟨_,rfl,R.o,R.dx,_,rfl,c2.r.o,rfl,2,3,τf,R,S,cs,gs,ns',rfl,c2.r,fun l2 H3 f2 e2' s3=> ?_⟩;refine ⟨(by show 2<=sizeLine;decide),fun lt hlt=> ?_⟩;have slt:=aH (o:=HO.lst [V.ref l1,V.ref l2]) hlt;have elt:(upd H3 lt (.lst [V.ref l1,V.ref l2])) lt=some (.lst [V.ref l1,V.ref l2]):=ak;have V7:=slt _ _ (s3 _ _ e1);have e24:=slt _ _ e2';have S4:Same Hc (upd H3 lt (.lst [V.ref l1,V.ref l2])):=(s2.trans s3).trans slt;generalize (upd H3 lt (.lst [V.ref l1,V.ref l2]))=H4 at elt V7 e24 S4 ⊢;have c4:=c.same S4;refine ⟨_,rfl,_,rfl,_,rfl,_,rfl,L,cl,sm,g,cP,ns,cs,gs,rfl,c4.hL,c4.hcl,c4.hs,c4.HB.1,c4.HB.2,c4.hg,c4.lc,c4.gl,c4.n8,fun l3 H5 f3 e3 s5=> ?_⟩;rw [←Dp c] at e3;refine ⟨_,rfl,(by show 2<=sizeLine;decide),fun q hq=> ?_⟩;have sq:=aH (o:=HO.lst [V.ref l3,V.ref g]) hq;have eq6:(upd H5 q (.lst [V.ref l3,V.ref g])) q=some (.lst [V.ref l3,V.ref g]):=ak;have Ph:=s5.trans sq;have V6:=sq _ _ e3;generalize (upd H5 q (.lst [V.ref l3,V.ref g]))=H6 at eq6 Ph V6 ⊢;have efv:(n_ S cs ns' gs).map (fun k:Nat=>V.int k)=((n_ S cs ns' gs).map fun k:Nat=>(k:Int)).map V.int:=by rw [List.map_map];rfl
   have frl:((n_ S cs ns' gs).map fun k:Nat=>(k:Int)).length<=8:=by
    rw [List.length_map];unfold n_;have:=List.length_filter_le (fun k=> !gQ S cs gs k&&(jd ns' gs k).isEmpty) (List.range cs.length);rw [List.length_range] at this;lia
   rw [efv] at V6 V7;generalize ((n_ S cs ns' gs).map fun k:Nat=>(k:Int))=fv at frl efv V6 V7;have gl:=c.gl;have c6:=c4.same Ph;refine ⟨_,_,_,rfl,vm (Ph _ _ elt) (Ph _ _ V7) (Ph _ _ e24),vm eq6 V6 c6.hg,QD (by lia) (by lia),fun H7 s7=> ?_⟩;have c7:=c6.same s7;refine ⟨_,rfl,dG ?_⟩;unfold Ql;dsimp only;have S7:Same Hc H7:=(S4.trans Ph).trans s7;have lb':((mL cs gs cs.length).length:Int)=cs.sum - gs.sum:=Dg c.r.dn;have lu:=Rq c.r.ok.1 c.r.dn cs.length (Nat.le_refl _);refine ⟨_,rfl,R.o,R.dx,_,rfl,c7.r.o,⟨2,3,τf,R,S,cs,gs,ns',rfl,c7.r,fun H8' s8=>⟨_,rfl,by lia,by lia, ?_⟩⟩⟩;have c8:=c7.same s8;refine ⟨_,rfl,cl,cs,rfl,bN.of c8.hcl,_,rfl,g,gs,rfl,bN.of c8.hg,_,_,rfl,rfl,rfl,_,rfl, ?_⟩;rw [decide_eq_true rfl];refine dG ?_;refine ⟨_,rfl,R.o,R.dx,_,rfl,c8.r.o,rfl,2,3,τf,R,S,cs,gs,ns',rfl,c8.r, ?_⟩;refine ⟨_,rfl,_,rfl,_,_,jW c8.hg,jW c8.hcl,shaped_ints _,shaped_ints _, ?_⟩;rw [if_neg Bool.false_ne_true,qJ PyData.int Gb];refine ⟨_,_,.bool (decide (gs=cs)),rfl,by simp only [Dat],by simp only [Dat],trivial,fun H9' s9=>⟨_,rfl,dG ?_⟩⟩;dsimp only;have c9:=c8.same s9;have S9:=(S7.trans s8).trans s9;have T9':=T.same S9;refine ⟨_,rfl,_,rfl,_,rfl,L,_,rfl,.inl (bN.of c9.hL), ?_⟩;rw [List.length_map];refine ⟨r,_,rfl,T9'.R,by lia,by lia,fun n Hw n0 n1 Rw' kw=> ?_⟩;obtain ⟨n,rfl⟩:=Int.eq_ofNat_of_zero_le n0;have Tw:=T9'.draw kw Rw';have cw:=c9.mv (fun j _=>T9'.kr kw) Tw.un;refine ⟨_,rfl,_,rfl,_,rfl,_,rfl,2,3,τf,R,S,cs,gs,cP,lost,ns',ns,L,cl,sm,g,n,rfl,cw,by lia,by lia,fun S' gs' Hv cv tv Fv=>⟨_,rfl,dG ?_⟩⟩;exact ⟨_,S',gs',rfl,cv,by lia,Fv.rt r Tw⟩
  rintro σ Hc ⟨x10,S,gs,rfl,c⟩;refine ⟨_,rfl,R.o,R.dx,_,rfl,c.r.o,rfl,2,3,τf,R,S,cs,gs,ns',rfl,c.r,fun l1 H2 f1 e1 s2=> ?_⟩;have c2:=c.same s2;refine ⟨_,rfl,R.o,R.dx,_,rfl,c2.r.o,rfl,2,3,τf,R,S,cs,gs,ns',rfl,c2.r,fun l2 H3 f2 e2' s3=> ?_⟩;refine ⟨(by show 2<=sizeLine;decide),fun lt hlt=> ?_⟩;have slt:=aH (o:=HO.lst [V.ref l1,V.ref l2]) hlt;have elt:(upd H3 lt (.lst [V.ref l1,V.ref l2])) lt=some (.lst [V.ref l1,V.ref l2]):=ak;have V7:=slt _ _ (s3 _ _ e1);have e24:=slt _ _ e2';have S4:Same Hc (upd H3 lt (.lst [V.ref l1,V.ref l2])):=(s2.trans s3).trans slt;generalize (upd H3 lt (.lst [V.ref l1,V.ref l2]))=H4 at elt V7 e24 S4 ⊢;have c4:=c.same S4;refine ⟨_,rfl,_,rfl,_,rfl,_,rfl,L,cl,sm,g,cP,ns,cs,gs,rfl,c4.hL,c4.hcl,c4.hs,c4.HB.1,c4.HB.2,c4.hg,c4.lc,c4.gl,c4.n8,fun l3 H5 f3 e3 s5=> ?_⟩;rw [←Dp c] at e3;refine ⟨_,rfl,(by show 2<=sizeLine;decide),fun q hq=> ?_⟩;have sq:=aH (o:=HO.lst [V.ref l3,V.ref g]) hq;have eq6:(upd H5 q (.lst [V.ref l3,V.ref g])) q=some (.lst [V.ref l3,V.ref g]):=ak;have Ph:=s5.trans sq;have V6:=sq _ _ e3;generalize (upd H5 q (.lst [V.ref l3,V.ref g]))=H6 at eq6 Ph V6 ⊢;have efv:(n_ S cs ns' gs).map (fun k:Nat=>V.int k)=((n_ S cs ns' gs).map fun k:Nat=>(k:Int)).map V.int:=by rw [List.map_map];rfl
  have frl:((n_ S cs ns' gs).map fun k:Nat=>(k:Int)).length<=8:=by
   rw [List.length_map];unfold n_;have:=List.length_filter_le (fun k=> !gQ S cs gs k&&(jd ns' gs k).isEmpty) (List.range cs.length);rw [List.length_range] at this;lia
  rw [efv] at V6 V7;generalize ((n_ S cs ns' gs).map fun k:Nat=>(k:Int))=fv at frl efv V6 V7;have gl:=c.gl;have c6:=c4.same Ph;refine ⟨_,_,_,rfl,vm (Ph _ _ elt) (Ph _ _ V7) (Ph _ _ e24),vm eq6 V6 c6.hg,QD (by lia) (by lia),fun H7 s7=> ?_⟩;have c7:=c6.same s7;exact k _
end
theorem len0 {us:List Value} (h:us.length=0):us=[]:=List.eq_nil_of_length_eq_zero h
theorem bT {us:List Value} {n:Nat} (h:us.length=n+1):∃a vs,us=a::vs/\vs.length=n:=by
 cases us with
 | nil=>cases h
 | cons a t=>exact ⟨a,t,rfl,Nat.succ.inj h⟩
theorem Jc (kV doc pm:Value) (an:Option Addr) (cdv ct:Value) (us:List Value) (hl:us.length=(["value"]:List Str).length):bindArgs (PySem.W.fnOf "is_whole" "is_whole" (aM fY) (aJ fY) (aA fY) .none kV doc pm an cdv ct) ⟨us,[]⟩=pure ((["value"]:List Str).zip us):=by obtain ⟨_,_,rfl,h1⟩:=bT hl;cases len0 h1;rfl
theorem Jd (kV doc pm:Value) (an:Option Addr) (cdv ct:Value) (us:List Value) (hl:us.length=(["value","count"]:List Str).length):bindArgs (PySem.W.fnOf "is_below" "is_below" (aM fZ) (aJ fZ) (aA fZ) .none kV doc pm an cdv ct) ⟨us,[]⟩=pure ((["value","count"]:List Str).zip us):=by obtain ⟨_,_,rfl,h1⟩:=bT hl;obtain ⟨_,_,rfl,h2⟩:=bT h1;cases len0 h2;rfl
theorem Gs (kV doc pm:Value) (an:Option Addr) (cdv ct:Value) (us:List Value) (hl:us.length=(["self","rows"]:List Str).length):bindArgs (PySem.W.fnOf "__init__" "Hand.__init__" (aM fB) (aJ fB) (aA fB) .none kV doc pm an cdv ct) ⟨us,[]⟩=pure ((["self","rows"]:List Str).zip us):=by obtain ⟨_,_,rfl,h1⟩:=bT hl;obtain ⟨_,_,rfl,h2⟩:=bT h1;cases len0 h2;rfl
theorem KJ (kV doc pm:Value) (an:Option Addr) (cdv ct:Value) (us:List Value) (hl:us.length=(["row"]:List Str).length):bindArgs (PySem.W.fnOf "cell_of" "cell_of" (aM iy) (aJ iy) (aA iy) .none kV doc pm an cdv ct) ⟨us,[]⟩=pure ((["row"]:List Str).zip us):=by obtain ⟨_,_,rfl,h1⟩:=bT hl;cases len0 h1;rfl
theorem jK (kV doc pm:Value) (an:Option Addr) (cdv ct:Value) (us:List Value) (hl:us.length=(["self","part"]:List Str).length):bindArgs (PySem.W.fnOf "value_of" "Hand.value_of" (aM cj) (aJ cj) (aA cj) .none kV doc pm an cdv ct) ⟨us,[]⟩=pure ((["self","part"]:List Str).zip us):=by obtain ⟨_,_,rfl,h1⟩:=bT hl;obtain ⟨_,_,rfl,h2⟩:=bT h1;cases len0 h2;rfl
theorem Cm (kV doc pm:Value) (an:Option Addr) (cdv ct:Value) (us:List Value) (hl:us.length=(["self","row"]:List Str).length):bindArgs (PySem.W.fnOf "holds" "Hand.holds" (aM d8) (aJ d8) (aA d8) .none kV doc pm an cdv ct) ⟨us,[]⟩=pure ((["self","row"]:List Str).zip us):=by obtain ⟨_,_,rfl,h1⟩:=bT hl;obtain ⟨_,_,rfl,h2⟩:=bT h1;cases len0 h2;rfl
theorem Gr (kV doc pm:Value) (an:Option Addr) (cdv ct:Value) (us:List Value) (hl:us.length=(["self","box","number"]:List Str).length):bindArgs (PySem.W.fnOf "take" "Hand.take" (aM fu) (aJ fu) (aA fu) .none kV doc pm an cdv ct) ⟨us,[]⟩=pure ((["self","box","number"]:List Str).zip us):=by obtain ⟨_,_,rfl,h1⟩:=bT hl;obtain ⟨_,_,rfl,h2⟩:=bT h1;obtain ⟨_,_,rfl,h3⟩:=bT h2;cases len0 h3;rfl
theorem KN (kV doc pm:Value) (an:Option Addr) (cdv ct:Value) (us:List Value) (hl:us.length=(["self","row"]:List Str).length):bindArgs (PySem.W.fnOf "do" "Hand.do" (aM iz) (aJ iz) (aA iz) .none kV doc pm an cdv ct) ⟨us,[]⟩=pure ((["self","row"]:List Str).zip us):=by obtain ⟨_,_,rfl,h1⟩:=bT hl;obtain ⟨_,_,rfl,h2⟩:=bT h1;cases len0 h2;rfl
theorem xV (kV doc pm:Value) (an:Option Addr) (cdv ct:Value) (us:List Value) (hl:us.length=(["self"]:List Str).length):bindArgs (PySem.W.fnOf "lead_on" "Hand.lead_on" (aM cR) (aJ cR) (aA cR) .none kV doc pm an cdv ct) ⟨us,[]⟩=pure ((["self"]:List Str).zip us):=by obtain ⟨_,_,rfl,h1⟩:=bT hl;cases len0 h1;rfl
theorem wM (kV doc pm:Value) (an:Option Addr) (cdv ct:Value) (us:List Value) (hl:us.length=(["cells","count"]:List Str).length):bindArgs (PySem.W.fnOf "check_numbers" "check_numbers" (aM cJ) (aJ cJ) (aA cJ) .none kV doc pm an cdv ct) ⟨us,[]⟩=pure ((["cells","count"]:List Str).zip us):=by obtain ⟨_,_,rfl,h1⟩:=bT hl;obtain ⟨_,_,rfl,h2⟩:=bT h1;cases len0 h2;rfl
theorem vq (kV doc pm:Value) (an:Option Addr) (cdv ct:Value) (us:List Value) (hl:us.length=(["self","one"]:List Str).length):bindArgs (PySem.W.fnOf "touch_by" "Works.touch_by" (aM cB) (aJ cB) (aA cB) .none kV doc pm an cdv ct) ⟨us,[]⟩=pure ((["self","one"]:List Str).zip us):=by obtain ⟨_,_,rfl,h1⟩:=bT hl;obtain ⟨_,_,rfl,h2⟩:=bT h1;cases len0 h2;rfl
theorem wN (kV doc pm:Value) (an:Option Addr) (cdv ct:Value) (us:List Value) (hl:us.length=(["self","hand"]:List Str).length):bindArgs (PySem.W.fnOf "hand_of" "Works.hand_of" (aM cL) (aJ cL) (aA cL) .none kV doc pm an cdv ct) ⟨us,[]⟩=pure ((["self","hand"]:List Str).zip us):=by obtain ⟨_,_,rfl,h1⟩:=bT hl;obtain ⟨_,_,rfl,h2⟩:=bT h1;cases len0 h2;rfl
theorem Ck (kV doc pm:Value) (an:Option Addr) (cdv ct:Value) (us:List Value) (hl:us.length=(["self","hand"]:List Str).length):bindArgs (PySem.W.fnOf "turn" "Works.turn" (aM d7) (aJ d7) (aA d7) .none kV doc pm an cdv ct) ⟨us,[]⟩=pure ((["self","hand"]:List Str).zip us):=by obtain ⟨_,_,rfl,h1⟩:=bT hl;obtain ⟨_,_,rfl,h2⟩:=bT h1;cases len0 h2;rfl
theorem Bq {K:PySem.W.Frag} {T:Addr} {tc:Value} {td:Option Addr} {tn:Nat} {Ww:Array (Option Value)} (d:K.lookup T=some ⟨tc,td,.seq #[.none] tn,Ww⟩) {kV doc pm:Value} {an:Option Addr} {cdv ct:Value}:Binds K (PySem.W.fnOf "__init__" "Works.__init__" (aM bV) (aJ bV) (aA bV) (.ref T) kV doc pm an cdv ct) ["self","program","cells"] []:=by
 intro s us KX hl;have hl:us.length=3:=by simpa using hl
 obtain ⟨_,_,rfl,h1⟩:=bT hl;obtain ⟨_,_,rfl,h2⟩:=bT h1;obtain ⟨_,_,rfl,h3⟩:=bT h2;cases len0 h3;exact PySem.W.binds_K KX rfl d rfl rfl rfl
theorem Bp {K:PySem.W.Frag} {T:Addr} {tc:Value} {td:Option Addr} {tn:Nat} {Ww:Array (Option Value)} (d:K.lookup T=some ⟨tc,td,.seq #[.none] tn,Ww⟩) {kV doc pm:Value} {an:Option Addr} {cdv ct:Value}:Binds K (PySem.W.fnOf "__init__" "Works.__init__" (aM bV) (aJ bV) (aA bV) (.ref T) kV doc pm an cdv ct) ["self","program","cells"] [.none]:=by
 intro s us KX hl;have hl:us.length=2:=by simpa using hl
 obtain ⟨_,_,rfl,h1⟩:=bT hl;obtain ⟨_,_,rfl,h2⟩:=bT h1;cases len0 h2;exact PySem.W.binds_K KX rfl d rfl rfl rfl
theorem Bo {K:PySem.W.Frag} {T:Addr} {tc:Value} {td:Option Addr} {tn:Nat} {Ww:Array (Option Value)} (d:K.lookup T=some ⟨tc,td,.seq #[.none] tn,Ww⟩) {kV doc pm:Value} {an:Option Addr} {cdv ct:Value} (s:Shared) (us:List Value) (z:Value) (KX:K.In s.heap) (hl:(us++[z]).length=(["self","program","cells"]:List Str).length):BindsTo s (PySem.W.fnOf "__init__" "Works.__init__" (aM bV) (aJ bV) (aA bV) (.ref T) kV doc pm an cdv ct) ⟨us,[("cells",z)]⟩ ((["self","program","cells"]:List Str).zip (us++[z])):=by
 have hl:us.length=2:=by simpa using hl
 obtain ⟨_,_,rfl,h1⟩:=bT hl;obtain ⟨_,_,rfl,h2⟩:=bT h1;cases len0 h2;exact PySem.W.binds_K KX rfl d rfl rfl rfl
theorem Gp (kV doc pm:Value) (an:Option Addr) (cdv ct:Value) (us:List Value) (hl:us.length=(["self","hand"]:List Str).length):bindArgs (PySem.W.fnOf "how" "Works.how" (aM eZ) (aJ eZ) (aA eZ) .none kV doc pm an cdv ct) ⟨us,[]⟩=pure ((["self","hand"]:List Str).zip us):=by obtain ⟨_,_,rfl,h1⟩:=bT hl;obtain ⟨_,_,rfl,h2⟩:=bT h1;cases len0 h2;rfl
theorem xU (kV doc pm:Value) (an:Option Addr) (cdv ct:Value) (us:List Value) (hl:us.length=(["self"]:List Str).length):bindArgs (PySem.W.fnOf "counts" "Works.counts" (aM cQ) (aJ cQ) (aA cQ) .none kV doc pm an cdv ct) ⟨us,[]⟩=pure ((["self"]:List Str).zip us):=by obtain ⟨_,_,rfl,h1⟩:=bT hl;cases len0 h1;rfl
theorem xW (kV doc pm:Value) (an:Option Addr) (cdv ct:Value) (us:List Value) (hl:us.length=(["self"]:List Str).length):bindArgs (PySem.W.fnOf "another" "Hand.another" (aM cT) (aJ cT) (aA cT) .none kV doc pm an cdv ct) ⟨us,[]⟩=pure ((["self"]:List Str).zip us):=by obtain ⟨_,_,rfl,h1⟩:=bT hl;cases len0 h1;rfl
theorem Cj (kV doc pm:Value) (an:Option Addr) (cdv ct:Value) (us:List Value) (hl:us.length=(["self"]:List Str).length):bindArgs (PySem.W.fnOf "twin" "Works.twin" (aM dZ) (aJ dZ) (aA dZ) .none kV doc pm an cdv ct) ⟨us,[]⟩=pure ((["self"]:List Str).zip us):=by obtain ⟨_,_,rfl,h1⟩:=bT hl;cases len0 h1;rfl
theorem KD (kV doc pm:Value) (an:Option Addr) (cdv ct:Value) (us:List Value) (hl:us.length=(["value"]:List Str).length):bindArgs (PySem.W.fnOf "is_note" "is_note" (aM iw) (aJ iw) (aA iw) .none kV doc pm an cdv ct) ⟨us,[]⟩=pure ((["value"]:List Str).zip us):=by obtain ⟨_,_,rfl,h1⟩:=bT hl;cases len0 h1;rfl
theorem Ci (kV doc pm:Value) (an:Option Addr) (cdv ct:Value) (us:List Value) (hl:us.length=(["counts","note"]:List Str).length):bindArgs (PySem.W.fnOf "is_between" "is_between" (aM dY) (aJ dY) (aA dY) .none kV doc pm an cdv ct) ⟨us,[]⟩=pure ((["counts","note"]:List Str).zip us):=by obtain ⟨_,_,rfl,h1⟩:=bT hl;obtain ⟨_,_,rfl,h2⟩:=bT h1;cases len0 h2;rfl
theorem Bg (kV doc pm:Value) (an:Option Addr) (cdv ct:Value) (us:List Value) (hl:us.length=(["record"]:List Str).length):bindArgs (PySem.W.fnOf "check_notes" "check_notes" (aM dh) (aJ dh) (aA dh) .none kV doc pm an cdv ct) ⟨us,[]⟩=pure ((["record"]:List Str).zip us):=by obtain ⟨_,_,rfl,h1⟩:=bT hl;cases len0 h1;rfl
theorem aae (kV doc pm:Value) (an:Option Addr) (cdv ct:Value) (us:List Value) (hl:us.length=(["done","touch"]:List Str).length):bindArgs (PySem.W.fnOf "has" "has" (aM uR) (aJ uR) (aA uR) .none kV doc pm an cdv ct) ⟨us,[]⟩=pure ((["done","touch"]:List Str).zip us):=by obtain ⟨_,_,rfl,h1⟩:=bT hl;obtain ⟨_,_,rfl,h2⟩:=bT h1;cases len0 h2;rfl
theorem Gn (kV doc pm:Value) (an:Option Addr) (cdv ct:Value) (us:List Value) (hl:us.length=(["record"]:List Str).length):bindArgs (PySem.W.fnOf "firsts_of" "firsts_of" (aM eY) (aJ eY) (aA eY) .none kV doc pm an cdv ct) ⟨us,[]⟩=pure ((["record"]:List Str).zip us):=by obtain ⟨_,_,rfl,h1⟩:=bT hl;cases len0 h1;rfl
theorem wO (kV doc pm:Value) (an:Option Addr) (cdv ct:Value) (us:List Value) (hl:us.length=(["self"]:List Str).length):bindArgs (PySem.W.fnOf "counts" "Replay.counts" (aM cM) (aJ cM) (aA cM) .none kV doc pm an cdv ct) ⟨us,[]⟩=pure ((["self"]:List Str).zip us):=by obtain ⟨_,_,rfl,h1⟩:=bT hl;cases len0 h1;rfl
theorem Bm (kV doc pm:Value) (an:Option Addr) (cdv ct:Value) (us:List Value) (hl:us.length=(["self"]:List Str).length):bindArgs (PySem.W.fnOf "done" "Replay.done" (aM dF) (aJ dF) (aA dF) .none kV doc pm an cdv ct) ⟨us,[]⟩=pure ((["self"]:List Str).zip us):=by obtain ⟨_,_,rfl,h1⟩:=bT hl;cases len0 h1;rfl
theorem vA (kV doc pm:Value) (an:Option Addr) (cdv ct:Value) (us:List Value) (hl:us.length=(["self","hand"]:List Str).length):bindArgs (PySem.W.fnOf "is_over" "Replay.is_over" (aM cC) (aJ cC) (aA cC) .none kV doc pm an cdv ct) ⟨us,[]⟩=pure ((["self","hand"]:List Str).zip us):=by obtain ⟨_,_,rfl,h1⟩:=bT hl;obtain ⟨_,_,rfl,h2⟩:=bT h1;cases len0 h2;rfl
theorem vB (kV doc pm:Value) (an:Option Addr) (cdv ct:Value) (us:List Value) (hl:us.length=(["self","hand"]:List Str).length):bindArgs (PySem.W.fnOf "holding" "Replay.holding" (aM cD) (aJ cD) (aA cD) .none kV doc pm an cdv ct) ⟨us,[]⟩=pure ((["self","hand"]:List Str).zip us):=by obtain ⟨_,_,rfl,h1⟩:=bT hl;obtain ⟨_,_,rfl,h2⟩:=bT h1;cases len0 h2;rfl
theorem Bl (kV doc pm:Value) (an:Option Addr) (cdv ct:Value) (us:List Value) (hl:us.length=(["self"]:List Str).length):bindArgs (PySem.W.fnOf "free" "Replay.free" (aM dD) (aJ dD) (aA dD) .none kV doc pm an cdv ct) ⟨us,[]⟩=pure ((["self"]:List Str).zip us):=by obtain ⟨_,_,rfl,h1⟩:=bT hl;cases len0 h1;rfl
theorem Bj (kV doc pm:Value) (an:Option Addr) (cdv ct:Value) (us:List Value) (hl:us.length=(["self"]:List Str).length):bindArgs (PySem.W.fnOf "left" "Replay.left" (aM dz) (aJ dz) (aA dz) .none kV doc pm an cdv ct) ⟨us,[]⟩=pure ((["self"]:List Str).zip us):=by obtain ⟨_,_,rfl,h1⟩:=bT hl;cases len0 h1;rfl
theorem vC (kV doc pm:Value) (an:Option Addr) (cdv ct:Value) (us:List Value) (hl:us.length=(["self"]:List Str).length):bindArgs (PySem.W.fnOf "__len__" "Replay.__len__" (aM cF) (aJ cF) (aA cF) .none kV doc pm an cdv ct) ⟨us,[]⟩=pure ((["self"]:List Str).zip us):=by obtain ⟨_,_,rfl,h1⟩:=bT hl;cases len0 h1;rfl
theorem Bk (kV doc pm:Value) (an:Option Addr) (cdv ct:Value) (us:List Value) (hl:us.length=(["self","works","record"]:List Str).length):bindArgs (PySem.W.fnOf "__init__" "Replay.__init__" (aM dB) (aJ dB) (aA dB) .none kV doc pm an cdv ct) ⟨us,[]⟩=pure ((["self","works","record"]:List Str).zip us):=by obtain ⟨_,_,rfl,h1⟩:=bT hl;obtain ⟨_,_,rfl,h2⟩:=bT h1;obtain ⟨_,_,rfl,h3⟩:=bT h2;cases len0 h3;rfl
theorem Gq (kV doc pm:Value) (an:Option Addr) (cdv ct:Value) (us:List Value) (hl:us.length=(["self","note"]:List Str).length):bindArgs (PySem.W.fnOf "__init__" "Held.__init__" (aM fj) (aJ fj) (aA fj) .none kV doc pm an cdv ct) ⟨us,[]⟩=pure ((["self","note"]:List Str).zip us):=by obtain ⟨_,_,rfl,h1⟩:=bT hl;obtain ⟨_,_,rfl,h2⟩:=bT h1;cases len0 h2;rfl
theorem Bh (kV doc pm:Value) (an:Option Addr) (cdv ct:Value) (us:List Value) (hl:us.length=(["self","hand"]:List Str).length):bindArgs (PySem.W.fnOf "turn" "Replay.turn" (aM dj) (aJ dj) (aA dj) .none kV doc pm an cdv ct) ⟨us,[]⟩=pure ((["self","hand"]:List Str).zip us):=by obtain ⟨_,_,rfl,h1⟩:=bT hl;obtain ⟨_,_,rfl,h2⟩:=bT h1;cases len0 h2;rfl
theorem Tj (kV doc pm:Value) (an:Option Addr) (cdv ct:Value) (us:List Value) (hl:us.length=(["script"]:List Str).length):bindArgs (PySem.W.fnOf "_law_reel" "_law_reel" (aM lB) (aJ lB) (aA lB) .none kV doc pm an cdv ct) ⟨us,[]⟩=pure ((["script"]:List Str).zip us):=by obtain ⟨_,_,rfl,h1⟩:=bT hl;cases len0 h1;rfl
theorem Tq (kV doc pm:Value) (an:Option Addr) (cdv ct:Value) (us:List Value) (hl:us.length=(["reel","many"]:List Str).length):bindArgs (PySem.W.fnOf "_law_draw" "_law_draw" (aM lE) (aJ lE) (aA lE) .none kV doc pm an cdv ct) ⟨us,[]⟩=pure ((["reel","many"]:List Str).zip us):=by obtain ⟨_,_,rfl,h1⟩:=bT hl;obtain ⟨_,_,rfl,h2⟩:=bT h1;cases len0 h2;rfl
theorem oF (kV doc pm:Value) (an:Option Addr) (cdv ct:Value) (us:List Value) (hl:us.length=(["found","due"]:List Str).length):bindArgs (PySem.W.fnOf "_law_alike" "_law_alike" (aM iK) (aJ iK) (aA iK) .none kV doc pm an cdv ct) ⟨us,[]⟩=pure ((["found","due"]:List Str).zip us):=by obtain ⟨_,_,rfl,h1⟩:=bT hl;obtain ⟨_,_,rfl,h2⟩:=bT h1;cases len0 h2;rfl
theorem Tn (kV doc pm:Value) (an:Option Addr) (cdv ct:Value) (us:List Value) (hl:us.length=(["reel","counts"]:List Str).length):bindArgs (PySem.W.fnOf "_law_note" "_law_note" (aM lC) (aJ lC) (aA lC) .none kV doc pm an cdv ct) ⟨us,[]⟩=pure ((["reel","counts"]:List Str).zip us):=by obtain ⟨_,_,rfl,h1⟩:=bT hl;obtain ⟨_,_,rfl,h2⟩:=bT h1;cases len0 h2;rfl
theorem O6 (kV doc pm:Value) (an:Option Addr) (cdv ct:Value) (us:List Value) (hl:us.length=(["reel","counts"]:List Str).length):bindArgs (PySem.W.fnOf "_law_notes" "_law_notes" (aM jj) (aJ jj) (aA jj) .none kV doc pm an cdv ct) ⟨us,[]⟩=pure ((["reel","counts"]:List Str).zip us):=by obtain ⟨_,_,rfl,h1⟩:=bT hl;obtain ⟨_,_,rfl,h2⟩:=bT h1;cases len0 h2;rfl
theorem Jf (kV doc pm:Value) (an:Option Addr) (cdv ct:Value) (us:List Value) (hl:us.length=(["some","gone","hand"]:List Str).length):bindArgs (PySem.W.fnOf "_law_held_by" "_law_held_by" (aM gq) (aJ gq) (aA gq) .none kV doc pm an cdv ct) ⟨us,[]⟩=pure ((["some","gone","hand"]:List Str).zip us):=by obtain ⟨_,_,rfl,h1⟩:=bT hl;obtain ⟨_,_,rfl,h2⟩:=bT h1;obtain ⟨_,_,rfl,h3⟩:=bT h2;cases len0 h3;rfl
theorem Tp (kV doc pm:Value) (an:Option Addr) (cdv ct:Value) (us:List Value) (hl:us.length=(["loads","counts","some","gone"]:List Str).length):bindArgs (PySem.W.fnOf "_law_free" "_law_free" (aM lD) (aJ lD) (aA lD) .none kV doc pm an cdv ct) ⟨us,[]⟩=pure ((["loads","counts","some","gone"]:List Str).zip us):=by obtain ⟨_,_,rfl,h1⟩:=bT hl;obtain ⟨_,_,rfl,h2⟩:=bT h1;obtain ⟨_,_,rfl,h3⟩:=bT h2;obtain ⟨_,_,rfl,h4⟩:=bT h3;cases len0 h4;rfl
theorem Je (kV doc pm:Value) (an:Option Addr) (cdv ct:Value) (us:List Value) (hl:us.length=(["one","hand"]:List Str).length):bindArgs (PySem.W.fnOf "_law_refusal" "_law_refusal" (aM gj) (aJ gj) (aA gj) .none kV doc pm an cdv ct) ⟨us,[]⟩=pure ((["one","hand"]:List Str).zip us):=by obtain ⟨_,_,rfl,h1⟩:=bT hl;obtain ⟨_,_,rfl,h2⟩:=bT h1;cases len0 h2;rfl
theorem Ti (kV doc pm:Value) (an:Option Addr) (cdv ct:Value) (us:List Value) (hl:us.length=(["one","hand","loads","counts","some","gone"]:List Str).length):bindArgs (PySem.W.fnOf "_law_step" "_law_step" (aM k_) (aJ k_) (aA k_) .none kV doc pm an cdv ct) ⟨us,[]⟩=pure ((["one","hand","loads","counts","some","gone"]:List Str).zip us):=by obtain ⟨_,_,rfl,h1⟩:=bT hl;obtain ⟨_,_,rfl,h2⟩:=bT h1;obtain ⟨_,_,rfl,h3⟩:=bT h2;obtain ⟨_,_,rfl,h4⟩:=bT h3;obtain ⟨_,_,rfl,h5⟩:=bT h4;obtain ⟨_,_,rfl,h6⟩:=bT h5;cases len0 h6;rfl
theorem all_mk {l:PySem.W.OpenLaw} {w:World} {K:PySem.W.Frag} {h:Heap} {mg:Str->Option Value} {fa f0 f1 f2 f3 f4 f5 f6 f7 f8 f9 ZV f11 f12 Xl f14 f15 f16 f17 f18 f19 f20 f21 f22 f23 f24 f25 f26 f27 f28 f29 f30 f31 f32 f33 f34 Xk f36 f37 f38 f39 f40 f41 f42 ao aq aB aY aV bD aX bL cG:Addr} (X:K.In h) (G:h.Ns mainGlobals mg) (hfa:mg "law" = some (.ref fa))
 {od0 an0 od1 an1 od2 an2 od3 an3 od4 an4 od5 an5 od6 an6 od7 an7 od8 an8 od9 an9 ahH amv ahG amu ahF amt ahE ams ahD amr ahC amq ahB amo ahA amn ahz amm ahy aml ahx amk ahw amj ahv ami ahu amh aht amg ahs amf ahr ame ahq amd ahp amc aho amb ahn ama ahm al' ahl al_ ahk al9 ahj al8 ahi al7 ahh al6 ahg al5 ahf al4 ahe al3 ahd al2 ahc al1 ahb adC:Option Addr} {sl0 sl1 sl2 sl3 sl4 sl5 sl6 sl7 sl8 sl9 agl agk agj agi agh agg agf agd agc agb aga af' af_ af9 af8 af7 af6 af5 af4 af3 af2 af0 afZ afY afX afW afV afU afT afS afR afQ afP:Array (Option Value)} {oc0 kV0 dc0 pm0 cd0 ct0 oc1 kV1 dc1 pm1 cd1 ct1 oc2 kV2 dc2 pm2 cd2 ct2 oc3 kV3 dc3 pm3 cd3 ct3 oc4 kV4 dc4 pm4 cd4 ct4 oc5 kV5 dc5 pm5 cd5 ct5 oc6 kV6 dc6 pm6 cd6 ct6 oc7 kV7 dc7 pm7 cd7 ct7 oc8 kV8 dc8 pm8 cd8 ct8 oc9 kV9 dc9 pm9 cd9 ct9 aic ajF akY ag9 adx alu aib ajE akX ag8 adw als aia ajD akW ag7 adv alr ah' ajC akV ag6 adu alq ah_ ajB akU ag5 adt alp ah9 ajA akT ag4 adq alo ah8 ajz akS ag3 adp aln ah7 ajy akR ag2 ado alm ah6 ajx akQ ag1 adn alk ah5 ajw akP ag0 adl alj ah4 ajv akO agZ adk ali ah3 aju akN agY adi alh ah2 ajt akM agX adh alg ah1 ajs akL agW adg alf ah0 ajr akK agV adf ale ahZ ajq akJ agU ade ald ahY ajp akI agT adb alc ahX ajo akH agS ada alb ahW ajn akG agR ac' ala ahV ajm akF agQ ac_ ak' ahU ajl akE agP ac9 ak_ ahT ajk akD agO ac8 ak9 ahS ajj akC agN ac7 ak8 ahR aji akB agM ac6 ak7 ahQ ajh akA agL ac5 ak6 ahP ajg akz agK ac4 ak5 ahO ajf aky agJ ac3 ak4 ahN aje akx agI ac2 ak3 ahM ajd akv agH ac1 ak2 ahL ajc aku agG ac0 ak1 ahK ajb aks agF acZ ak0 ahJ aja akr agE acY akZ ahI abX acT abA Z_ acW:Value}
 (a0:PySem.W.nsIn K mainGlobals "is_whole" = some (some (.ref f0))) (l0:K.lookup f0=some ⟨oc0,od0,.func (PySem.W.fnOf "is_whole" "is_whole" (aM fY) (aJ fY) (aA fY) .none kV0 dc0 pm0 an0 cd0 ct0),sl0⟩) (c0:PySem.W.codeIn K cd0 "is_whole" = true) (k0:PySem.W.keepIn K (.ref f0)=true)
 (a1:PySem.W.nsIn K mainGlobals "is_below" = some (some (.ref f1))) (l1:K.lookup f1=some ⟨oc1,od1,.func (PySem.W.fnOf "is_below" "is_below" (aM fZ) (aJ fZ) (aA fZ) .none kV1 dc1 pm1 an1 cd1 ct1),sl1⟩) (c1:PySem.W.codeIn K cd1 "is_below" = true) (k1:PySem.W.keepIn K (.ref f1)=true)
 (a2:PySem.W.findIn K (.ref ao) "__init__" = some (some (.ref f2))) (l2:K.lookup f2=some ⟨oc2,od2,.func (PySem.W.fnOf "__init__" "Hand.__init__" (aM fB) (aJ fB) (aA fB) .none kV2 dc2 pm2 an2 cd2 ct2),sl2⟩) (c2:PySem.W.codeIn K cd2 "Hand.__init__" = true) (k2:PySem.W.keepIn K (.ref f2)=true) (n2:PySem.W.isFn K (.ref f2)=true)
 (a3:PySem.W.nsIn K mainGlobals "cell_of" = some (some (.ref f3))) (l3:K.lookup f3=some ⟨oc3,od3,.func (PySem.W.fnOf "cell_of" "cell_of" (aM iy) (aJ iy) (aA iy) .none kV3 dc3 pm3 an3 cd3 ct3),sl3⟩) (c3:PySem.W.codeIn K cd3 "cell_of" = true) (k3:PySem.W.keepIn K (.ref f3)=true)
 (a4:PySem.W.findIn K (.ref ao) "value_of" = some (some (.ref f4))) (l4:K.lookup f4=some ⟨oc4,od4,.func (PySem.W.fnOf "value_of" "Hand.value_of" (aM cj) (aJ cj) (aA cj) .none kV4 dc4 pm4 an4 cd4 ct4),sl4⟩) (c4:PySem.W.codeIn K cd4 "Hand.value_of" = true) (k4:PySem.W.keepIn K (.ref f4)=true) (n4:PySem.W.isFn K (.ref f4)=true)
 (a5:PySem.W.findIn K (.ref ao) "holds" = some (some (.ref f5))) (l5:K.lookup f5=some ⟨oc5,od5,.func (PySem.W.fnOf "holds" "Hand.holds" (aM d8) (aJ d8) (aA d8) .none kV5 dc5 pm5 an5 cd5 ct5),sl5⟩) (c5:PySem.W.codeIn K cd5 "Hand.holds" = true) (k5:PySem.W.keepIn K (.ref f5)=true) (n5:PySem.W.isFn K (.ref f5)=true)
 (a6:PySem.W.findIn K (.ref ao) "take" = some (some (.ref f6))) (l6:K.lookup f6=some ⟨oc6,od6,.func (PySem.W.fnOf "take" "Hand.take" (aM fu) (aJ fu) (aA fu) .none kV6 dc6 pm6 an6 cd6 ct6),sl6⟩) (c6:PySem.W.codeIn K cd6 "Hand.take" = true) (k6:PySem.W.keepIn K (.ref f6)=true) (n6:PySem.W.isFn K (.ref f6)=true)
 (a7:PySem.W.findIn K (.ref ao) "do" = some (some (.ref f7))) (l7:K.lookup f7=some ⟨oc7,od7,.func (PySem.W.fnOf "do" "Hand.do" (aM iz) (aJ iz) (aA iz) .none kV7 dc7 pm7 an7 cd7 ct7),sl7⟩) (c7:PySem.W.codeIn K cd7 "Hand.do" = true) (k7:PySem.W.keepIn K (.ref f7)=true) (n7:PySem.W.isFn K (.ref f7)=true)
 (a8:PySem.W.findIn K (.ref ao) "lead_on" = some (some (.ref f8))) (l8:K.lookup f8=some ⟨oc8,od8,.func (PySem.W.fnOf "lead_on" "Hand.lead_on" (aM cR) (aJ cR) (aA cR) .none kV8 dc8 pm8 an8 cd8 ct8),sl8⟩) (c8:PySem.W.codeIn K cd8 "Hand.lead_on" = true) (k8:PySem.W.keepIn K (.ref f8)=true) (n8:PySem.W.isFn K (.ref f8)=true)
 (a9:PySem.W.nsIn K mainGlobals "check_numbers" = some (some (.ref f9))) (l9:K.lookup f9=some ⟨oc9,od9,.func (PySem.W.fnOf "check_numbers" "check_numbers" (aM cJ) (aJ cJ) (aA cJ) .none kV9 dc9 pm9 an9 cd9 ct9),sl9⟩) (c9:PySem.W.codeIn K cd9 "check_numbers" = true) (k9:PySem.W.keepIn K (.ref f9)=true)
 (a10:PySem.W.findIn K (.ref aq) "touch_by" = some (some (.ref ZV))) (l10:K.lookup ZV=some ⟨aic,ahH,.func (PySem.W.fnOf "touch_by" "Works.touch_by" (aM cB) (aJ cB) (aA cB) .none ajF akY ag9 amv adx alu),agl⟩) (c10:PySem.W.codeIn K adx "Works.touch_by" = true) (k10:PySem.W.keepIn K (.ref ZV)=true) (n10:PySem.W.isFn K (.ref ZV)=true)
 (a11:PySem.W.findIn K (.ref aq) "hand_of" = some (some (.ref f11))) (l11:K.lookup f11=some ⟨aib,ahG,.func (PySem.W.fnOf "hand_of" "Works.hand_of" (aM cL) (aJ cL) (aA cL) .none ajE akX ag8 amu adw als),agk⟩) (c11:PySem.W.codeIn K adw "Works.hand_of" = true) (k11:PySem.W.keepIn K (.ref f11)=true) (n11:PySem.W.isFn K (.ref f11)=true)
 (a12:PySem.W.findIn K (.ref aq) "turn" = some (some (.ref f12))) (l12:K.lookup f12=some ⟨aia,ahF,.func (PySem.W.fnOf "turn" "Works.turn" (aM d7) (aJ d7) (aA d7) .none ajD akW ag7 amt adv alr),agj⟩) (c12:PySem.W.codeIn K adv "Works.turn" = true) (k12:PySem.W.keepIn K (.ref f12)=true) (n12:PySem.W.isFn K (.ref f12)=true)
 {T13:Addr} {afw:Value} {afu:Option Addr} {afr:Nat} {aaV:Array (Option Value)} (a13:PySem.W.findIn K (.ref aq) "__init__" = some (some (.ref Xl))) (l13:K.lookup Xl=some ⟨ah',ahE,.func (PySem.W.fnOf "__init__" "Works.__init__" (aM bV) (aJ bV) (aA bV) (.ref T13) ajC akV ag6 ams adu alq),agi⟩) (c13:PySem.W.codeIn K adu "Works.__init__" = true) (k13:PySem.W.keepIn K (.ref Xl)=true) (n13:PySem.W.isFn K (.ref Xl)=true) (Sy:K.lookup T13=some ⟨afw,afu,.seq #[.none] afr,aaV⟩)
 (a14:PySem.W.findIn K (.ref aq) "how" = some (some (.ref f14))) (l14:K.lookup f14=some ⟨ah_,ahD,.func (PySem.W.fnOf "how" "Works.how" (aM eZ) (aJ eZ) (aA eZ) .none ajB akU ag5 amr adt alp),agh⟩) (c14:PySem.W.codeIn K adt "Works.how" = true) (k14:PySem.W.keepIn K (.ref f14)=true) (n14:PySem.W.isFn K (.ref f14)=true)
 (a15:PySem.W.findIn K (.ref aq) "counts" = some (some (.ref f15))) (l15:K.lookup f15=some ⟨ah9,ahC,.func (PySem.W.fnOf "counts" "Works.counts" (aM cQ) (aJ cQ) (aA cQ) .none ajA akT ag4 amq adq alo),agg⟩) (c15:PySem.W.codeIn K adq "Works.counts" = true) (k15:PySem.W.keepIn K (.ref f15)=true) (n15:PySem.W.isFn K (.ref f15)=true)
 (a16:PySem.W.findIn K (.ref ao) "another" = some (some (.ref f16))) (l16:K.lookup f16=some ⟨ah8,ahB,.func (PySem.W.fnOf "another" "Hand.another" (aM cT) (aJ cT) (aA cT) .none ajz akS ag3 amo adp aln),agf⟩) (c16:PySem.W.codeIn K adp "Hand.another" = true) (k16:PySem.W.keepIn K (.ref f16)=true) (n16:PySem.W.isFn K (.ref f16)=true)
 (a17:PySem.W.findIn K (.ref aq) "twin" = some (some (.ref f17))) (l17:K.lookup f17=some ⟨ah7,ahA,.func (PySem.W.fnOf "twin" "Works.twin" (aM dZ) (aJ dZ) (aA dZ) .none ajy akR ag2 amn ado alm),agd⟩) (c17:PySem.W.codeIn K ado "Works.twin" = true) (k17:PySem.W.keepIn K (.ref f17)=true) (n17:PySem.W.isFn K (.ref f17)=true)
 (a18:PySem.W.nsIn K mainGlobals "is_note" = some (some (.ref f18))) (l18:K.lookup f18=some ⟨ah6,ahz,.func (PySem.W.fnOf "is_note" "is_note" (aM iw) (aJ iw) (aA iw) .none ajx akQ ag1 amm adn alk),agc⟩) (c18:PySem.W.codeIn K adn "is_note" = true) (k18:PySem.W.keepIn K (.ref f18)=true)
 (a19:PySem.W.nsIn K mainGlobals "is_between" = some (some (.ref f19))) (l19:K.lookup f19=some ⟨ah5,ahy,.func (PySem.W.fnOf "is_between" "is_between" (aM dY) (aJ dY) (aA dY) .none ajw akP ag0 aml adl alj),agb⟩) (c19:PySem.W.codeIn K adl "is_between" = true) (k19:PySem.W.keepIn K (.ref f19)=true)
 (a20:PySem.W.nsIn K mainGlobals "check_notes" = some (some (.ref f20))) (l20:K.lookup f20=some ⟨ah4,ahx,.func (PySem.W.fnOf "check_notes" "check_notes" (aM dh) (aJ dh) (aA dh) .none ajv akO agZ amk adk ali),aga⟩) (c20:PySem.W.codeIn K adk "check_notes" = true) (k20:PySem.W.keepIn K (.ref f20)=true)
 (a21:PySem.W.nsIn K mainGlobals "has" = some (some (.ref f21))) (l21:K.lookup f21=some ⟨ah3,ahw,.func (PySem.W.fnOf "has" "has" (aM uR) (aJ uR) (aA uR) .none aju akN agY amj adi alh),af'⟩) (c21:PySem.W.codeIn K adi "has" = true) (k21:PySem.W.keepIn K (.ref f21)=true)
 (a22:PySem.W.nsIn K mainGlobals "firsts_of" = some (some (.ref f22))) (l22:K.lookup f22=some ⟨ah2,ahv,.func (PySem.W.fnOf "firsts_of" "firsts_of" (aM eY) (aJ eY) (aA eY) .none ajt akM agX ami adh alg),af_⟩) (c22:PySem.W.codeIn K adh "firsts_of" = true) (k22:PySem.W.keepIn K (.ref f22)=true)
 (a23:PySem.W.findIn K (.ref aB) "counts" = some (some (.ref f23))) (l23:K.lookup f23=some ⟨ah1,ahu,.func (PySem.W.fnOf "counts" "Replay.counts" (aM cM) (aJ cM) (aA cM) .none ajs akL agW amh adg alf),af9⟩) (c23:PySem.W.codeIn K adg "Replay.counts" = true) (k23:PySem.W.keepIn K (.ref f23)=true) (n23:PySem.W.isFn K (.ref f23)=true)
 (a24:PySem.W.findIn K (.ref aB) "done" = some (some (.ref f24))) (l24:K.lookup f24=some ⟨ah0,aht,.func (PySem.W.fnOf "done" "Replay.done" (aM dF) (aJ dF) (aA dF) .none ajr akK agV amg adf ale),af8⟩) (c24:PySem.W.codeIn K adf "Replay.done" = true) (k24:PySem.W.keepIn K (.ref f24)=true) (n24:PySem.W.isFn K (.ref f24)=true)
 (a25:PySem.W.findIn K (.ref aB) "is_over" = some (some (.ref f25))) (l25:K.lookup f25=some ⟨ahZ,ahs,.func (PySem.W.fnOf "is_over" "Replay.is_over" (aM cC) (aJ cC) (aA cC) .none ajq akJ agU amf ade ald),af7⟩) (c25:PySem.W.codeIn K ade "Replay.is_over" = true) (k25:PySem.W.keepIn K (.ref f25)=true) (n25:PySem.W.isFn K (.ref f25)=true)
 (a26:PySem.W.findIn K (.ref aB) "holding" = some (some (.ref f26))) (l26:K.lookup f26=some ⟨ahY,ahr,.func (PySem.W.fnOf "holding" "Replay.holding" (aM cD) (aJ cD) (aA cD) .none ajp akI agT ame adb alc),af6⟩) (c26:PySem.W.codeIn K adb "Replay.holding" = true) (k26:PySem.W.keepIn K (.ref f26)=true) (n26:PySem.W.isFn K (.ref f26)=true)
 (a27:PySem.W.findIn K (.ref aB) "free" = some (some (.ref f27))) (l27:K.lookup f27=some ⟨ahX,ahq,.func (PySem.W.fnOf "free" "Replay.free" (aM dD) (aJ dD) (aA dD) .none ajo akH agS amd ada alb),af5⟩) (c27:PySem.W.codeIn K ada "Replay.free" = true) (k27:PySem.W.keepIn K (.ref f27)=true) (n27:PySem.W.isFn K (.ref f27)=true)
 (a28:PySem.W.findIn K (.ref aB) "left" = some (some (.ref f28))) (l28:K.lookup f28=some ⟨ahW,ahp,.func (PySem.W.fnOf "left" "Replay.left" (aM dz) (aJ dz) (aA dz) .none ajn akG agR amc ac' ala),af4⟩) (c28:PySem.W.codeIn K ac' "Replay.left" = true) (k28:PySem.W.keepIn K (.ref f28)=true) (n28:PySem.W.isFn K (.ref f28)=true)
 (a29:PySem.W.findIn K (.ref aB) "__len__" = some (some (.ref f29))) (l29:K.lookup f29=some ⟨ahV,aho,.func (PySem.W.fnOf "__len__" "Replay.__len__" (aM cF) (aJ cF) (aA cF) .none ajm akF agQ amb ac_ ak'),af3⟩) (c29:PySem.W.codeIn K ac_ "Replay.__len__" = true) (k29:PySem.W.keepIn K (.ref f29)=true) (n29:PySem.W.isFn K (.ref f29)=true)
 (a30:PySem.W.findIn K (.ref aB) "__init__" = some (some (.ref f30))) (l30:K.lookup f30=some ⟨ahU,ahn,.func (PySem.W.fnOf "__init__" "Replay.__init__" (aM dB) (aJ dB) (aA dB) .none ajl akE agP ama ac9 ak_),af2⟩) (c30:PySem.W.codeIn K ac9 "Replay.__init__" = true) (k30:PySem.W.keepIn K (.ref f30)=true) (n30:PySem.W.isFn K (.ref f30)=true)
 (a31:PySem.W.findIn K (.ref aX) "__init__" = some (some (.ref f31))) (l31:K.lookup f31=some ⟨ahT,ahm,.func (PySem.W.fnOf "__init__" "Held.__init__" (aM fj) (aJ fj) (aA fj) .none ajk akD agO al' ac8 ak9),af0⟩) (c31:PySem.W.codeIn K ac8 "Held.__init__" = true) (k31:PySem.W.keepIn K (.ref f31)=true) (n31:PySem.W.isFn K (.ref f31)=true)
 (a32:PySem.W.findIn K (.ref aB) "turn" = some (some (.ref f32))) (l32:K.lookup f32=some ⟨ahS,ahl,.func (PySem.W.fnOf "turn" "Replay.turn" (aM dj) (aJ dj) (aA dj) .none ajj akC agN al_ ac7 ak8),afZ⟩) (c32:PySem.W.codeIn K ac7 "Replay.turn" = true) (k32:PySem.W.keepIn K (.ref f32)=true) (n32:PySem.W.isFn K (.ref f32)=true)
 (a33:PySem.W.nsIn K mainGlobals "_law_reel" = some (some (.ref f33))) (l33:K.lookup f33=some ⟨ahR,ahk,.func (PySem.W.fnOf "_law_reel" "_law_reel" (aM lB) (aJ lB) (aA lB) .none aji akB agM al9 ac6 ak7),afY⟩) (c33:PySem.W.codeIn K ac6 "_law_reel" = true) (k33:PySem.W.keepIn K (.ref f33)=true)
 (a34:PySem.W.nsIn K mainGlobals "_law_draw" = some (some (.ref f34))) (l34:K.lookup f34=some ⟨ahQ,ahj,.func (PySem.W.fnOf "_law_draw" "_law_draw" (aM lE) (aJ lE) (aA lE) .none ajh akA agL al8 ac5 ak6),afX⟩) (c34:PySem.W.codeIn K ac5 "_law_draw" = true) (k34:PySem.W.keepIn K (.ref f34)=true)
 (a35:PySem.W.nsIn K mainGlobals "_law_alike" = some (some (.ref Xk))) (l35:K.lookup Xk=some ⟨ahP,ahi,.func (PySem.W.fnOf "_law_alike" "_law_alike" (aM iK) (aJ iK) (aA iK) .none ajg akz agK al7 ac4 ak5),afW⟩) (c35:PySem.W.codeIn K ac4 "_law_alike" = true) (W9:PySem.W.keepIn K (.ref Xk)=true)
 (a36:PySem.W.nsIn K mainGlobals "_law_note" = some (some (.ref f36))) (l36:K.lookup f36=some ⟨ahO,ahh,.func (PySem.W.fnOf "_law_note" "_law_note" (aM lC) (aJ lC) (aA lC) .none ajf aky agJ al6 ac3 ak4),afV⟩) (c36:PySem.W.codeIn K ac3 "_law_note" = true) (k36:PySem.W.keepIn K (.ref f36)=true)
 (a37:PySem.W.nsIn K mainGlobals "_law_notes" = some (some (.ref f37))) (l37:K.lookup f37=some ⟨ahN,ahg,.func (PySem.W.fnOf "_law_notes" "_law_notes" (aM jj) (aJ jj) (aA jj) .none aje akx agI al5 ac2 ak3),afU⟩) (c37:PySem.W.codeIn K ac2 "_law_notes" = true) (k37:PySem.W.keepIn K (.ref f37)=true)
 (a38:PySem.W.nsIn K mainGlobals "_law_held_by" = some (some (.ref f38))) (l38:K.lookup f38=some ⟨ahM,ahf,.func (PySem.W.fnOf "_law_held_by" "_law_held_by" (aM gq) (aJ gq) (aA gq) .none ajd akv agH al4 ac1 ak2),afT⟩) (c38:PySem.W.codeIn K ac1 "_law_held_by" = true) (k38:PySem.W.keepIn K (.ref f38)=true)
 (a39:PySem.W.nsIn K mainGlobals "_law_free" = some (some (.ref f39))) (l39:K.lookup f39=some ⟨ahL,ahe,.func (PySem.W.fnOf "_law_free" "_law_free" (aM lD) (aJ lD) (aA lD) .none ajc aku agG al3 ac0 ak1),afS⟩) (c39:PySem.W.codeIn K ac0 "_law_free" = true) (k39:PySem.W.keepIn K (.ref f39)=true)
 (a40:PySem.W.nsIn K mainGlobals "_law_refusal" = some (some (.ref f40))) (l40:K.lookup f40=some ⟨ahK,ahd,.func (PySem.W.fnOf "_law_refusal" "_law_refusal" (aM gj) (aJ gj) (aA gj) .none ajb aks agF al2 acZ ak0),afR⟩) (c40:PySem.W.codeIn K acZ "_law_refusal" = true) (k40:PySem.W.keepIn K (.ref f40)=true)
 (a41:PySem.W.nsIn K mainGlobals "_law_step" = some (some (.ref f41))) (l41:K.lookup f41=some ⟨ahJ,ahc,.func (PySem.W.fnOf "_law_step" "_law_step" (aM k_) (aJ k_) (aA k_) .none aja akr agE al1 acY akZ),afQ⟩) (c41:PySem.W.codeIn K acY "_law_step" = true) (k41:PySem.W.keepIn K (.ref f41)=true)
 (a42:PySem.W.nsIn K mainGlobals "law" = some (some (.ref f42))) (l42:K.lookup f42=some ⟨ahI,ahb,.func (PySem.W.fnOf "law" "law" (aM uQ) (aJ uQ) (aA uQ) .none abX acT abA adC Z_ acW),afP⟩) (c42:PySem.W.codeIn K Z_ "law" = true) (k42:PySem.W.keepIn K (.ref f42)=true)
 (Ea:PySem.W.nsIn K mainGlobals "Hand" = some (some (.ref ao)))
 (yD:PySem.W.plainGet K ao Str.empty=true)
 (yG:PySem.W.hasDictIn K ao=true)
 (yC:PySem.W.plainOver K ao=true)
 (yx:PySem.W.findIn K (.ref ao) "__setattr__" = some (some (.builtin "object.__setattr__")))
 (yE:PySem.W.makesIn K ao=true)
 (yF:PySem.W.keepIn K (.ref ao)=true)
 (oH:PySem.W.findIn K (.ref ao) "rows" = some none)
 (sJ:PySem.W.findIn K (.ref ao) "at" = some none)
 (jD:PySem.W.findIn K (.ref ao) "in_boxes" = some none)
 (j4:PySem.W.findIn K (.ref ao) "sayings" = some none)
 (mR:PySem.W.findIn K (.ref ao) "state" = some none)
 (qd:PySem.W.nsIn K mainGlobals "Works" = some (some (.ref aq)))
 (vL:PySem.W.plainGet K aq Str.empty=true)
 (vM:PySem.W.hasDictIn K aq=true)
 (vK:PySem.W.plainOver K aq=true)
 (vJ:PySem.W.findIn K (.ref aq) "__setattr__" = some (some (.builtin "object.__setattr__")))
 (nQ:PySem.W.makesIn K aq=true)
 (nR:PySem.W.keepIn K (.ref aq)=true)
 (jz:PySem.W.findIn K (.ref aq) "program" = some none)
 (jA:PySem.W.findIn K (.ref aq) "numbers" = some none)
 (lK:PySem.W.findIn K (.ref aq) "hands" = some none)
 (lJ:PySem.W.findIn K (.ref aq) "turns" = some none)
 (vN:PySem.W.nsIn K mainGlobals "Replay" = some (some (.ref aB)))
 (sI:PySem.W.plainGet K aB Str.empty=true)
 (sU:PySem.W.hasDictIn K aB=true)
 (sG:PySem.W.plainOver K aB=true)
 (sE:PySem.W.findIn K (.ref aB) "__setattr__" = some (some (.builtin "object.__setattr__")))
 (sO:PySem.W.makesIn K aB=true)
 (sS:PySem.W.keepIn K (.ref aB)=true)
 (jB:PySem.W.findIn K (.ref aB) "record" = some none)
 (jC:PySem.W.findIn K (.ref aB) "firsts" = some none)
 (jZ:PySem.W.findIn K (.ref aB) "stage" = some none)
 (iT:PySem.W.findIn K (.ref aB) "progress" = some none)
 (qg:PySem.W.nsIn K mainGlobals "NoNumber" = some (some (.ref aY)))
 (kZ:(PySem.W.clsIn K aY).isSome=true)
 (oN:PySem.W.typeIn K (.ref aY)=some (.type "type"))
 (o7:PySem.W.subIn K (.ref aY) (.type "BaseException")=some true)
 (vP:PySem.W.nsIn K mainGlobals "NoHand" = some (some (.ref aV)))
 (oY:(PySem.W.clsIn K aV).isSome=true)
 (sX:PySem.W.typeIn K (.ref aV)=some (.type "type"))
 (tO:PySem.W.subIn K (.ref aV) (.type "BaseException")=some true)
 (Ef:PySem.W.nsIn K mainGlobals "Over" = some (some (.ref bD)))
 (uq:(PySem.W.clsIn K bD).isSome=true)
 (yK:PySem.W.typeIn K (.ref bD)=some (.type "type"))
 (zj:PySem.W.subIn K (.ref bD) (.type "BaseException")=some true)
 (yc:PySem.W.nsIn K mainGlobals "Held" = some (some (.ref aX)))
 (ur:(PySem.W.clsIn K aX).isSome=true)
 (yL:PySem.W.typeIn K (.ref aX)=some (.type "type"))
 (zm:PySem.W.subIn K (.ref aX) (.type "BaseException")=some true)
 (o8:PySem.W.nsIn K mainGlobals "NoteError" = some (some (.ref bL)))
 (m5:(PySem.W.clsIn K bL).isSome=true)
 (mU:PySem.W.typeIn K (.ref bL)=some (.type "type"))
 (m6:PySem.W.subIn K (.ref bL) (.type "BaseException")=some true)
 (vO:PySem.W.nsIn K mainGlobals "NoNote" = some (some (.ref cG)))
 (tH:(PySem.W.clsIn K cG).isSome=true)
 (sW:PySem.W.typeIn K (.ref cG)=some (.type "type"))
 (tM:PySem.W.subIn K (.ref cG) (.type "BaseException")=some true)
 (j_:(Value.ref bD==Value.ref aV)=false)
 (j6:PySem.W.subIn K (.ref bD) (.ref aV)=some false)
 (kj:(Value.ref aX==Value.ref aV)=false)
 (j8:PySem.W.subIn K (.ref aX) (.ref aV)=some false)
 (mZ:(Value.ref aX==Value.ref bD)=false)
 (mX:PySem.W.subIn K (.ref aX) (.ref bD)=some false)
 (mY:(Value.ref bD==Value.ref aX)=false)
 (mV:PySem.W.subIn K (.ref bD) (.ref aX)=some false)
 (fX:(Value.ref aY==Value.ref bL)=false)
 (fW:PySem.W.subIn K (.ref aY) (.ref bL)=some true)
 (iW:(Value.ref bD==Value.ref bL)=false)
 (iU:PySem.W.subIn K (.ref bD) (.ref bL)=some true)
 (iY:(Value.ref aX==Value.ref bL)=false)
 (iV:PySem.W.subIn K (.ref aX) (.ref bL)=some true)
 (iI:(Value.ref aY==Value.ref cG)=false)
 (iH:PySem.W.subIn K (.ref aY) (.ref cG)=some false)
 (j9:(Value.ref bD==Value.ref cG)=false)
 (j5:PySem.W.subIn K (.ref bD) (.ref cG)=some false)
 (kh:(Value.ref aX==Value.ref cG)=false)
 (j7:PySem.W.subIn K (.ref aX) (.ref cG)=some false)
 (xcg:PySem.W.specialIn K (.builtin "object.__class__") "__get__" = some (some (.builtin "getset_descriptor.__get__")))
 (xct:PySem.W.takesIn K (.builtin "object.__class__")=some true)
 (oW:PySem.W.findIn K (.ref aY) "__getattribute__" = some (some (.builtin "BaseException.__getattribute__")))
 (oU:PySem.W.findIn K (.ref aY) "__getattr__" = some none)
 (oR:PySem.W.mroIn K aY (.type "BaseException")=some true)
 (oZ:PySem.W.findIn K (.ref aY) "__class__" = some (some (.builtin "object.__class__")))
 (oO:PySem.W.mroIn K aY (.type "object")=some true)
 (oM:PySem.W.subIn K (.ref aY) (.type "ValueError")=some true)
 (oX:PySem.W.excIn K aY [.type "ValueError",.type "Exception",.type "BaseException",.type "object"] "ValueError.__new__" = true)
 (tE:PySem.W.findIn K (.ref aV) "__getattribute__" = some (some (.builtin "BaseException.__getattribute__")))
 (tu:PySem.W.findIn K (.ref aV) "__getattr__" = some none)
 (sZ:PySem.W.mroIn K aV (.type "BaseException")=some true)
 (tK:PySem.W.findIn K (.ref aV) "__class__" = some (some (.builtin "object.__class__")))
 (sY:PySem.W.mroIn K aV (.type "object")=some true)
 (sV:PySem.W.subIn K (.ref aV) (.type "ValueError")=some true)
 (tG:PySem.W.excIn K aV [.type "ValueError",.type "Exception",.type "BaseException",.type "object"] "ValueError.__new__" = true)
 (yW:PySem.W.findIn K (.ref bD) "__getattribute__" = some (some (.builtin "BaseException.__getattribute__")))
 (yU:PySem.W.findIn K (.ref bD) "__getattr__" = some none)
 (yQ:PySem.W.mroIn K bD (.type "BaseException")=some true)
 (zc:PySem.W.findIn K (.ref bD) "__class__" = some (some (.builtin "object.__class__")))
 (yP:PySem.W.mroIn K bD (.type "object")=some true)
 (yI:PySem.W.subIn K (.ref bD) (.type "ValueError")=some true)
 (yZ:PySem.W.excIn K bD [.type "ValueError",.type "Exception",.type "BaseException",.type "object"] "ValueError.__new__" = true)
 (yX:PySem.W.findIn K (.ref aX) "__getattribute__" = some (some (.builtin "BaseException.__getattribute__")))
 (yV:PySem.W.findIn K (.ref aX) "__getattr__" = some none)
 (yR:PySem.W.mroIn K aX (.type "BaseException")=some true)
 (zf:PySem.W.findIn K (.ref aX) "__class__" = some (some (.builtin "object.__class__")))
 (uo:PySem.W.mroIn K aX (.type "object")=some true)
 (yJ:PySem.W.subIn K (.ref aX) (.type "ValueError")=some true)
 (yM:PySem.W.findIn K (.ref aX) "__setattr__" = some (some (.builtin "object.__setattr__")))
 (yN:((PySem.W.clsIn K aX).any fun cd=>cd.hasDict&&PySem.W.yp cd.mro)=true)
 (za:PySem.W.hasDictIn K aX=true)
 (yO:PySem.W.findIn K (.ref aX) "note" = some none)
 (Ed:PySem.W.V2 K aX=true)
 (yS:PySem.W.keepIn K (.ref aX)=true)
 {RP:Tok} (FW:PySem.W.nsIn K mainGlobals "BOXES" = some (some (.str "abcdefgh" RP)))
 {RN:Tok} (FT:PySem.W.nsIn K mainGlobals "ROUND" = some (some (.int 1000 RN)))
 {tY:Tok} (jk:PySem.W.nsIn K mainGlobals "MOST_UNTOUCHING" = some (some (.int 60 tY)))
 (oK:PySem.W.nsIn K mainGlobals "ValueError" = some none) (PB:PySem.W.nsIn K mainGlobals "all" = some none) (Jx:PySem.W.nsIn K mainGlobals "bool" = some none) (qe:PySem.W.nsIn K mainGlobals "enumerate" = some none) (Pz:PySem.W.nsIn K mainGlobals "int" = some none) (oJ:PySem.W.nsIn K mainGlobals "isinstance" = some none) (Py:PySem.W.nsIn K mainGlobals "len" = some none) (Jw:PySem.W.nsIn K mainGlobals "list" = some none) (Px:PySem.W.nsIn K mainGlobals "max" = some none) (Pu:PySem.W.nsIn K mainGlobals "min" = some none) (Ec:PySem.W.nsIn K mainGlobals "range" = some none) (yH:PySem.W.nsIn K mainGlobals "sorted" = some none) (Pr:PySem.W.nsIn K mainGlobals "str" = some none) (Pq:PySem.W.nsIn K mainGlobals "sum" = some none) (Eb:PySem.W.nsIn K mainGlobals "tuple" = some none) (Pn:PySem.W.nsIn K mainGlobals "zip" = some none):
 ∃fd:FuncData,(∀(s:Shared) (v:Value),BindsTo s fd ⟨[v],[]⟩ [("script",v)]) /\ ∀base:Heap,K.In base->base.Ns mainGlobals mg->bZ l.prog w K mg base kY 12 fa fd ["script"] (Lg K):=by
 have e:=hfa.symm.trans (PySem.W.mg_of X G a42);cases e;have Bt:um mg:=⟨PySem.W.mg_none_of X G oK,PySem.W.mg_none_of X G PB,PySem.W.mg_none_of X G Jx,PySem.W.mg_none_of X G qe,PySem.W.mg_none_of X G Pz,PySem.W.mg_none_of X G oJ,PySem.W.mg_none_of X G Py,PySem.W.mg_none_of X G Jw,PySem.W.mg_none_of X G Px,PySem.W.mg_none_of X G Pu,PySem.W.mg_none_of X G Ec,PySem.W.mg_none_of X G yH,PySem.W.mg_none_of X G Pr,PySem.W.mg_none_of X G Pq,PySem.W.mg_none_of X G Eb,PySem.W.mg_none_of X G Pn⟩;have aN:iG K ao:=⟨⟨yD,yG,yC,yx⟩,oH,sJ,jD,j4,mR⟩;have aU:ig K aq:=⟨⟨vL,vM,vK,vJ⟩,jz,jA,lK,lJ⟩;have aL:eF K aB:=⟨⟨sI,sU,sG,sE⟩,jB,jC,jZ,iT⟩;have iD:Gv mg "BOXES" (.str "abcdefgh"):=⟨_,PySem.W.mg_of X G FW,⟨_,rfl⟩⟩;have jr:Gv mg "ROUND" (.int 1000):=⟨_,PySem.W.mg_of X G FT,⟨_,rfl⟩⟩;have gU:Gv mg "MOST_UNTOUCHING" (.int 60):=⟨_,PySem.W.mg_of X G jk,⟨_,rfl⟩⟩;have jM:Xr K mg aY "NoNumber" :=⟨PySem.W.mg_of X G qg,⟨kZ,oN,o7⟩,⟨oW,oU,oR,kZ,oZ,xcg,xct,oO⟩,oX,oM⟩;have dM:Xr K mg aV "NoHand" :=⟨PySem.W.mg_of X G vP,⟨oY,sX,tO⟩,⟨tE,tu,sZ,oY,tK,xcg,xct,sY⟩,tG,sV⟩;have fQ:Xr K mg bD "Over" :=⟨PySem.W.mg_of X G Ef,⟨uq,yK,zj⟩,⟨yW,yU,yQ,uq,zc,xcg,xct,yP⟩,yZ,yI⟩;have d_:Xf K mg aX "Held" "note" :=⟨PySem.W.mg_of X G yc,⟨ur,yL,zm⟩,⟨yX,yV,yR,ur,zf,xcg,xct,uo⟩,yJ,⟨yM,uo,yN⟩,za,yO⟩;have fV:Xo K mg aY bL "NoteError" true:=⟨PySem.W.mg_of X G o8,⟨m5,mU,m6⟩,⟨fX,fW⟩⟩;have qP:Xo K mg aY cG "NoNote" false:=⟨PySem.W.mg_of X G vO,⟨tH,sW,tM⟩,⟨iI,iH⟩⟩;have nF:jm K bD aV false:=⟨j_,j6⟩;have qM:jm K bD aX false:=⟨mY,mV⟩;have jN:jm K bD bL true:=⟨iW,iU⟩;have nA:jm K bD cG false:=⟨j9,j5⟩;have nH:jm K aX aV false:=⟨kj,j8⟩;have qN:jm K aX bD false:=⟨mZ,mX⟩;have eE:jm K aX bL true:=⟨iY,iV⟩;have nG:jm K aX cG false:=⟨kh,j7⟩;have F0:=bR (st:=fY) l0 c0 k0;have F1:=bR (st:=fZ) l1 c1 k1;have F2:=bR (st:=fB) l2 c2 k2;have F3:=bR (st:=iy) l3 c3 k3;have F4:=bR (st:=cj) l4 c4 k4;have F5:=bR (st:=d8) l5 c5 k5;have F6:=bR (st:=fu) l6 c6 k6;have F7:=bR (st:=iz) l7 c7 k7;have F8:=bR (st:=cR) l8 c8 k8;have F9:=bR (st:=cJ) l9 c9 k9;have F10:=bR (st:=cB) l10 c10 k10;have F11:=bR (st:=cL) l11 c11 k11;have F12:=bR (st:=d7) l12 c12 k12;have F13:Wk K "__init__" "Works.__init__" bV [.none] Xl _:=⟨⟨_,_,_,_,_,_,_,_,_,_,_,_,_,_,rfl,l13,c13,Sy⟩,k13⟩;have F14:=bR (st:=eZ) l14 c14 k14;have F15:=bR (st:=cQ) l15 c15 k15;have F16:=bR (st:=cT) l16 c16 k16;have F17:=bR (st:=dZ) l17 c17 k17;have F18:=bR (st:=iw) l18 c18 k18;have F19:=bR (st:=dY) l19 c19 k19;have F20:=bR (st:=dh) l20 c20 k20;have F21:=bR (st:=uR) l21 c21 k21;have F22:=bR (st:=eY) l22 c22 k22;have F23:=bR (st:=cM) l23 c23 k23;have F24:=bR (st:=dF) l24 c24 k24;have F25:=bR (st:=cC) l25 c25 k25;have F26:=bR (st:=cD) l26 c26 k26;have F27:=bR (st:=dD) l27 c27 k27;have F28:=bR (st:=dz) l28 c28 k28;have F29:=bR (st:=cF) l29 c29 k29;have F30:=bR (st:=dB) l30 c30 k30;have F31:=bR (st:=fj) l31 c31 k31;have F32:=bR (st:=dj) l32 c32 k32;have F33:=bR (st:=lB) l33 c33 k33;have F34:=bR (st:=lE) l34 c34 k34;have F35:=bR (st:=iK) l35 c35 W9;have F36:=bR (st:=lC) l36 c36 k36;have F37:=bR (st:=jj) l37 c37 k37;have F38:=bR (st:=gq) l38 c38 k38;have F39:=bR (st:=lD) l39 c39 k39;have F40:=bR (st:=gj) l40 c40 k40;have F41:=bR (st:=k_) l41 c41 k41;have F42:=bR (st:=uQ) l42 c42 k42;refine ⟨PySem.W.fnOf "law" "law" (aM uQ) (aJ uQ) (aA uQ) .none abX acT abA adC Z_ acW,fun s v=> .of_eq rfl,fun base _ _=> ?_⟩;have A0:FnAt l.prog w K mg base 1 "is_whole" ["value"] (Ux K):=⟨f0,_,Ht F0 Bt,PySem.W.mg_of X G a0,k0,F0.binds (ps:=["value"]) Jc⟩;have A1:FnAt l.prog w K mg base 2 "is_below" ["value","count"] (rA K):=⟨f1,_,Hu F1 A0,PySem.W.mg_of X G a1,k1,F1.binds (ps:=["value","count"]) Jd⟩;have A2:qR l.prog w K mg base 1 ao "Hand" ["self","rows"] [] (yh ao K):=⟨f2,_,[],Q_ F2 aN iD,⟨yE,a2,n2,yF⟩,PySem.W.mg_of X G Ea,F2.binds (ps:=["self","rows"]) Gs,.nil⟩;have A3:FnAt l.prog w K mg base 1 "cell_of" ["row"] (uJ K):=⟨f3,_,NZ F3,PySem.W.mg_of X G a3,k3,F3.binds (ps:=["row"]) KJ⟩;have amG:MethAt l.prog w K mg base 1 ao "value_of" ["self","part"] (uE ao 0 K):=⟨f4,_,Vk F4,⟨a4,n4,k4⟩,F4.binds (ps:=["self","part"]) jK⟩;have amF:MethAt l.prog w K mg base 2 ao "value_of" ["self","part"] (uE ao 1 K):=⟨f4,_,LQ (n:=0) F4 amG aN iD jr,⟨a4,n4,k4⟩,F4.binds (ps:=["self","part"]) jK⟩;have A4:MethAt l.prog w K mg base 3 ao "value_of" ["self","part"] (uE ao 2 K):=⟨f4,_,LQ (n:=1) F4 amF aN iD jr,⟨a4,n4,k4⟩,F4.binds (ps:=["self","part"]) jK⟩;have A5:MethAt l.prog w K mg base 4 ao "holds" ["self","row"] (Es ao K):=⟨f5,_,Q9 F5 A4 aN,⟨a5,n5,k5⟩,F5.binds (ps:=["self","row"]) Cm⟩;have A6:MethAt l.prog w K mg base 1 ao "take" ["self","box","number"] (Ek ao K):=⟨f6,_,Vn F6 aN iD,⟨a6,n6,k6⟩,F6.binds (ps:=["self","box","number"]) Gr⟩;have A7:MethAt l.prog w K mg base 5 ao "do" ["self","row"] (Yn ao K):=⟨f7,_,abG F7 A4 A6 A5 aN,⟨a7,n7,k7⟩,F7.binds (ps:=["self","row"]) KN⟩;have A8:MethAt l.prog w K mg base 6 ao "lead_on" ["self"] (Ep ao K):=⟨f8,_,Vq F8 A3 A7 aN gU Bt,⟨a8,n8,k8⟩,F8.binds (ps:=["self"]) xV⟩;have A9:TF l.prog w K mg base 3 "check_numbers" ["cells","count"] (tQ aY K):=⟨f9,_,Hy F9 A1 jr Bt jM,PySem.W.mg_of X G a9,k9,F9.binds (ps:=["cells","count"]) wM⟩;have A10:MethAt l.prog w K mg base 4 aq "touch_by" ["self","one"] (vU aq ao K):=⟨ZV,_,J3 F10 A3 A4 A6 aU aN,⟨a10,n10,k10⟩,F10.binds (ps:=["self","one"]) vq⟩;have A11:jq l.prog w K mg base 3 aq "hand_of" ["self","hand"] (uH aq ao aV K):=⟨f11,_,NK F11 A1 aU Bt dM,⟨a11,n11,k11⟩,F11.binds (ps:=["self","hand"]) wN⟩;have A12:jq l.prog w K mg base 7 aq "turn" ["self","hand"] (JF aq ao aV bD K):=⟨f12,_,Vm F12 A11 A10 A8 aU aN fQ,⟨a12,n12,k12⟩,F12.binds (ps:=["self","hand"]) Ck⟩;have G13:=QX F13 aU aN A9 A2 A8 Bt;have A13:vG l.prog w K mg base 7 aq "Works" ["self","program","cells"] [] (rm aq ao aY K):=⟨Xl,_,_,G13,⟨nQ,a13,n13,nR⟩,PySem.W.mg_of X G qd,Bq Sy,.nil⟩;have adU:vG l.prog w K mg base 7 aq "Works" ["self","program","cells"] [.non] (rm aq ao aY K):=⟨Xl,_,_,G13,⟨nQ,a13,n13,nR⟩,PySem.W.mg_of X G qd,Bp Sy,.cons rfl .nil⟩;have aos:Wi l.prog w K mg base 7 aq "Works" ["self","program","cells"] "cells" (rm aq ao aY K):=⟨Xl,_,G13,⟨nQ,a13,n13,nR⟩,PySem.W.mg_of X G qd,Bo Sy⟩;have A14:jq l.prog w K mg base 4 aq "how" ["self","hand"] (Qo aq ao aV K):=⟨f14,_,Y9 F14 A11 aU aN,⟨a14,n14,k14⟩,F14.binds (ps:=["self","hand"]) Gp⟩;have A15:MethAt l.prog w K mg base 1 aq "counts" ["self"] (zL aq ao K):=⟨f15,_,NT F15 aU Bt,⟨a15,n15,k15⟩,F15.binds (ps:=["self"]) xU⟩;have A16:MethAt l.prog w K mg base 3 ao "another" ["self"] (vY ao K):=⟨f16,_,Kc F16 aN A2 Bt,⟨a16,n16,k16⟩,F16.binds (ps:=["self"]) xW⟩;have A17:MethAt l.prog w K mg base 9 aq "twin" ["self"] (JD aq ao K):=⟨f17,_,Vl F17 aU aN A13.calm A16 Bt,⟨a17,n17,k17⟩,F17.binds (ps:=["self"]) Cj⟩;have A18:FnAt l.prog w K mg base 2 "is_note" ["value"] (zH K):=⟨f18,_,J9 F18 A0 Bt,PySem.W.mg_of X G a18,k18,F18.binds (ps:=["value"]) KD⟩;have A19:FnAt l.prog w K mg base 3 "is_between" ["counts","note"] (vX K):=⟨f19,_,BZ F19 A1 A18 Bt,PySem.W.mg_of X G a19,k19,F19.binds (ps:=["counts","note"]) Ci⟩;have A20:FnAt l.prog w K mg base 4 "check_notes" ["record"] (zM K):=⟨f20,_,Ad F20 A19 Bt,PySem.W.mg_of X G a20,k20,F20.binds (ps:=["record"]) Bg⟩;have A21:FnAt l.prog w K mg base 1 "has" ["done","touch"] (Qp K):=⟨f21,_,Y_ F21,PySem.W.mg_of X G a21,k21,F21.binds (ps:=["done","touch"]) aae⟩;have A22:FnAt l.prog w K mg base 1 "firsts_of" ["record"] (zK K):=⟨f22,_,NQ F22,PySem.W.mg_of X G a22,k22,F22.binds (ps:=["record"]) Gn⟩;have A23:MethAt l.prog w K mg base 1 aB "counts" ["self"] (vV aB aq ao K):=⟨f23,_,J5 F23 aL Bt,⟨a23,n23,k23⟩,F23.binds (ps:=["self"]) wO⟩;have A24:MethAt l.prog w K mg base 1 aB "done" ["self"] (Eo aB aq ao K):=⟨f24,_,Q7 F24 aL Bt,⟨a24,n24,k24⟩,F24.binds (ps:=["self"]) Bm⟩;have A25:MethAt l.prog w K mg base 5 aB "is_over" ["self","hand"] (uF aB aq ao K):=⟨f25,_,Nz F25 aL aU A14.calm Bt,⟨a25,n25,k25⟩,F25.binds (ps:=["self","hand"]) vA⟩;have A26:MethAt l.prog w K mg base 2 aB "holding" ["self","hand"] (Et aB aq ao K):=⟨f26,_,J_ F26 aL A21 Bt,⟨a26,n26,k26⟩,F26.binds (ps:=["self","hand"]) vB⟩;have A27:MethAt l.prog w K mg base 6 aB "free" ["self"] (En aB aq ao K):=⟨f27,_,Q5 F27 aL A25 A26 Bt,⟨a27,n27,k27⟩,F27.binds (ps:=["self"]) Bl⟩;have A28:MethAt l.prog w K mg base 1 aB "left" ["self"] (JH aB aq ao K):=⟨f28,_,Vp F28 aL Bt,⟨a28,n28,k28⟩,F28.binds (ps:=["self"]) Bj⟩;have A29:MethAt l.prog w K mg base 2 aB "__len__" ["self"] (JG aB aq ao K):=⟨f29,_,Vo F29 aL A28 Bt,⟨a29,n29,k29⟩,F29.binds (ps:=["self"]) vC⟩;have A30:vG l.prog w K mg base 10 aB "Replay" ["self","works","record"] [] (Em aB aq ao aV K):=⟨f30,_,[],Q0 F30 dM aL aU A20 A15 A22 A17 Bt,⟨sO,a30,n30,sS⟩,PySem.W.mg_of X G vN,F30.binds (ps:=["self","works","record"]) Bk,.nil⟩;have A31:DY l.prog w K mg base 1 aX "Held" ["self","note"] (yg aX K):=⟨f31,_,Ra F31 d_,a31,beq_iff_eq.mp n31,Ed,PySem.W.mg_of X G yc,yS,F31.binds (ps:=["self","note"]) Gq⟩;have A32:jq l.prog w K mg base 8 aB "turn" ["self","hand"] (yd aB aq ao aV bD aX K):=⟨f32,_,QZ F32 dM fQ aL aU A1 A25 A26 A12 A31 Bt,⟨a32,n32,k32⟩,F32.binds (ps:=["self","hand"]) Bh⟩;have A33:FnAt l.prog w K mg base 1 "_law_reel" ["script"] (El K):=⟨f33,_,Q6 F33 Bt,PySem.W.mg_of X G a33,k33,F33.binds (ps:=["script"]) Tj⟩;have A34:FnAt l.prog w K mg base 1 "_law_draw" ["reel","many"] (uI K):=⟨f34,_,Rb F34 Bt,PySem.W.mg_of X G a34,k34,F34.binds (ps:=["reel","many"]) Tq⟩;have adK:FnAt l.prog w K mg base 1 "_law_alike" ["found","due"] (jR 0 K):=⟨Xk,_,N5 F35,PySem.W.mg_of X G a35,W9,F35.binds (ps:=["found","due"]) oF⟩;have adJ:FnAt l.prog w K mg base 2 "_law_alike" ["found","due"] (jR 1 K):=⟨Xk,_,rF (n:=0) F35 adK Bt,PySem.W.mg_of X G a35,W9,F35.binds (ps:=["found","due"]) oF⟩;have adI:FnAt l.prog w K mg base 3 "_law_alike" ["found","due"] (jR 2 K):=⟨Xk,_,rF (n:=1) F35 adJ Bt,PySem.W.mg_of X G a35,W9,F35.binds (ps:=["found","due"]) oF⟩;have adH:FnAt l.prog w K mg base 4 "_law_alike" ["found","due"] (jR 3 K):=⟨Xk,_,rF (n:=2) F35 adI Bt,PySem.W.mg_of X G a35,W9,F35.binds (ps:=["found","due"]) oF⟩;have A35:FnAt l.prog w K mg base 5 "_law_alike" ["found","due"] (jR 4 K):=⟨Xk,_,rF (n:=3) F35 adH Bt,PySem.W.mg_of X G a35,W9,F35.binds (ps:=["found","due"]) oF⟩;have A36:FnAt l.prog w K mg base 2 "_law_note" ["reel","counts"] (zG K):=⟨f36,_,Ny F36 A34 Bt,PySem.W.mg_of X G a36,k36,F36.binds (ps:=["reel","counts"]) Tn⟩;have A37:FnAt l.prog w K mg base 3 "_law_notes" ["reel","counts"] (vW K):=⟨f37,_,J8 F37 A34 A36 Bt,PySem.W.mg_of X G a37,k37,F37.binds (ps:=["reel","counts"]) O6⟩;have A38:FnAt l.prog w K mg base 1 "_law_held_by" ["some","gone","hand"] (uG K):=⟨f38,_,Ka F38 Bt,PySem.W.mg_of X G a38,k38,F38.binds (ps:=["some","gone","hand"]) Jf⟩;have A39:FnAt l.prog w K mg base 2 "_law_free" ["loads","counts","some","gone"] (zJ K):=⟨f39,_,NP F39 A38 Bt,PySem.W.mg_of X G a39,k39,F39.binds (ps:=["loads","counts","some","gone"]) Tp⟩;have A40:FnAt l.prog w K mg base 9 "_law_refusal" ["one","hand"] (mG aB aq ao bD aX K):=⟨f40,_,Fl F40 dM fQ d_ fV qP nF qM jN nA nH qN eE nG aL A32 Bt,PySem.W.mg_of X G a40,k40,F40.binds (ps:=["one","hand"]) Je⟩;have A41:FnAt l.prog w K mg base 10 "_law_step" ["one","hand","loads","counts","some","gone"] (zF aB aq ao K):=⟨f41,_,Nv F41 fQ d_ fV eE aL A40 A38 A31 A32.calm A35 Bt,PySem.W.mg_of X G a41,k41,F41.binds (ps:=["one","hand","loads","counts","some","gone"]) Ti⟩;exact Y8 F42 aL A33 A34 A37 adU.calm A30.calm A39 A27 A23 A24 A29 A35 A41 Bt
theorem walk {l:PySem.W.OpenLaw} {q:Program} {loose:List Str} {XP:(Str->Option Value)->Heap->Prop} {YP:World->Heap->Prop} {d:DefRec} {K:Params->PySem.W.Frag} (hn:l.most=some 63) (hdf:d.params.defaults=[])
 (hY:∀(w:World) (h:Heap),YP w h->(K w.params).In h)
 (F:∀(w:World) (mg:Str->Option Value) (fa:Addr) (h:Heap),(K w.params).In h->h.Ns mainGlobals mg->mg d.name=some (.ref fa) ->
   ∃fd:FuncData,(∀(s:Shared) (u:Value),BindsTo s fd ⟨[u],[]⟩ [("script",u)]) /\ ∀base:Heap,(K w.params).In base->base.Ns mainGlobals mg->bZ l.prog w (K w.params) mg base kY 12 fa fd ["script"] (Lg (K w.params))):
 PySem.W.WalkO q loose XP YP l.row.toRowW d [] (fun f vs=>PySem.call f vs):=
 L2.Uh (n:=63) (k:=12) (x:= "script") (CX:=fun _=>kY) (sp:=fun w=>Lg (K w.params)) hn (by decide) hdf ⟨rfl,by decide,by decide⟩ hY F (fun _ _ a ns hl _ hS=>⟨a,ns,rfl,hS,hl,fun _=>rfl⟩) fun _ _ _ _ _ z=>z
end Prf
namespace PySem.W.Fast
def tw1597863488581686027:=()
def tw8588452275001748022:=()
def tw16668688110957245080:=()
def tw17653492422026930291:=()
def tw9270028582673396944:=()
def tw225050982970755979:=()
def tw18053695499373179499:=()
def tw16521947009453705967:=()
def tw16625897880478680586:=()
def tw15247276717903738044:=()
def tw6507436585025091999:=()
def tw5651115468969527112:=()
def tw11125856193911984194:=()
def tw16957413075095224680:=()
def tw1100233214295908243:=()
def tw7926199488007454753:=()
def tw15638907906139460276:=()
def tw15694821899279819487:=()
def tw16749123433232031950:=()
def tw14958612923042588697:=()
def tw5112325188625231757:=()
def tw11919095944829712830:=()
def tw14693050475651326122:=()
def tw16757679434343974587:=()
def tw4307294866391357763:=()
def tw2643087428576853473:=()
def tw6090439929435562947:=()
def tw13801163288058060322:=()
def tw18114641998315661788:=()
def tw13931634833262914018:=()
def tw5152998735697575799:=()
def tw5417200181966981829:=()
def tw14031290229450648527:=()
def tw13919319212076925801:=()
def tw15836928373462105937:=()
def tw9347588817838647849:=()
def tw13874613905321740193:=()
def tw5874853407312695334:=()
def tw80878391547681740:=()
def tw4172018471393291550:=()
def tw15606370450740384999:=()
def tw12647032778095556374:=()
def tw13040487732308426657:=()
def tw11224615737940351802:=()
def tw11319675671906035289:=()
def tw15608430959925414442:=()
def tw17967923864345251376:=()
def tw3985251592256886097:=()
def tw14645140194842203231:=()
def tw2682387883455060158:=()
def tw972906888767212002:=()
def tw853372156240758921:=()
def tw15285180120973369861:=()
def tw1068948505403190396:=()
def tw9397056989253762695:=()
def tw18311414147806121973:=()
def tw16811564063944142875:=()
def tw9535766997017564066:=()
def tw10808178010339354427:=()
def tw328287953661029942:=()
def tw7567040274477955066:=()
def tw7237019651935951498:=()
def tw3733811216049834358:=()
def tw12126642172450626674:=()
def tw13813344863246073696:=()
def tw5072361822527100155:=()
def tw15293678672028437027:=()
def tw316138037833019138:=()
def tw13150439251163903692:=()
def tw17046053986684802166:=()
def tw6432951271910398179:=()
def tw14821455077775901248:=()
def tw16619039163715553622:=()
def tw11128729246534178993:=()
def tw11156782708479812687:=()
def tw8806580376972388838:=()
def tw11120414155972123736:=()
def tw2410866957773562688:=()
def tw10117131853101466622:=()
def tw4105158719596469355:=()
def tw8563070518776777208:=()
def tw14777529878621412035:=()
def tw16854916661173386935:=()
def tw10423941619631563774:=()
def tw8339537646847823331:=()
def tw5483978722215094769:=()
def tw2307779491329350346:=()
def tw17160034189917197553:=()
def tw10788777647231444370:=()
def tw1133232522257275160:=()
def tw17388415118466136823:=()
def tw7651007777381859863:=()
def tw14357132922663809442:=()
def tw4461287997235784097:=()
def tw240336924376535895:=()
def tw8537361831144349916:=()
def tw13367920217033012787:=()
def tw15696906346352969300:=()
def tw11401276003846140086:=()
def tw3718171103875289751:=()
def tw2029295657059810236:=()
def tw288866688623326773:=()
def tw10836415297464512119:=()
def tw8404425190967169755:=()
def tw5186884297963284835:=()
def tw14769105036503792762:=()
def tw10609603055437044170:=()
def tw13665844580774788390:=()
def tw3369512984396562095:=()
def tw16889162782220470025:=()
def tw10300911629950415719:=()
def tw6979829499123720358:=()
def tw12877203552686426287:=()
def tw17549013726333028853:=()
def tw4282616768378877452:=()
def tw18014734683967545865:=()
def tw18278367280338670627:=()
def tw15584735573750226099:=()
def tw6390317312919353060:=()
def tw9015758166701827517:=()
def tw17170776132202412740:=()
def tw16899419093748593943:=()
def tw13892821632676118842:=()
def tw10773481374555741058:=()
def tw14150477138928842324:=()
def tw16890452103920330074:=()
def tw9405810701702788805:=()
def tw15635363229486689519:=()
def tw4469152484357338138:=()
def tw6522153691125351379:=()
def tw15134238116184762431:=()
def tw1968921947806416003:=()
def tw97713638241604901:=()
def tw9288568913259433074:=()
def tw10770165441926608181:=()
def tw13393230551905474612:=()
def tw17735683515132058166:=()
def tw4077710378801418317:=()
def tw9118541465945667687:=()
def tw3295726465757950402:=()
def tw9941756274396944325:=()
def tw10960551820689719989:=()
def tw13370604454596490883:=()
def tw4867873494454503085:=()
def tw16489480925010343460:=()
def tw1237758291191696491:=()
def tw4033267361378509109:=()
def tw3115944923057890425:=()
def tw16278502535101296333:=()
def tw16054706375431787949:=()
def tw12055821793375608965:=()
def tw192829046648974330:=()
def tw15281200998353050994:=()
def tw551051519937183070:=()
def tw16446326800170864871:=()
def tw9032663651033070023:=()
def tw14288744057080830009:=()
def tw901717941544548044:=()
def tw4252934707225019601:=()
def tw10239328141063452354:=()
def tw7403961490462265498:=()
def tw11302127832050412322:=()
def tw10704208249559888642:=()
def tw11791124816168556711:=()
def tw9382206652504998064:=()
def tw17735098579471497598:=()
def tw15236875158841155420:=()
def tw13067899748052746793:=()
def tw14093826122218290813:=()
def tw16640839486562168191:=()
def tw12687653377071194933:=()
def tw10597318596987487651:=()
def tw17580724057626307965:=()
def tw2877292459353322025:=()
def tw2768584267086620437:=()
def tw12425461205607106914:=()
def tw15352371624056681523:=()
def tw6566438432436073966:=()
def tw17464118682622495578:=()
def tw14331077308696851329:=()
def tw12923465262378615062:=()
def tw11738564488413658263:=()
def tw11077735111141262779:=()
def tw16438207621864480247:=()
def tw1266157263208774747:=()
def tw252923997060318524:=()
def tw5415977983669332287:=()
def tw3327296616335989917:=()
def tw222868794323695835:=()
def tw4678444355011103420:=()
def tw2944878818418071840:=()
def tw14647512338700517182:=()
def tw13931530673649629027:=()
def tw11839151761347936989:=()
def tw12433021672385797807:=()
def tw10585891561377213217:=()
def tw2986187307983582335:=()
def tw2102957896035407786:=()
def tw9371452122930326670:=()
def tw10845751720421890262:=()
def tw2914399703043737669:=()
def tw479324574050436576:=()
def tw10176666816246247119:=()
def tw12181634374242795965:=()
def tw6620601311725034624:=()
def tw16184159462938327835:=()
def tw4352911794013227508:=()
def tw2249515399843400658:=()
def tw9695099316373739148:=()
def tw18052438227651259391:=()
def tw15488889769169181755:=()
def tw13594833274596204905:=()
def tw18035898816270740340:=()
def tw333451832814208803:=()
def tw16248620533881382818:=()
def tw6221958624494441489:=()
def tw17571542524848916567:=()
def tw14961441310063143606:=()
def tw1178569142514154481:=()
def tw6761481498420974972:=()
def tw4073835852830122635:=()
def tw9426842656413046845:=()
def tw17661105310446768426:=()
def tw6102925825341349127:=()
def tw15064826521027814329:=()
def tw5444345556519488071:=()
def tw5376167499643309428:=()
def tw11737165854817040737:=()
def tw5392963895369394650:=()
def tw11569261693564844637:=()
def tw10383069922293882945:=()
def tw16862460971650373321:=()
def tw9857499670727992279:=()
def tw11584040549740943776:=()
def tw7186495582857840813:=()
def tw12172629057701665027:=()
def tw3570071334794822610:=()
def tw12169024702428805147:=()
def tw3076643611086859437:=()
def tw17582389145859712573:=()
def tw9641643122737589812:=()
def tw10936841892295119630:=()
def tw851322822348629127:=()
def tw6076687885617575121:=()
def tw2530478956876564912:=()
def tw3807593668690166554:=()
def tw6341481672656589633:=()
def tw10720568706894217888:=()
def tw917943945379637674:=()
def tw5229730413976878340:=()
def tw7280351175289721516:=()
def tw7375738846452957355:=()
def tw16747017789010900635:=()
def tw3124532714405307304:=()
def tw1166384783891899530:=()
def tw13670703033006110158:=()
def tw14193552326079465194:=()
def tw10883887525097406721:=()
def tw15526798139113990968:=()
def tw12598928452048230907:=()
def tw13841156850948971808:=()
def tw1555129108443079005:=()
def tw9363319044844230802:=()
def tw15971825689953309706:=()
def tw3975800763998581932:=()
def tw10130199411944606522:=()
def tw12708984502174478699:=()
def tw11571404767499986018:=()
def tw15906518680450285203:=()
def tw8786460807817928879:=()
def tw16578243621761118758:=()
def tw5068095523714330935:=()
def tw3740724533971687945:=()
def tw9172724981849258478:=()
def tw18341039676983859960:=()
def tw1688260617100651015:=()
def tw15464354794249466281:=()
def tw15336259343153223330:=()
def tw17239164344217944783:=()
def tw11367028082666140008:=()
def tw16444351786104851899:=()
def tw16559635221315687426:=()
def tw10648392855448196825:=()
def tw17636525635527079394:=()
def tw15404639054486631248:=()
def tw2513454836651429472:=()
def tw3770786965984548386:=()
def tw406823191295063738:=()
def tw9832373749570973290:=()
def tw16063669320465672043:=()
def tw4142804920646844450:=()
def tw419165531152359607:=()
def tw6067493937669046774:=()
def tw18206324187309529643:=()
def tw5339757306385196721:=()
def tw999153928283632826:=()
def tw3350699148789791726:=()
def tw6597218051904808998:=()
def tw2315016520954075001:=()
def tw3118364247832504967:=()
def tw11072553809018201638:=()
def tw14230131472407190266:=()
def tw4607320877953565622:=()
def tw2291758082195659083:=()
def tw1902738109397499815:=()
def tw16485481455204692492:=()
def tw6266434997540908756:=()
def tw7919895960117196087:=()
def tw17167530682576291786:=()
def tw9167935178477087881:=()
def tw8729936747376789837:=()
def tw18303250283045332888:=()
def tw3661190454541004237:=()
def tw8913695617832600164:=()
def tw5764480752863527412:=()
def tw8597840832626447738:=()
def tw13218886453309762510:=()
def tw18088658207399515028:=()
def tw12233501496172679219:=()
def tw10232875673811690182:=()
def tw18096924254181023663:=()
def tw16275740710623339448:=()
def tw3513890776502730579:=()
def tw8807495941552847177:=()
def tw14787674044040814389:=()
def tw3891789461977479147:=()
def tw5561849275719635759:=()
def tw14540082086729621048:=()
def tw11048864743536319822:=()
def tw4603520359043258686:=()
def tw4094088111567174055:=()
def tw10520308389670036812:=()
def tw16765430971263730379:=()
def tw9770426653496803978:=()
def tw5731879505107235799:=()
def tw1954462383494054442:=()
def tw3123790238038862894:=()
def tw8896758179971172930:=()
def tw3334892981302586519:=()
def tw8317680689537295361:=()
def tw18198252139372269627:=()
def tw5601994748069772796:=()
def tw5915656803074834753:=()
def tw13434797541510055069:=()
def tw10390373168879216546:=()
def tw4117835384640108092:=()
def tw11560267247335021194:=()
def tw9475790394868963172:=()
def tw7220072766058316512:=()
def tw3806937963721234189:=()
def tw17898139986168194052:=()
def tw5980893088788102736:=()
def tw10006267027368286273:=()
def tw1009222060118187510:=()
def tw13858467702941673916:=()
def tw4935551413045045113:=()
def tw4284292815389357172:=()
def tw2574749682992408999:=()
def tw17842275843968832435:=()
def tw5632047671610355604:=()
def tw6591772097877552128:=()
def tw1930644334532691619:=()
def tw2380422187788170166:=()
def tw4472647204159683796:=()
def tw14970077939892322276:=()
def tw12174621481877448118:=()
def tw18216485620222039954:=()
def tw8790821906361757437:=()
def tw2148718597294966844:=()
def tw16245553062666821984:=()
def tw15948331876652764475:=()
def tw6805437855738477296:=()
def tw15440973239832283411:=()
def tw1227518437901042881:=()
def tw850649813687544731:=()
def tw8693501926505164939:=()
def tw16247417839311488290:=()
def tw4107798899449560005:=()
def tw7008476264886032267:=()
def tw997880571431430637:=()
def tw5855913988764427826:=()
def tw8270252913716778786:=()
def tw11403580548875015521:=()
def tw14759349587802987208:=()
def tw9147475275567345287:=()
def tw7825412294838650421:=()
def tw13956314978204753014:=()
def tw16541907850507795653:=()
def tw8453203508402728102:=()
def tw12532527499454892671:=()
def tw13625781929980590944:=()
def tw14136252604714410520:=()
def tw552007572701251524:=()
def tw6437042734203332195:=()
def tw12967555652178912501:=()
def tw2578270592047711933:=()
def tw9382647520641715383:=()
def tw16834790423066005029:=()
def tw6360097414820505913:=()
def tw17865591623899356616:=()
def tw17824011831323941245:=()
def tw2562867472810062400:=()
def tw14362387183191285014:=()
def tw17748610311135983131:=()
def tw17709582766712030481:=()
def tw9738481118194870066:=()
def tw5160742896939677085:=()
def tw4186388305237865441:=()
def tw14668237098843729239:=()
def tw6953498270598271261:=()
def tw6781257608914353296:=()
def tw8525734653170742994:=()
def tw1956002552062681278:=()
def tw15741879952899522773:=()
def tw16790773777318659510:=()
def tw16325469240400880598:=()
def tw18167942030888748243:=()
def tw12708923621626711859:=()
def tw6766814507132944702:=()
def tw5953064827217461382:=()
def tw11951811378066772569:=()
def tw13673434843485596168:=()
def tw7873504759795140640:=()
def tw3079988897493329917:=()
def tw2142249856554170861:=()
def tw17687740819580056834:=()
def tw320480098694259848:=()
def tw13253620798254705687:=()
def tw17342431627319724772:=()
def tw4139231739525391824:=()
def tw6482735891825117842:=()
def tw13608191958620351199:=()
def tw18423536289634490644:=()
def tw17693969839959382786:=()
def tw13455564271417253570:=()
def tw11385621525699347208:=()
def tw5501532816277029231:=()
def tw13703047524714218539:=()
def tw3795570334641302909:=()
def tw17443246574037869136:=()
def tw9707974896465558436:=()
def tw7630479016422516268:=()
def tw12658540389570312118:=()
def tw17281499953035373149:=()
def tw12380158313429307034:=()
def tw17651331693507816580:=()
def tw2891409864642414588:=()
def tw1252111204416681690:=()
def tw2138172040878417664:=()
def tw13213368161618462656:=()
def tw4422241488858457892:=()
def tw11382738580626565580:=()
def tw8419255156274354034:=()
def tw7132990649608373157:=()
def tw9813289497312946030:=()
def tw13382983823080312536:=()
def tw9969274169030382895:=()
def tw12499904124601510314:=()
def tw9255126131563399215:=()
def tw17988330809213907945:=()
def tw1753009874530077757:=()
def tw5470644501133475385:=()
def tw1303490944066828593:=()
def tw12733542350507306283:=()
def tw5497787483870306536:=()
def tw1551855117902991653:=()
def tw3749508890958204232:=()
def tw1502264220141759706:=()
def tw4817323904715825644:=()
def tw591173122569470481:=()
def tw16565121597660594169:=()
def tw8987954873256753292:=()
def tw2834597170731239314:=()
def tw2969026669687421654:=()
def tw5640701033136814647:=()
def tw14754599890935919173:=()
def tw1838226690937175654:=()
def tw2278883676860437875:=()
def tw9195809517955704380:=()
def tw4637578124344890029:=()
def tw8906098813722845032:=()
def tw6153510889434932684:=()
def tw1690202616415789858:=()
def tw4568132072492681688:=()
def tw17333423530059011342:=()
def tw16531318887815035988:=()
def tw5304690021700961898:=()
def tw396310962794061564:=()
def tw3793312928464830646:=()
def tw16620825102262949318:=()
def tw8512447452372745552:=()
def tw3995699883528249015:=()
def tw16965050568893167986:=()
def tw5968583977327260543:=()
def tw2252624737662404175:=()
def tw1250032889785309136:=()
def tw14449784650566524396:=()
def tw10904617680450577567:=()
def tw13438725302794687870:=()
def tw16305738436549226463:=()
def tw3791077853901128490:=()
def tw39906259683660607:=()
def tw18144337059793430085:=()
def tw4261486673760804292:=()
def tw10643669908073645661:=()
def tw15226416498672915504:=()
def tw5308043000380792178:=()
end PySem.W.Fast
open PySem PySem.W PyProof.Rows
set_option maxRecDepth 100000 in
set_option maxHeartbeats 0 in
theorem PySem.Challenge.cw_fewnotes_k52_held_holds : PySem.Challenge.rw_fewnotes_k52_held.Holds := by
 w_on;o_law;k_head;(case hw=>w_witness2)
 k_fill
 refine Prf.walk (l:=PySem.Challenge.rw_fewnotes_k52_held) rfl rfl (fun w h Y=>PySem.W.kIn_of Y) ?F
 case F=>
  intro w mg fa h KX G hmg
  replace hmg:mg (Str.ofString "law")=some (.ref fa):=hmg
  refine' Prf.all_mk KX G hmg ?a0 ?l0 ?c0 ?k0 ?a1 ?l1 ?c1 ?k1 ?a2 ?l2 ?c2 ?k2 ?n2 ?a3 ?l3 ?c3 ?k3 ?a4 ?l4 ?c4 ?k4 ?n4 ?a5 ?l5 ?c5 ?k5 ?n5 ?a6 ?l6 ?c6 ?k6 ?n6 ?a7 ?l7 ?c7 ?k7 ?n7 ?a8 ?l8 ?c8 ?k8 ?n8 ?a9 ?l9 ?c9 ?k9 ?a10 ?l10 ?c10 ?k10 ?n10 ?a11 ?l11 ?c11 ?k11 ?n11 ?a12 ?l12 ?c12 ?k12 ?n12 ?a13 ?l13 ?c13 ?k13 ?n13 ?Sy ?a14 ?l14 ?c14 ?k14 ?n14 ?a15 ?l15 ?c15 ?k15 ?n15 ?a16 ?l16 ?c16 ?k16 ?n16 ?a17 ?l17 ?c17 ?k17 ?n17 ?a18 ?l18 ?c18 ?k18 ?a19 ?l19 ?c19 ?k19 ?a20 ?l20 ?c20 ?k20 ?a21 ?l21 ?c21 ?k21 ?a22 ?l22 ?c22 ?k22 ?a23 ?l23 ?c23 ?k23 ?n23 ?a24 ?l24 ?c24 ?k24 ?n24 ?a25 ?l25 ?c25 ?k25 ?n25 ?a26 ?l26 ?c26 ?k26 ?n26 ?a27 ?l27 ?c27 ?k27 ?n27 ?a28 ?l28 ?c28 ?k28 ?n28 ?a29 ?l29 ?c29 ?k29 ?n29 ?a30 ?l30 ?c30 ?k30 ?n30 ?a31 ?l31 ?c31 ?k31 ?n31 ?a32 ?l32 ?c32 ?k32 ?n32 ?a33 ?l33 ?c33 ?k33 ?a34 ?l34 ?c34 ?k34 ?a35 ?l35 ?c35 ?W9 ?a36 ?l36 ?c36 ?k36 ?a37 ?l37 ?c37 ?k37 ?a38 ?l38 ?c38 ?k38 ?a39 ?l39 ?c39 ?k39 ?a40 ?l40 ?c40 ?k40 ?a41 ?l41 ?c41 ?k41 ?a42 ?l42 ?c42 ?k42 ?Ea ?yD ?yG ?yC ?yx ?yE ?yF ?oH ?sJ ?jD ?j4 ?mR ?qd ?vL ?vM ?vK ?vJ ?nQ ?nR ?jz ?jA ?lK ?lJ ?vN ?sI ?sU ?sG ?sE ?sO ?sS ?jB ?jC ?jZ ?iT ?qg ?kZ ?oN ?o7 ?vP ?oY ?sX ?tO ?Ef ?uq ?yK ?zj ?yc ?ur ?yL ?zm ?o8 ?m5 ?mU ?m6 ?vO ?tH ?sW ?tM ?j_ ?j6 ?kj ?j8 ?mZ ?mX ?mY ?mV ?fX ?fW ?iW ?iU ?iY ?iV ?iI ?iH ?j9 ?j5 ?kh ?j7 ?xcg ?xct ?oW ?oU ?oR ?oZ ?oO ?oM ?oX ?tE ?tu ?sZ ?tK ?sY ?sV ?tG ?yW ?yU ?yQ ?zc ?yP ?yI ?yZ ?yX ?yV ?yR ?zf ?uo ?yJ ?yM ?yN ?za ?yO ?Ed ?yS ?FW ?FT ?jk ?oK ?PB ?Jx ?qe ?Pz ?oJ ?Py ?Jw ?Px ?Pu ?Ec ?yH ?Pr ?Pq ?Eb ?Pn
  (case Ea=>k_is)
  (case yD=>k_is)
  (case yG=>k_is)
  (case yC=>k_is)
  (case yx=>k_is)
  (case yE=>k_is)
  (case yF=>k_is)
  (case oH=>k_is)
  (case sJ=>k_is)
  (case jD=>k_is)
  (case j4=>k_is)
  (case mR=>k_is)
  (case qd=>k_is)
  (case vL=>k_is)
  (case vM=>k_is)
  (case vK=>k_is)
  (case vJ=>k_is)
  (case nQ=>k_is)
  (case nR=>k_is)
  (case jz=>k_is)
  (case jA=>k_is)
  (case lK=>k_is)
  (case lJ=>k_is)
  (case vN=>k_is)
  (case sI=>k_is)
  (case sU=>k_is)
  (case sG=>k_is)
  (case sE=>k_is)
  (case sO=>k_is)
  (case sS=>k_is)
  (case jB=>k_is)
  (case jC=>k_is)
  (case jZ=>k_is)
  (case iT=>k_is)
  (case qg=>k_is)
  (case kZ=>rfl)
  (case oN=>k_is)
  (case o7=>k_is)
  (case vP=>k_is)
  (case oY=>rfl)
  (case sX=>k_is)
  (case tO=>k_is)
  (case Ef=>k_is)
  (case uq=>rfl)
  (case yK=>k_is)
  (case zj=>k_is)
  (case yc=>k_is)
  (case ur=>rfl)
  (case yL=>k_is)
  (case zm=>k_is)
  (case o8=>k_is)
  (case m5=>rfl)
  (case mU=>k_is)
  (case m6=>k_is)
  (case vO=>k_is)
  (case tH=>rfl)
  (case sW=>k_is)
  (case tM=>k_is)
  (case j_=>rfl)
  (case j6=>k_is)
  (case kj=>rfl)
  (case j8=>k_is)
  (case mZ=>rfl)
  (case mX=>k_is)
  (case mY=>rfl)
  (case mV=>k_is)
  (case fX=>rfl)
  (case fW=>k_is)
  (case iW=>rfl)
  (case iU=>k_is)
  (case iY=>rfl)
  (case iV=>k_is)
  (case iI=>rfl)
  (case iH=>k_is)
  (case j9=>rfl)
  (case j5=>k_is)
  (case kh=>rfl)
  (case j7=>k_is)
  (case xcg=>k_is)
  (case xct=>k_is)
  (case oW=>k_is)
  (case oU=>k_is)
  (case oR=>k_is)
  (case oZ=>k_is)
  (case oO=>k_is)
  (case oM=>k_is)
  (case oX=>k_exc)
  (case tE=>k_is)
  (case tu=>k_is)
  (case sZ=>k_is)
  (case tK=>k_is)
  (case sY=>k_is)
  (case sV=>k_is)
  (case tG=>k_exc)
  (case yW=>k_is)
  (case yU=>k_is)
  (case yQ=>k_is)
  (case zc=>k_is)
  (case yP=>k_is)
  (case yI=>k_is)
  (case yZ=>k_exc)
  (case yX=>k_is)
  (case yV=>k_is)
  (case yR=>k_is)
  (case zf=>k_is)
  (case uo=>k_is)
  (case yJ=>k_is)
  (case yM=>k_is)
  (case yN=>rfl)
  (case za=>k_is)
  (case yO=>k_is)
  (case Ed=>rfl)
  (case yS=>k_is)
  (case FW=>k_is)
  (case FT=>k_is)
  (case jk=>k_is)
  (case a0=>k_is)
  (case l0=>k_is)
  (case c0=>k_is)
  (case k0=>k_is)
  (case a1=>k_is)
  (case l1=>k_is)
  (case c1=>k_is)
  (case k1=>k_is)
  (case a2=>k_is)
  (case l2=>k_is)
  (case c2=>k_is)
  (case k2=>k_is)
  (case n2=>k_is)
  (case a3=>k_is)
  (case l3=>k_is)
  (case c3=>k_is)
  (case k3=>k_is)
  (case a4=>k_is)
  (case l4=>k_is)
  (case c4=>k_is)
  (case k4=>k_is)
  (case n4=>k_is)
  (case a5=>k_is)
  (case l5=>k_is)
  (case c5=>k_is)
  (case k5=>k_is)
  (case n5=>k_is)
  (case a6=>k_is)
  (case l6=>k_is)
  (case c6=>k_is)
  (case k6=>k_is)
  (case n6=>k_is)
  (case a7=>k_is)
  (case l7=>k_is)
  (case c7=>k_is)
  (case k7=>k_is)
  (case n7=>k_is)
  (case a8=>k_is)
  (case l8=>k_is)
  (case c8=>k_is)
  (case k8=>k_is)
  (case n8=>k_is)
  (case a9=>k_is)
  (case l9=>k_is)
  (case c9=>k_is)
  (case k9=>k_is)
  (case a10=>k_is)
  (case l10=>k_is)
  (case c10=>k_is)
  (case k10=>k_is)
  (case n10=>k_is)
  (case a11=>k_is)
  (case l11=>k_is)
  (case c11=>k_is)
  (case k11=>k_is)
  (case n11=>k_is)
  (case a12=>k_is)
  (case l12=>k_is)
  (case c12=>k_is)
  (case k12=>k_is)
  (case n12=>k_is)
  (case a13=>k_is)
  (case l13=>k_is)
  (case c13=>k_is)
  (case k13=>k_is)
  (case n13=>k_is)
  (case Sy=>k_is)
  (case a14=>k_is)
  (case l14=>k_is)
  (case c14=>k_is)
  (case k14=>k_is)
  (case n14=>k_is)
  (case a15=>k_is)
  (case l15=>k_is)
  (case c15=>k_is)
  (case k15=>k_is)
  (case n15=>k_is)
  (case a16=>k_is)
  (case l16=>k_is)
  (case c16=>k_is)
  (case k16=>k_is)
  (case n16=>k_is)
  (case a17=>k_is)
  (case l17=>k_is)
  (case c17=>k_is)
  (case k17=>k_is)
  (case n17=>k_is)
  (case a18=>k_is)
  (case l18=>k_is)
  (case c18=>k_is)
  (case k18=>k_is)
  (case a19=>k_is)
  (case l19=>k_is)
  (case c19=>k_is)
  (case k19=>k_is)
  (case a20=>k_is)
  (case l20=>k_is)
  (case c20=>k_is)
  (case k20=>k_is)
  (case a21=>k_is)
  (case l21=>k_is)
  (case c21=>k_is)
  (case k21=>k_is)
  (case a22=>k_is)
  (case l22=>k_is)
  (case c22=>k_is)
  (case k22=>k_is)
  (case a23=>k_is)
  (case l23=>k_is)
  (case c23=>k_is)
  (case k23=>k_is)
  (case n23=>k_is)
  (case a24=>k_is)
  (case l24=>k_is)
  (case c24=>k_is)
  (case k24=>k_is)
  (case n24=>k_is)
  (case a25=>k_is)
  (case l25=>k_is)
  (case c25=>k_is)
  (case k25=>k_is)
  (case n25=>k_is)
  (case a26=>k_is)
  (case l26=>k_is)
  (case c26=>k_is)
  (case k26=>k_is)
  (case n26=>k_is)
  (case a27=>k_is)
  (case l27=>k_is)
  (case c27=>k_is)
  (case k27=>k_is)
  (case n27=>k_is)
  (case a28=>k_is)
  (case l28=>k_is)
  (case c28=>k_is)
  (case k28=>k_is)
  (case n28=>k_is)
  (case a29=>k_is)
  (case l29=>k_is)
  (case c29=>k_is)
  (case k29=>k_is)
  (case n29=>k_is)
  (case a30=>k_is)
  (case l30=>k_is)
  (case c30=>k_is)
  (case k30=>k_is)
  (case n30=>k_is)
  (case a31=>k_is)
  (case l31=>k_is)
  (case c31=>k_is)
  (case k31=>k_is)
  (case n31=>k_is)
  (case a32=>k_is)
  (case l32=>k_is)
  (case c32=>k_is)
  (case k32=>k_is)
  (case n32=>k_is)
  (case a33=>k_is)
  (case l33=>k_is)
  (case c33=>k_is)
  (case k33=>k_is)
  (case a34=>k_is)
  (case l34=>k_is)
  (case c34=>k_is)
  (case k34=>k_is)
  (case a35=>k_is)
  (case l35=>k_is)
  (case c35=>k_is)
  (case W9=>k_is)
  (case a36=>k_is)
  (case l36=>k_is)
  (case c36=>k_is)
  (case k36=>k_is)
  (case a37=>k_is)
  (case l37=>k_is)
  (case c37=>k_is)
  (case k37=>k_is)
  (case a38=>k_is)
  (case l38=>k_is)
  (case c38=>k_is)
  (case k38=>k_is)
  (case a39=>k_is)
  (case l39=>k_is)
  (case c39=>k_is)
  (case k39=>k_is)
  (case a40=>k_is)
  (case l40=>k_is)
  (case c40=>k_is)
  (case k40=>k_is)
  (case a41=>k_is)
  (case l41=>k_is)
  (case c41=>k_is)
  (case k41=>k_is)
  (case a42=>k_is)
  (case l42=>k_is)
  (case c42=>k_is)
  (case k42=>k_is)
  (case oK=>k_is)
  (case PB=>k_is)
  (case Jx=>k_is)
  (case qe=>k_is)
  (case Pz=>k_is)
  (case oJ=>k_is)
  (case Py=>k_is)
  (case Jw=>k_is)
  (case Px=>k_is)
  (case Pu=>k_is)
  (case Ec=>k_is)
  (case yH=>k_is)
  (case Pr=>k_is)
  (case Pq=>k_is)
  (case Eb=>k_is)
  (case Pn=>k_is)
#print axioms PySem.Challenge.cw_fewnotes_k52_held_holds
